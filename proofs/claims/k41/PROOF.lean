import PyProof.Rows.All
import Wide.All
import OpenK.AllK
import Wide.FinOn
import Lean
import PyProof.EqAt
import PyProof.EqKinds
import PyProof.TupleCall
import PyProof.SetKind
import PyProof.DictKinds
import PyProof.CompFree
import PyProof.FactsAll.set_1
import PyProof.Seq
import PyProof.Walks
import PyProof.CollectWalk
import PyProof.WalkLemmas
import PyProof.Rows.TmSorted
import PyProof.Rows.StrMeet
import PyProof.Rows.SortStr
import PyProof.Rows.SetFrom
import KE.KDictList
import PyProof.NeKinds
import PyProof.Rows.TupDisplay
import PyProof.StrOps2
import PyProof.StrBlockH
import PyProof.StrCalls2
import PyProof.StrLawsTight
import PyProof.StrLawsFirst
import PyProof.WalksEnum
import PyProof.EnumMake
import KE.KRevIter
import KE.BitLaws
import PyProof.ListRange
import PyProof.Rows.RuleM_int
import PyProof.FactsAll.int_6
import PyProof.AttrMissHeap
import KE.KDictOf
import PyProof.Rows.SortShellK
import KE.KEqDict
import PyProof.TupleOfSeq
import KE.KMinKey
import PyProof.Rows.CallKwBuiltin
import PyProof.DictValues
import PyProof.DictWalks
import KE.KPairComp
import PyProof.DictItems
import PySem.Challenge.RW_unfoldnet_k41_levels
set_option Elab.async false
set_option linter.all false
set_option maxRecDepth 100000
set_option maxHeartbeats 8000000
variable{P prog:PySem.Program}{w:PySem.World}{K:PySem.W.Frag}{mg:PySem.Str→Option PySem.Value}{base:PySem.Heap}{A:PySem.Around}{E:PySem.Value→PySem.Shared→Prop}{s:PySem.Shared}
def IE:=@PySem.wpAny_bind
def IF:=@PySem.Heap.get?_push_of_some
def IG:=@List.getElem?_eq_getElem
def IH:=@PyProof.Rows.wpS_bind
def II:=@Nat.le_refl
def IJ:=@PySem.Heap.lt_size
def IK:=@List.mem_of_getElem?
def IL:=@decide_eq_true
def IM:=@List.getElem?_eq_some_iff
def IP:=@List.mem_cons
def IQ:=@PySem.Heap.get?_push_size
def IS:=@Nat.ne_of_lt
def IT:=@PySem.PassesOwn.never
def IU:=@Nat.zero_le
def IV:=@List.mem_map
def IW:=@Nat.lt_of_lt_of_le
def IX:=@PySem.Paired.length
def IY:=@List.size_toArray
def IZ:=@PySem.F.slot_list_append
def I0:=@PySem.F.type_list_append
def Ja:=@List.mem_append
def Jb:=@PySem.F.plainAttrs_list
def Jc:=@List.take_length
def Jd:=@List.mem_singleton
def Je:=@Bool.false_ne_true
def Jf:=@Nat.le_trans
def Jg:=@Ne.symm
def Jh:=@List.length_cons
def Ji:=@PySem.sizeLine_eq
def Jj:=@List.length_take
def Jk:=@Option.some.inj
def Jl:=@List.mem_filter
def Jm:=@List.getElem?_eq_none
def Jn:=@Bool.and_eq_true_iff
def Jo:=@decide_eq_true_eq
def Jp:=@Nat.lt_succ_of_lt
def Jq:=@List.not_mem_nil
def Jr:=@Nat.pow_le_pow_right
def Js:=@List.mem_append_right
def Jt:=@Nat.lt_of_le_of_lt
def Ju:=@PySem.Heap.get?_update_other
def Jv:=@List.mem_append_left
def Jw:=@PyProof.Rows.wpS_forRange
def Jx:=@List.getElem?_append_left
def Jy:=@Bool.false_eq_true
def Jz:=@Bool.eq_iff_iff
def JA:=@Int.toNat_natCast
def JB:=@List.length_filter_le
def JC:=@Nat.lt_irrefl
def JD:=@List.foldl_cons
def JE:=@PySem.wpAny_truthy_bool
def JF:=@of_decide_eq_true
def JG:=@List.map_cons
def JH:=@PySem.W.mg_none_of
def JI:=@PySem.wpAny_holding
def JJ:=@Option.map_eq_some_iff
def JK:=@List.mem_range
def JL:=@PySem.Heap.get?_update_self
def JM:=@Array.getElem?_toList
def JN:=@PySem.Heap.SameBut.update
def JO:=@List.all_eq_true
def JP:=@PySem.Around.under_plainId
def JQ:=@List.nodup_cons
def JR:=@Array.length_toList
def JS:=@PyProof.Rows.callWith_type1
def JT:=@List.nodup_append
def JU:=@PyProof.Rows.wpS_mono
def JV:=@PySem.Heap.size_push
def JW:=@List.getElem?_append_right
def JX:=@Nat.lt_succ_self
def JY:=@Nat.le_succ
def JZ:=@PySem.Paired.snoc
def J0:=@beq_eq_false_iff_ne
def J4:=@congrArg
def J5:=@List.length_singleton
def J6:=@PySem.W.kia_one
def J7:=@PySem.codeAny_builtin
def J8:=@PySem.wpAny_Call_Name_kw
def J9:=@List.filter_append
def Ka:=@Bool.and_eq_true
def Kb:=@List.mem_of_mem_take
def Kc:=@PySem.plainId_quiet
def Kd:=@PySem.wpAny_newObj_type
def Ke:=@or_false
def Kf:=@PySem.wpAny_mono
def Kg:=@List.take_append_drop
def Kh:=@List.eq_nil_of_length_eq_zero
def Ki:=@Nat.ne_of_gt
def Kj:=@PySem.wpAny_call_entry
def Kk:=@PySem.F.called_set
def Kl:=@PySem.wpAny_rule
def Km:=@if_false
def Kn:=@List.foldl_append
def Ko:=@PySem.wpAny_setEntries_of
def Kp:=@List.take_of_length_le
def Kq:=@Nat.testBit_lt_two_pow
def Kr:=@List.any_eq_true
def Ks:=@List.lookup_cons
def Kt:=@List.length_replicate
def Ku:=@PySem.builtinLookup_eq_fast
def Kv:=@PySem.wpAny_setField
def Kw:=@List.mem_iff_getElem?
def Kx:=@PySem.wpAny_specialOf
def Ky:=@List.forIn_cons
def Kz:=@PySem.mem_of_lookup
def KA:=@Nat.testBit_two_pow
def KC:=@List.getElem_mem
def KD:=@PySem.wpAny_seqItems
def KG:=@PySem.Heap.size_update
def KH:=@decide_eq_decide
def KI:=@PySem.F.plain_max_loop
def KJ:=@beq_iff_eq
def KL:=@List.drop_of_length_le
def KN:=@List.filter_eq_nil_iff
def KO:=@PyProof.Rows.wpS_modify
def KP:=@List.mem_filterMap
def KQ:=@PyProof.Rows.F.plain_set_update_loop
def KR:=@Int.emod_lt_of_pos
def KS:=@Nat.testBit_two_pow_sub_one
def KU:=@PySem.wpAny_passesOwn
def KW:=@PySem.SeqAt.EqAt.same
def KY:=@List.find?_cons
def KZ:=@PySem.wpAny_ite_split
def K0:=@List.any_cons
def K1:=@Bool.true_and
def K2:=@PySem.wpAny_setState_of
def K3:=@Array.toList_push
def K4:=@PySem.Calls.call_function_entry
def K5:=@List.drop_eq_getElem_cons
def K6:=@Nat.mul_le_mul_right
def K7:=@List.length_drop
def K8:=@PySem.wpAny_askSetting
def K9:=@List.Perm.eq_of_pairwise
def La:=@List.filter_cons
def Lb:=@List.getElem?_range
def Lc:=@List.map_congr_left
def Ld:=@List.getElem?_replicate
def Le:=@PySem.wpAny_getItem_str_slice
def Lf:=@PyProof.Rows.wpS_get
def Lg:=@List.append_nil
def Lh:=@PySem.typeLookup_type
def Li:=@PySem.wpAny_updateSeq
def Lj:=@PyProof.Rows.size_push'
def Lk:=@Int.emod_nonneg
def Ll:=@List.find?_eq_none
def Ln:=@Nat.testBit_and
def Lp:=@PySem.wpAny_pyIter_list
def Lq:=@List.take_sublist
def Lr:=@List.pairwise_map
def Ls:=@PySem.SeqAt.RcAt.tuples
def Lu:=@Array.getElem_mem
def Lv:=@PySem.wpAny_fieldsOf
def Lw:=@Nat.testBit_or
def Lx:=@PySem.wpAny_tryCatch
def Ly:=@Nat.testBit_two_pow_mul_add
def Lz:=@PySem.wpAny_isInstance
def LA:=@Array.toArray_toList
def LB:=@Bool.or_false
def LC:=@Sum.inr.inj
def LD:=@PySem.W.mg_of
def LF:=@List.flatMap_append
def LG:=@List.filter_sublist
def LH:=@List.replicate_succ
def LI:=@List.length_pos_iff
def LJ:=@List.length_nil
def LK:=@PySem.F.plain_extend_loop
def LM:=@Nat.lt_pow_two_of_testBit
def LN:=@Nat.le_of_lt
def LO:=@Int.natCast_nonneg
def LP:=@PySem.codeAny_mono
def LQ:=@PySem.F.args_tuple_add_2
def LR:=@PySem.tupleKind_room_in1
def LS:=@PySem.wpAny_typeOf
def LU:=@PyProof.Rows.F.entry_set_update_loop
def LV:=@List.all_map
def LW:=@PySem.F.slot_list_getattribute
def LX:=@Array.size_extract
def LY:=@Nat.lt_succ_iff_lt_or_eq
def LZ:=@Bool.false_and
def L0:=@if_true
def L1:=@PySem.F.entry_tuple_add
def L3:=@Nat.exists_eq_add_of_le
def L4:=@Option.isSome_map
def L5:=@PySem.fits_of_scanBound
def L6:=@List.ext_getElem?
def L7:=@PySem.Heap.get?_push_ne
def L8:=@PySem.F.slot_tuple_hash
def L9:=@PySem.F.slot_tuple_add
def Ma:=@List.all_cons
def Mb:=@PySem.wpAny_newList
def Mc:=@Bool.not_true
def Md:=@List.nodup_range
def Me:=@List.mem_flatMap
def Mf:=@Nat.le_add_right
def Mg:=@PyProof.Rows.wpS_lift
def Mh:=@PySem.Heap.get?_none_of_le
def Mi:=@PySem.wpAny_execs_nil
def Mj:=@PyProof.Rows.entry_list_sort
def Ml:=@Nat.zero_add
def Mm:=@not_or
def Mn:=@List.any_map
def Mo:=@PySem.post_val_or_str
def Mp:=@PySem.Txt.slice_le
def Mq:=@Nat.min_eq_left
def Mr:=@Bool.or_eq_true
def Ms:=@Nat.sub_self
def Mt:=@Nat.eq_of_testBit_eq
def Mu:=@PySem.W.plainGet_of
def Mw:=@PySem.isSubtype_type
def Mx:=@PyProof.Rows.slot_list_sort
def My:=@PyProof.Rows.args_list_sort
def Mz:=@PyProof.Rows.sortedHeap_old
def MA:=@List.drop_zero
def MB:=@List.forIn_nil
def MC:=@Nat.mul_le_mul
def MD:=@List.foldl_nil
def ME:=@PySem.wpAny_letGo
def MF:=@PySem.Calls.spliced_cons
def MG:=@PySem.W.callWith_K
def MH:=@List.pairwise_cons
def MI:=@List.map_inj_right
def MJ:=@Array.forIn_toList
def MK:=@PySem.Calls.Name_function_global
def ML:=@PySem.wpAny_standAt
def MM:=@Int.fdiv_eq_ediv_of_nonneg
def MN:=@PyProof.Rows.sortedHeap_at
def MO:=@List.perm_ext_iff_of_nodup
def MP:=@PySem.Calls.spliced_nil
def MQ:=@Classical.byContradiction
def MR:=@List.pairwise_iff_getElem
def MS:=@List.getElem_inj
def MT:=@Nat.le_of_eq
def MU:=@PySem.noFill_tuple_add
def MV:=@List.map_nil
def MW:=@PySem.wpAny_comprehension_free
def MY:=@PyProof.Rows.plain_sorted
def MZ:=@PyProof.Rows.entry_sorted
def M0:=@PyProof.Rows.args_sorted1
def M3:=@Nat.min_eq_right
def M4:=@Nat.lt_of_not_le
def M5:=@PyProof.Rows.listItems_at
def M6:=@PySem.SeqAt.RcAt.lists
def M7:=@List.map_fst_zip
def M8:=@Nat.zero_testBit
def M9:=@PySem.F.entry_max_loop
def Na:=@Option.bind_eq_some_iff
def Nb:=@PySem.wpAny_callSpecial?_slot
def Nc:=@PySem.F.plain_list_iadd
def Nd:=@List.pairwise_mergeSort
def Nf:=@List.of_mem_zip
def Ng:=@Nat.min_le_left
def Nh:=@Nat.two_pow_pos
def Ni:=@List.nil_append
def Nj:=@Nat.and_le_left
def Nk:=@List.getElem?_set_self
def Nl:=@PySem.W.cellsFrom_some
def Nm:=@List.range_succ_eq_map
def Nn:=@List.map_id
def Np:=@PySem.W.methodCall_KW
def Nq:=@PySem.F.slot_set_iter
def Nr:=@PySem.F.plain_set_new
def Nt:=@Array.size_map
def Nu:=@List.getElem?_set_ne
def Nv:=@PySem.typeIs_str
def Nx:=@List.length_eraseIdx
def Ny:=@PySem.Walks.list
def Nz:=@List.getElem_toArray
def NB:=@PySem.seq_tuple_add
def ND:=@Bool.false_or
def NF:=@PySem.wpAny_attempt
def NG:=@List.map_take
def NH:=@List.map_drop
def NI:=@Bool.and_true
def NJ:=@Nat.add_le_add_left
def NK:=@Option.bind_eq_bind
def NL:=@List.mergeSort_perm
def NM:=@List.length_reverse
def NN:=@Bool.or_eq_true_iff
def NO:=@Array.toList_modify
def NP:=@List.map_eq_nil_iff
def NQ:=@List.flatten_append
def NR:=@Nat.add_zero
def NS:=@Nat.le_total
def NT:=@getElem?_pos
def NU:=@Nat.one_mul
section
namespace L2
open PySem PySem.Spec PyProof.Rows
abbrev Key:=Sum Int Str
def jF:Key→Value→Bool
 | .inl k,v=>Value.isInt k v
 | .inr x,v=>Value.isStrOf x v
def Hx(w:World):Key→Int
 | .inl k=>hashInt k
 | .inr x=>hashStr w x
def bX:∀ {k:Key} {v:Value},jF k v=true→(∃ i t,k=Sum.inl i∧v=Value.int i t)∨(∃ x t,k=Sum.inr x∧v=Value.str x t)
 | .inl i,v,h=>by
  obtain⟨t,e⟩:=Value.isInt_shape (k:=i) (v:=v) h
  exact .inl ⟨i,t,rfl,e⟩
 | .inr x,v,h=>by
  obtain⟨t,e⟩:=Value.isStrOf_shape (x:=x) (v:=v) h
  exact .inr ⟨x,t,rfl,e⟩
def x9(i:Int)(t:Tok):jF (.inl i) (.int i t)=true:=by simp [jF,Value.isInt]
def xo(x:Str)(t:Tok):jF (.inr x) (.str x t)=true:=by simp [jF,Value.isStrOf]
def Dy(a b:Int):decide ((Sum.inl a:Key)=Sum.inl b)=(a==b):=by
 by_cases e:a=b
 ·subst e;simp
 ·have h:¬(Sum.inl a:Key)=Sum.inl b:=fun q=>e (Sum.inl.inj q)
  rw [decide_eq_false h]
  exact(J0.mpr e).symm
def E2(a b:Str):decide ((Sum.inr a:Key)=Sum.inr b)=decide (a=b):=by
 by_cases e:a=b
 ·subst e;simp
 ·have h:¬(Sum.inr a:Key)=Sum.inr b:=fun q=>e (LC q)
  rw [decide_eq_false h,decide_eq_false e]
def EG(a:Int)(b:Str):decide ((Sum.inl a:Key)=Sum.inr b)=false:=decide_eq_false (fun q=>nomatch q)
def EK(a:Str)(b:Int):decide ((Sum.inr a:Key)=Sum.inl b)=false:=decide_eq_false (fun q=>nomatch q)
def aQ(prog:Program)(w:World):PySem.KeyKind prog w Key where
 is:=jF
 hash:=Hx w
 inj:=fun v a b ha hb=>by
  rcases bX ha with⟨i,t,rfl,rfl⟩ | ⟨x,t,rfl,rfl⟩
  ·rcases bX hb with⟨j,u,rfl,e⟩ | ⟨y,u,rfl,e⟩
   ·injection e with e1 _;rw [e1]
   ·exact nomatch e
  ·rcases bX hb with⟨j,u,rfl,e⟩ | ⟨y,u,rfl,e⟩
   ·exact nomatch e
   ·injection e with e1 _;rw [e1]
 byValue:=fun k v h=>by
  rcases bX h with⟨i,t,rfl,rfl⟩ | ⟨x,t,rfl,rfl⟩ <;> rfl
 pyHash:=fun hv h=>by
  rcases bX hv with⟨i,t,rfl,rfl⟩ | ⟨x,t,rfl,rfl⟩
  ·exact wpAny_pyHash_int h
  ·exact wpAny_pyHash_str h
 eqBool:=fun hu hv h=>by
  rcases bX hu with⟨i,t,rfl,rfl⟩ | ⟨x,t,rfl,rfl⟩
  ·rcases bX hv with⟨j,u,rfl,rfl⟩ | ⟨y,u,rfl,rfl⟩
   ·rw [Dy] at h;exact wpAny_eqBool_int h
   ·rw [EG] at h;exact SeqAt.EqAt.int_str i t y u _ _ _ _ h
  ·rcases bX hv with⟨j,u,rfl,rfl⟩ | ⟨y,u,rfl,rfl⟩
   ·rw [EK] at h;exact SeqAt.EqAt.str_int x t j u _ _ _ _ h
   ·rw [E2] at h;exact wpAny_eqBool_str h
 «strs»:=fun k x t v h=>by
  rcases bX h with⟨i,u,rfl,e⟩ | ⟨y,u,rfl,e⟩
  ·exact nomatch e
  ·injection e with e1 _
   subst e1
   cases v <;> rfl
def sX(prog:Program)(w:World)(k:Key)(v:Value):(aQ prog w).is k v=jF k v:=rfl
def rW(prog:Program)(w:World)(i:Int)(t:Tok):(aQ prog w).is (.inl i) (.int i t)=true:=x9 i t
def rF(prog:Program)(w:World)(x:Str)(t:Tok):(aQ prog w).is (.inr x) (.str x t)=true:=xo x t
end L2
namespace L2
open PySem PySem.Spec PyProof.Rows
inductive V where
 | non | bl (b:Bool) | int (i:Int) | str (x:Str) | byt (b:Array UInt8) | flt (b:UInt64) | ref (a:Addr) | ty (n:String)
 deriving DecidableEq
def RelV:V→Value→Prop
 | .non,u=>u=Value.none
 | .bl b,u=>u=Value.bool b
 | .int i,u=>∃ t,u=Value.int i t
 | .str x,u=>∃ t,u=Value.str x t
 | .byt b,u=>∃ t,u=Value.bytes b t
 | .flt b,u=>∃ t,u=Value.float b t
 | .ref a,u=>u=Value.ref a
 | .ty n,u=>u=Value.type n
abbrev Vals:List V→List Value→Prop:=Paired RelV
theorem Vals.length{xs:List V}{us:List Value}(r:Vals xs us):xs.length=us.length:=IX r
theorem Vals.get:∀ {xs:List V} {us:List Value} {i:Nat} {x:V},Vals xs us→xs[i]?=some x→∃ u,us[i]?=some u∧RelV x u
 | _,_,_,_,.nil,e=>by simp at e
 | _,_,0,_,.cons r _,e=>by simp at e;subst e;exact⟨_,rfl,r⟩
 | _,_,i+1,x,.cons _ t,e=>by
  obtain⟨u,h1,h2⟩:=Vals.get (i:=i) (x:=x) t (by simpa using e)
  exact⟨u,by simpa using h1,h2⟩
theorem Vals.set{x:V}{u:Value}(r:RelV x u):∀ {xs:List V} {us:List Value} (i:Nat),Vals xs us→Vals (xs.set i x) (us.set i u)
 | _,_,_,.nil=>.nil
 | _,_,0,.cons _ t=>.cons r t
 | _,_,i+1,.cons q t=>.cons q (Vals.set r i t)
theorem Vals.append:∀ {xs ys:List V} {us ws:List Value},Vals xs us→Vals ys ws→Vals (xs++ys) (us++ws)
 | _,_,_,_,.nil,s=>s
 | _,_,_,_,.cons r t,s=>.cons r (Vals.append t s)
theorem Vals.take:∀ {xs:List V} {us:List Value} (n:Nat),Vals xs us→Vals (xs.take n) (us.take n)
 | _,_,0,_=>.nil
 | _,_,_+1,.nil=>.nil
 | _,_,n+1,.cons r t=>.cons r (Vals.take n t)
theorem Vals.drop:∀ {xs:List V} {us:List Value} (n:Nat),Vals xs us→Vals (xs.drop n) (us.drop n)
 | _,_,0,r=>r
 | _,_,_+1,.nil=>.nil
 | _,_,n+1,.cons _ t=>Vals.drop n t
def iW:Option V→Option Value→Prop
 | some v,some u=>RelV v u
 | none,none=>True
 | _,_=>False
def KV{κ:Type}:List (κ × V)→List (κ × Value)→Prop:=Paired fun(p:κ × V) (q:κ × Value)=>p.1=q.1∧RelV p.2 q.2
def kV:Key→V
 | .inl i=>.int i
 | .inr x=>.str x
inductive HO where
 | lst (xs:List V)
 | tup (xs:List V)
 | dK (kvs:List (Key × V)) | dT (kvs:List (List Key × V))
 | set (S:Int→Bool) (n:Nat)
 | ins (C dx:Addr) (fs:List (Str × V))
 | own (x:Addr)
 | xd (fs:List (Str × V))
 | met (f x:Addr)
 | rng (lo hi:Int)
 | frz (o:Obj) (u:HO)
 | tbl (ps:Array Value)
 | ext (φ:Heap→Prop)
abbrev Hp:=Addr→Option HO
def upd(H:Hp)(a:Addr)(o:HO):Hp:=fun b=>if b=a then some o else H b
def ag{H:Hp}{a:Addr}{o:HO}:upd H a o a=some o:=by unfold upd;rw [if_pos rfl]
def ah{H:Hp}{a b:Addr}{o:HO}(h:b≠a):upd H a o b=H b:=by unfold upd;rw [if_neg h]
def wa{H:Hp}{a:Addr}{o u:HO}:upd (upd H a o) a u=upd H a u:=by
 funext b;unfold upd;split <;> rfl
def aJ{H:Hp}{a b:Addr}{o u:HO}(h:H a=some o)(h':H b=some u)(d:o≠u):a≠b:=by
 intro e;subst e;rw [h] at h';exact d (Jk h')
def aj{H:Hp}{a b:Addr}{o:HO}(h:H a=some o)(h':H b=none):a≠b:=by
 intro e;subst e;rw [h] at h';cases h'
section
variable (P:Program)(w:World)
def bJ(H:Hp)(h:Heap)(a:Addr):HO→Prop
 | .lst xs=>xs.length≤sizeLine∧∃ (its:List Value) (n:Nat),Vals xs its∧h.get? a=some { cls:=.type "list",data:=.seq its.toArray n }
 | .tup xs=>xs.length≤sizeLine∧∃ its:List Value,Vals xs its∧IsTup h a its.toArray
 | .dK kvs=>kvs.length≤sizeLine∧(a==sysModules)=false∧∃ vs,KV kvs vs∧h.DictOf (aQ P w) a vs
 | .dT kvs=>kvs.length≤sizeLine∧(a==sysModules)=false∧∃ xs:List (List Key × Addr × Value),
   Paired (fun(p:List Key × V) (q:List Key × Addr × Value)=>p.1=q.1∧H q.2.1=some (.tup (p.1.map kV))∧RelV p.2 q.2.2) kvs xs ∧
   ∃ o es ep,h.get? a=some o∧o.ExactDict∧o.data=.dict es ep∧es.toList=xs.map (entryOfKey (tupleKind (aQ P w)))∧(xs.map (·.1)).Nodup
 | .set S n=>h.SetOf (intKind P w) a S n
 | .ins C dx fs=>H dx=some (.own a)∧fs.length≤1000∧dx≠a∧h.get? a=some (PySem.W.instObj C dx) ∧
   ∃ mA,h.Ns1 dx mA∧(∀ f,iW (fs.lookup f) (mA f))∧PySem.Within mA (fs.map (·.1))
 | .own _=>∃ o,h.get? a=some o
 | .xd fs=>∃ mA,h.Ns1 a mA∧∀ f,iW (fs.lookup f) (mA f)
 | .rng lo hi=>∃ t u v,h.get? a=some { cls:=.type "range",data:=.fields #[.int lo t,.int hi u,.int 1 v] }
 | .frz o u=>h.get? a=some o∧bJ H h a u
 | .tbl ps=>h.get? a=some { cls:=.none,data:=.fields ps }
 | .met f x=>h.get? a=some (PySem.W.methodObj (.ref f) (.ref x))
 | .ext φ=>φ h∧(∃ o,h.get? a=some o)∧∀ h1 h2:Heap,φ h1→(∀ o,h1.get? a=some o→h2.get? a=some o)→φ h2
def jt(H:Hp)(h:Heap):Prop:=∀ a o,H a=some o→bJ P w H h a o
end
section
variable {P:Program}{w:World}{H H':Hp}{h h':Heap}{a:Addr}{o:HO}
theorem bJ.lt(x:bJ P w H h a o):a<h.objs.size:=by
 cases o with
 | lst xs=>obtain⟨_,_,_,_,e⟩:=x;exact IJ e
 | tup xs=>obtain⟨_,_,_,p⟩:=x;exact p.lt
 | dK kvs=>obtain⟨_,_,_,_,o,_,_,e,_⟩:=x;exact IJ e
 | dT kvs=>obtain⟨_,_,_,_,o,_,_,e,_⟩:=x;exact IJ e
 | set S n=>obtain⟨o,_,_,_,e,_⟩:=x;exact IJ e
 | ins C dx fs=>obtain⟨_,_,_,e,_⟩:=x;exact IJ e
 | own y=>obtain⟨_,e⟩:=x;exact IJ e
 | xd fs=>obtain⟨_,⟨_,_,_,e,_⟩,_⟩:=x;exact IJ e
 | rng lo hi=>obtain⟨_,_,_,e⟩:=x;exact IJ e
 | frz ob u=>obtain⟨e,_⟩:=x;exact IJ e
 | tbl ps=>exact IJ (show h.get? a=some _ from x)
 | met f y=>exact IJ (show h.get? a=some _ from x)
 | ext φ=>obtain⟨_,⟨_,e⟩,_⟩:=x;exact IJ e
theorem Paired.cu{α β:Type}{F G:α→β→Prop}:∀ {l₁:List α} {l₂:List β},Paired F l₁ l₂→(∀ a b,F a b→G a b)→Paired G l₁ l₂
 | _,_,.nil,_=>.nil
 | _,_,.cons r t,f=>.cons (f _ _ r) (Paired.cu t f)
def bJ.pX(x:bJ P w H h a o)(k:∀ b u,(b=a∨H b=some (.own a))→h.get? b=some u→h'.get? b=some u)
  (ho:∀ b,H b=some (.own a)→H' b=some (.own a)) (ht:∀ b xs,H b=some (.tup xs)→H' b=some (.tup xs)):bJ P w H' h' a o:=by
 induction o with
 | lst xs=>obtain⟨z,its,n,r,e⟩:=x;exact⟨z,its,n,r,k _ _ (.inl rfl) e⟩
 | tup xs=>obtain⟨z,its,r,ob,e,c⟩:=x;exact⟨z,its,r,ob,k _ _ (.inl rfl) e,c⟩
 | dK kvs=>obtain⟨z,y,vs,r,ob,es,ep,e,c⟩:=x;exact⟨z,y,vs,r,ob,es,ep,k _ _ (.inl rfl) e,c⟩
 | dT kvs =>
  obtain⟨z,y,xs,r,ob,es,ep,e,c⟩:=x
  exact⟨z,y,xs,Paired.cu r fun p q z=>⟨z.1,ht _ _ z.2.1,z.2.2⟩,ob,es,ep,k _ _ (.inl rfl) e,c⟩
 | set S n=>obtain⟨ob,es,ep,t,e,c⟩:=x;exact⟨ob,es,ep,t,k _ _ (.inl rfl) e,c⟩
 | ins C dx fs =>
  obtain⟨d,z,ne,e,mA,⟨od,es,ep,e2,c⟩,r⟩:=x
  exact⟨ho _ d,z,ne,k _ _ (.inl rfl) e,mA,⟨od,es,ep,k _ _ (.inr d) e2,c⟩,r⟩
 | own y=>obtain⟨ob,e⟩:=x;exact⟨ob,k _ _ (.inl rfl) e⟩
 | xd fs=>obtain⟨mA,⟨od,es,ep,e,c⟩,r⟩:=x;exact⟨mA,⟨od,es,ep,k _ _ (.inl rfl) e,c⟩,r⟩
 | rng lo hi=>obtain⟨t,u,v,e⟩:=x;exact⟨t,u,v,k _ _ (.inl rfl) e⟩
 | frz ob u ih=>obtain⟨e,q⟩:=x;exact⟨k _ _ (.inl rfl) e,ih q⟩
 | tbl ps =>
  have e:h.get? a=some { cls:=.none,data:=.fields ps }:=x
  show h'.get? a=some { cls:=.none,data:=.fields ps }
  exact k a _ (.inl rfl) e
 | met f y =>
  have e:h.get? a=some (PySem.W.methodObj (.ref f) (.ref y)):=x
  show h'.get? a=some (PySem.W.methodObj (.ref f) (.ref y))
  exact k a _ (.inl rfl) e
 | ext φ=>obtain⟨p,⟨o,e⟩,st⟩:=x;exact⟨st _ _ p fun o q=>k _ _ (.inl rfl) q,⟨o,k _ _ (.inl rfl) e⟩,st⟩
theorem jt.lt(x:jt P w H h)(e:H a=some o):a<h.objs.size:=(x a o e).lt
def jt.fresh(x:jt P w H h)(e:h.objs.size≤a):H a=none:=by
 cases q:H a with
 | none=>rfl
 | some u=>exact absurd (IW (x.lt q) e) (JC _)
def jt.kept(x:jt P w H h)(k:∀ b u,h.get? b=some u→h'.get? b=some u):jt P w H h':=fun a o e =>
 (x a o e).pX (fun b u _ q=>k b u q) (fun _ q=>q) fun _ _ q=>q
def jt.laid(x:jt P w H h)(k:∀ b u,h.get? b=some u→h'.get? b=some u)(hp:h.objs.size≤a)(new:bJ P w (upd H a o) h' a o):jt P w (upd H a o) h':=fun b u e=>by
 have hn:=x.fresh hp
 by_cases hb:b=a
 ·subst hb;rw [ag] at e;cases e;exact new
 ·rw [ah hb] at e
  exact(x b u e).pX (fun c v _ q=>k c v q) (fun c q=>by rw [ah (aj q hn)];exact q) fun c xs q=>by rw [ah (aj q hn)];exact q
end
def Rd(H:Hp)(a:Addr)(u:HO):Prop:=H a=some u∨∃ o,H a=some (.frz o u)
def Rd.ok{P:Program}{w:World}{H:Hp}{h:Heap}{a:Addr}{u:HO}(r:Rd H a u)(x:jt P w H h):bJ P w H h a u:=by
 rcases r with r | ⟨o,r⟩
 ·exact x a u r
 ·obtain⟨_,q⟩:=x a _ r
  exact q
def Gg:Option HO→Prop
 | some (.lst _)=>True
 | some (.dK _)=>True
 | some (.dT _)=>True
 | some (.set _ _)=>True
 | some (.ins _ _ _)=>True
 | some (.ext _)=>True
 | _=>False
section
variable {P:Program}{w:World}{H:Hp}{h h':Heap}{x e:Addr}{o':HO}
def jt.write(ok:jt P w H h)(mu:Gg (H x))(he:e=x∨H e=some (.own x))(k:∀ b u,b≠e→h.get? b=some u→h'.get? b=some u)(heo:∃ u,h'.get? e=some u)
  (new:bJ P w (upd H x o') h' x o'):jt P w (upd H x o') h':=fun b u q=>by
 have nown:∀ c y,H c=some (.own y)→c≠x:=fun c y r z=>by subst z;rw [r] at mu;exact mu
 have ntup:∀ c xs,H c=some (.tup xs)→c≠x:=fun c xs r z=>by subst z;rw [r] at mu;exact mu
 by_cases hb:b=x
 ·subst hb;rw [ag] at q;cases q;exact new
 ·rw [ah hb] at q
  by_cases hbe:b=e
  ·have q':H b=some (.own x):=by
    rcases he with z | z
    ·exact absurd (hbe.trans z) hb
    ·rw [hbe];exact z
   rw [q] at q';cases q'
   obtain⟨v,hv⟩:=heo
   exact⟨v,by rw [hbe];exact hv⟩
  ·refine(ok b u q).pX (fun c v hc r=>k c v ?_ r) (fun c r=>by rw [ah (nown c b r)];exact r) fun c xs r=>by rw [ah (ntup c xs r)];exact r
   rcases hc with rfl | hc
   ·exact hbe
   ·rintro rfl
    rcases he with z | z
    ·exact nown c b hc z
    ·rw [hc] at z;cases z;exact hb rfl
end
structure Un(fs ex:List Addr)(H H':Hp)(h h':Heap):Prop where
 keep:∀ b o,h.get? b=some o→H b=none→b∉fs→b∉ex→h'.get? b=some o
 slot:∀ b o,h.get? b=some o→H b=none→b∈fs→b∉ex→∃ sl,h'.get? b=some { o with slots:=sl }
 free:∀ b o,h.get? b=some o→H b=none→b∉ex→H' b=none
 there:∀ b o,h.get? b=some o→b∉ex→∃ o',h'.get? b=some o'
 dh:∀ b xs,H b=some (.tup xs)→H' b=some (.tup xs)
 frzs:∀ b o u,H b=some (.frz o u)→H' b=some (.frz o u)
 tbls:∀ b ps,H b=some (.tbl ps)→∃ more,H' b=some (.tbl (ps++more))
section
variable {fs fs' ex ex':List Addr}{H H1 H2:Hp}{h h1 h2 h':Heap}{a x e:Addr}{o:HO}
def Un.any(u:Un fs ex H H1 h h1){b:Addr}{ob:Obj}(q:h.get? b=some ob)(n:H b=none)(hx:b∉ex):∃ sl,h1.get? b=some { ob with slots:=sl }:=by
 by_cases hb:b∈fs
 ·exact u.slot b ob q n hb hx
 ·exact⟨ob.slots,u.keep b ob q n hb hx⟩
def Un.kept(k:∀ b u,h.get? b=some u→h'.get? b=some u):Un fs ex H H h h' :=
 ⟨fun b ob q _ _ _=>k b ob q,fun b ob q _ _ _=>⟨ob.slots,k b ob q⟩,fun _ _ _ n _=>n,fun b ob q _=>⟨ob,k b ob q⟩,fun _ _ q=>q,fun _ _ _ q=>q,fun _ ps q=>⟨#[],by rw [q];simp⟩⟩
def Un.refl:Un fs ex H H h h:=Un.kept fun _ _ q=>q
def Un.laid(k:∀ b u,h.get? b=some u→h'.get? b=some u)(hp:h.objs.size≤a)(hn:H a=none):Un fs ex H (upd H a o) h h' where
 keep:=fun b u q _ _ _=>k b u q
 slot:=fun b u q _ _ _=>⟨u.slots,k b u q⟩
 free:=fun b u q n _=>by rw [ah (IS (IW (IJ q) hp))];exact n
 there:=fun b u q _=>⟨u,k b u q⟩
 dh:=fun b xs q=>by rw [ah (aj q hn)];exact q
 frzs:=fun b u xs q=>by rw [ah (aj q hn)];exact q
 tbls:=fun b ps q=>⟨#[],by rw [ah (aj q hn),q];simp⟩
def Un.write(mu:Gg (H x))(he:e=x∨H e=some (.own x))(k:∀ b u,b≠e→h.get? b=some u→h'.get? b=some u)(heo:∃ u,h'.get? e=some u):Un fs ex H (upd H x o) h h':=by
 have hx:∀ b,H b=none→b≠x:=fun b n z=>by subst z;rw [n] at mu;exact mu
 have hb:∀ b,H b=none→b≠e:=fun b n z=>by
  subst z
  rcases he with r | r
  ·exact hx b n r
  ·rw [n] at r;cases r
 have hm:∀ b u,H b=some u→¬ Gg (some u)→b≠x:=fun b u q nm z=>by subst z;rw [q] at mu;exact nm mu
 refine⟨fun b u q n _ _=>k b u (hb b n) q,fun b u q n _ _=>⟨u.slots,k b u (hb b n) q⟩,fun b u q n _=>by rw [ah (hx b n)];exact n,fun b u q _=>?_,
  fun b xs q=>by rw [ah (hm b _ q fun z=>z)];exact q,fun b u xs q=>by rw [ah (hm b _ q fun z=>z)];exact q,fun b ps q=>⟨#[],by rw [ah (hm b _ q fun z=>z),q];simp⟩⟩
 by_cases hbe:b=e
 ·subst hbe;exact heo
 ·exact⟨u,k b u hbe q⟩
end
def GV(h:Heap)(H:Hp):List Addr:=(List.range h.objs.size).filter fun a=>(H a).isSome
def ql(h:Heap)(H:Hp):Heap:=PySem.W.hideAll h (GV h H)
def xD(h:Heap)(H:Hp):(ql h H).objs.size=h.objs.size:=PySem.W.hideAll_size _ _
def zZ{h:Heap}{H:Hp}{b:Addr}{o:Obj}(e:h.get? b=some o)(n:H b=none):(ql h H).get? b=some o :=
 PySem.W.hideAll_get _ e fun hm=>by
  have q:(H b).isSome=true:=(Jl.mp hm).2
  rw [n] at q;simp at q
def BE{h:Heap}{H:Hp}{b:Addr}{o:Obj}(e:(ql h H).get? b=some o):h.get? b=some o∧H b=none:=by
 have e':h.get? b=some o:=PySem.W.of_hideAll (GV h H) e
 refine⟨e',?_⟩
 cases q:H b with
 | none=>rfl
 | some x =>
  have hm:b∈GV h H:=Jl.mpr ⟨JK.mpr (IJ e'),by simp [q]⟩
  have z:(ql h H).get? b=none:=PySem.W.hideAll_none (GV h H) hm
  rw [z] at e;cases e
end L2
namespace L2
open PySem PySem.Spec PyProof.Rows
structure Mod(K:PySem.W.Frag)(mg:Str→Option Value)(base:Heap):Prop where
 kin:K.In base
 glob:base.Ns mainGlobals mg
 blt:∃ mb,base.Ns builtinsNs mb∧∀ x:Str,x≠"__name__"→mb x=bootBuiltins x
 nolimit:base.NoLimit
structure Cx where
 prog:Program
 w:World
 K:PySem.W.Frag
 mg:Str→Option Value
 base:Heap
 A:Around
 N:List Str
 s₀:Shared
 H₀:Hp
 env:Env
 outer:List Env
 stack:List Env
 ex:List Addr
 fn:Str→Bool
 calm:Bool
 pn:List (Addr × Obj)
 xe:Value→Shared→Prop
def kL(l:List Env):List Addr:=l.filterMap (·.frame)
abbrev Cx.fs(X:Cx):List Addr:=kL X.outer
def GX(sc:Scope)(x:Str):Prop:=sc.names.lookup x=some .local∨sc.names.lookup x=some .cell∨sc.names.lookup x=some .free
def Loc(sc:Scope)(x:Str):Prop:=sc.names.lookup x=some .local∨sc.names.lookup x=some .cell
def Look(env:Env)(h:Heap)(m:Str→Option Value)(x:Str)(u:Value):Prop :=
 (env.kindOf x=some .local∧m x=some u)∨((env.kindOf x=some .cell∨env.kindOf x=some .free)∧∃ c,env.cells.lookup x=some c∧h.IsCell c (some u))
structure Cx.Ok(X:Cx):Prop where
 mod:Mod X.K X.mg X.base
 kind:X.env.scope.kind=.function
 glob:X.env.globals=mainGlobals
 blt:X.env.builtins=builtinsNs
 above:X.s₀.heap.objs.size≤X.env.locals
 inj:∀ x y c,X.env.cells.lookup x=some c→X.env.cells.lookup y=some c→x=y
 has:∀ x,(X.env.kindOf x=some .cell∨X.env.kindOf x=some .free)→∃ c,X.env.cells.lookup x=some c
 cab:∀ x c,X.fn x=true→X.env.cells.lookup x=some c→X.s₀.heap.objs.size≤c
 hd:X.calm=true→X.A.handled=none
 frames:X.A.frames=some X.stack
 stk:X.stack=X.outer∨(X.stack=X.env::X.outer∧X.env.frame=some X.env.locals)
 exf:∀ b∈X.ex,b≠X.env.locals∧∀ x c,X.env.cells.lookup x=some c→c≠b
 bs:∀ b o,X.base.get? b=some o→X.s₀.heap.get? b=some o∧X.H₀ b=none
 bsz:X.base.objs.size≤X.s₀.heap.objs.size
 noex:∀ b o,X.base.get? b=some o→b∉X.ex
 exfs:∀ b∈X.ex,b∉X.fs
 j9:X.s₀.heap.FunFrames X.base X.outer
 frf:∀ b∈X.fs,X.H₀ b=none
structure Inv(X:Cx)(pins:List (Addr × Obj))(σ:List (Option V))(H:Hp)(s:Shared):Prop where
 ok:X.Ok
 os:s.os=X.s₀.os
 bare:AllBare s.gens
 base:Un X.fs X.ex X.H₀ H X.s₀.heap s.heap
 loc:∃ m,s.heap.Ns X.env.locals m∧∀ (i:Nat) (x:Str) (v:V),X.N[i]?=some x→σ[i]?=some (some v)→GX X.env.scope x→∃ u,RelV v u∧Look X.env s.heap m x u
 cell:∀ x c,X.env.cells.lookup x=some c→∃ v,s.heap.IsCell c v
 free:H X.env.locals=none
 freeC:∀ x c,X.env.cells.lookup x=some c→H c=none
 pin:∀ p∈X.pn++pins,s.heap.get? p.1=some p.2∧H p.1=none∧p.1≠X.env.locals∧p.1∉X.fs∧∀ v,p.2.data≠.cell v
 hok:jt X.prog X.w H s.heap
 len:σ.length=X.N.length
section
variable {X:Cx}{pins:List (Addr × Obj)}{σ:List (Option V)}{H H':Hp}{s:Shared}{h':Heap}
def Cx.Ok.HN(ok:X.Ok){b:Addr}{o:Obj}(e:X.base.get? b=some o):b∉X.fs:=fun hb=>by
 have:=(ok.j9.mem hb).1
 rw [e] at this;cases this
theorem Inv.bs(I:Inv X pins σ H s):∀ b o,X.base.get? b=some o→s.heap.get? b=some o∧H b=none:=fun b o e =>
 ⟨I.base.keep b o (I.ok.bs b o e).1 (I.ok.bs b o e).2 (I.ok.HN e) (I.ok.noex b o e),I.base.free b o (I.ok.bs b o e).1 (I.ok.bs b o e).2 (I.ok.noex b o e)⟩
def Inv.bk(I:Inv X pins σ H s):∀ b o,X.base.get? b=some o→s.heap.get? b=some o:=fun b o e=>(I.bs b o e).1
theorem Inv.mod(I:Inv X pins σ H s):Mod X.K X.mg X.base:=I.ok.mod
def Inv.kR(I:Inv X pins σ H s):X.K.In s.heap:=I.ok.mod.kin.keeps I.bk
theorem Inv.lt(I:Inv X pins σ H s):X.env.locals<s.heap.objs.size:=let ⟨_,hn,_⟩:=I.loc;hn.lt
def Inv.sz(I:Inv X pins σ H s):X.s₀.heap.objs.size≤s.heap.objs.size:=Jf I.ok.above (LN I.lt)
def Inv.HV(I:Inv X pins σ H s){a:Addr}(h:s.heap.objs.size≤a):a∉X.fs:=fun hb=>by
 obtain⟨_,o,ho,_⟩:=I.ok.j9.mem hb
 exact absurd (IW (IJ ho) (Jf I.sz h)) (JC _)
def Inv.EW(I:Inv X pins σ H s):∀ x c,X.env.cells.lookup x=some c→c≠X.env.locals:=fun x c e z=>by
 obtain⟨v,o,ho,hd⟩:=I.cell x c e
 obtain⟨m,⟨o',es,ep,ho',hd',_⟩,_⟩:=I.loc
 rw [z,ho'] at ho;cases ho;rw [hd'] at hd;cases hd
theorem Inv.j9(I:Inv X pins σ H s):s.heap.FunFrames X.base X.outer:=by
 have all:∀ (l:List Env),(∀ b∈kL l,b∈X.fs)→X.s₀.heap.FunFrames X.base l→s.heap.FunFrames X.base l:=by
  intro l
  induction l with
  | nil=>intro _ _;trivial
  | cons env r ih =>
   intro hs hl
   obtain⟨hk,⟨L,o,hf,hn,ho,hd⟩,hr⟩:=hl
   have hL:L∈X.fs:=hs L (by unfold kL;rw [List.filterMap_cons,hf];exact List.mem_cons_self)
   obtain⟨sl,e⟩:=I.base.slot L o ho (I.ok.frf L hL) hL fun z=>I.ok.exfs L z hL
   exact⟨hk,⟨L,_,hf,hn,e,hd⟩,ih (fun b hb=>hs b (by unfold kL;rw [List.filterMap_cons,hf];exact List.mem_cons_of_mem _ hb)) hr⟩
 exact all X.outer (fun _ hb=>hb) I.ok.j9
theorem Inv.stack(I:Inv X pins σ H s):s.heap.FunFrames X.base X.stack:=by
 rcases I.ok.stk with e | ⟨e,hf⟩
 ·rw [e];exact I.j9
 ·rw [e]
  obtain⟨m,hn,_⟩:=I.loc
  refine .cons (by rw [I.ok.kind];decide) hf hn ?_ I.j9
  exact Mh (Jf I.ok.bsz I.ok.above)
def Inv.tZ(I:Inv X pins σ H s):∀ b∈kL X.stack,b∈X.env.locals::X.fs:=fun b hb=>by
 rcases I.ok.stk with e | ⟨e,hf⟩
 ·rw [e] at hb;exact List.mem_cons_of_mem _ hb
 ·rw [e] at hb
  unfold kL at hb
  rw [List.filterMap_cons,hf] at hb
  exact hb
def Inv.wj(I:Inv X pins σ H s):∀ b∈kL X.stack,H b=none:=fun b hb=>by
 rcases IP.mp (I.tZ b hb) with e | hb
 ·rw [e];exact I.free
 ·obtain⟨_,o,ho,_⟩:=I.ok.j9.mem hb
  exact I.base.free b o ho (I.ok.frf b hb) fun z=>I.ok.exfs b z hb
def Inv.step{g':Array GenState}{t':Nat}{d':Drawn}{ch:List Addr}(I:Inv X pins σ H s)
  (hch:∀ b∈ch,(b∈X.ex∨X.s₀.heap.objs.size≤b)∧b≠X.env.locals∧(∀ x c,X.env.cells.lookup x=some c→c≠b)∧∀ p∈X.pn++pins,p.1≠b)
  (keep:∀ b o,b≠X.env.locals→b∉X.fs→b∉ch→s.heap.get? b=some o→H b=none→h'.get? b=some o)
  (slot:∀ b o,b≠X.env.locals→b∈X.fs→b∉ch→s.heap.get? b=some o→H b=none→∃ sl,h'.get? b=some { o with slots:=sl }) (free:∀ b o,b∉ch→s.heap.get? b=some o→H b=none→H' b=none)
  (there:∀ b o,b∉ch→s.heap.get? b=some o→∃ o',h'.get? b=some o')
  (dh:∀ b xs,H b=some (.tup xs)→H' b=some (.tup xs)) (frzs:∀ b o u,H b=some (.frz o u)→H' b=some (.frz o u)) (tbls:∀ b ps,H b=some (.tbl ps)→∃ more,H' b=some (.tbl (ps++more)))
  (ns:∀ m,s.heap.Ns X.env.locals m→h'.Ns X.env.locals m) (hok:jt X.prog X.w H' h') (hg:AllBare g') :
  Inv X pins σ H' { s with heap:=h',gens:=g',drawn:=d',toks:=t' }:=by
 have neL:∀ b o,X.s₀.heap.get? b=some o→b≠X.env.locals:=fun b o e=>IS (IW (IJ e) I.ok.above)
 have neC:∀ b o,X.s₀.heap.get? b=some o→b∉X.ex→b∉ch:=fun b o e hx hb=>by
  rcases(hch b hb).1 with z | z
  ·exact hx z
  ·exact absurd (IW (IJ e) z) (JC _)
 have cellK:∀ x c,X.env.cells.lookup x=some c→∀ v,s.heap.IsCell c v→h'.IsCell c v:=fun x c e v ⟨o,ho,hd⟩=>by
  have nch:c∉ch:=fun z=>(hch c z).2.2.1 x c e rfl
  by_cases hc:c∈X.fs
  ·obtain⟨sl,q⟩:=slot c o (I.EW x c e) hc nch ho (I.freeC x c e)
   exact⟨_,q,hd⟩
  ·exact⟨o,keep c o (I.EW x c e) hc nch ho (I.freeC x c e),hd⟩
 refine⟨I.ok,I.os,hg,⟨fun b o e n hb hx=>?_,fun b o e n hb hx=>?_,fun b o e n hx=>?_,fun b o e hx=>?_,fun b xs e=>dh b xs (I.base.dh b xs e),fun b o xs e=>frzs b o xs (I.base.frzs b o xs e),fun b ps e=>?_⟩,?_,fun x c e=>?_,?_,fun x c e=>?_,fun p hp=>?_,hok,I.len⟩
 ·exact keep b o (neL b o e) hb (neC b o e hx) (I.base.keep b o e n hb hx) (I.base.free b o e n hx)
 ·obtain⟨sl,e1⟩:=I.base.slot b o e n hb hx
  obtain⟨sl',e2⟩:=slot b _ (neL b o e) hb (neC b o e hx) e1 (I.base.free b o e n hx)
  exact⟨sl',e2⟩
 ·obtain⟨o',e1⟩:=I.base.there b o e hx
  exact free b o' (neC b o e hx) e1 (I.base.free b o e n hx)
 ·obtain⟨o',e1⟩:=I.base.there b o e hx
  exact there b o' (neC b o e hx) e1
 ·obtain⟨m1,e1⟩:=I.base.tbls b ps e
  obtain⟨m2,e2⟩:=tbls b _ e1
  exact⟨m1++m2,by rw [e2,Array.append_assoc]⟩
 ·obtain⟨m,hn,hl⟩:=I.loc
  refine⟨m,ns m hn,fun i x v e1 e2 e3=>?_⟩
  obtain⟨u,r,l⟩:=hl i x v e1 e2 e3
  refine⟨u,r,?_⟩
  rcases l with l | ⟨k,c,e,z⟩
  ·exact .inl l
  ·exact .inr ⟨k,c,e,cellK x c e _ z⟩
 ·obtain⟨v,z⟩:=I.cell x c e
  exact⟨v,cellK x c e v z⟩
 ·obtain⟨m,⟨o,_,_,ho,_⟩,_⟩:=I.loc
  exact free _ o (fun z=>(hch _ z).2.1 rfl) ho I.free
 ·obtain⟨v,o,ho,hd⟩:=I.cell x c e
  exact free c o (fun z=>(hch c z).2.2.1 x c e rfl) ho (I.freeC x c e)
 ·obtain⟨e,n,ne,nf,d⟩:=I.pin p hp
  have nch:p.1∉ch:=fun z=>(hch p.1 z).2.2.2 p hp rfl
  exact⟨keep p.1 p.2 ne nf nch e n,free p.1 p.2 nch e n,ne,nf,d⟩
def Inv.un{t':Nat}(I:Inv X pins σ H s)(u:Un X.fs [] H H' s.heap h')(hok:jt X.prog X.w H' h'):Inv X pins σ H' { s with heap:=h',toks:=t' }:=by
 obtain⟨m,⟨o,es,ep,ho,r⟩,_⟩:=id I.loc
 obtain⟨sl,hL⟩:=u.any ho I.free (by simp)
 exact I.step (g':=s.gens) (d':=s.drawn) (ch:=[]) (fun _ z=>nomatch z) (fun b o _ hb _ e n=>u.keep b o e n hb (by simp)) (fun b o _ hb _ e n=>u.slot b o e n hb (by simp)) (fun b o _ e n=>u.free b o e n (by simp)) (fun b o _ e=>u.there b o e (by simp)) u.dh u.frzs u.tbls (fun m' hm=>by
  obtain⟨o',es',ep',ho',r'⟩:=hm
  rw [ho] at ho';cases ho'
  exact⟨_,es',ep',hL,r'⟩) hok I.bare
def Inv.call{g':Array GenState}{t':Nat}{d':Drawn}{ch:List Addr}(I:Inv X pins σ H s)(u:Un (kL X.stack) ch H H' s.heap h')(hok:jt X.prog X.w H' h')(hg:AllBare g')
  (hch:∀ b∈ch,(b∈X.ex∨X.s₀.heap.objs.size≤b)∧b≠X.env.locals∧(∀ x c,X.env.cells.lookup x=some c→c≠b)∧∀ p∈X.pn++pins,p.1≠b) :
  Inv X pins σ H' { s with heap:=h',gens:=g',drawn:=d',toks:=t' }:=by
 obtain⟨m,⟨o,es,ep,ho,r⟩,_⟩:=id I.loc
 obtain⟨sl,hL⟩:=u.any ho I.free fun z=>(hch _ z).2.1 rfl
 exact I.step (ch:=ch) hch (fun b o hL hb hc e n=>u.keep b o e n (fun z=>(IP.mp (I.tZ b z)).elim hL hb) hc) (fun b o _ _ hc e n=>u.any e n hc) (fun b o hc e n=>u.free b o e n hc) (fun b o hc e=>u.there b o e hc) u.dh u.frzs u.tbls (fun m' hm=>by
  obtain⟨o',es',ep',ho',r'⟩:=hm
  rw [ho] at ho';cases ho'
  exact⟨_,es',ep',hL,r'⟩) hok hg
def Inv.turned{t':Nat}{it:Addr}(I:Inv X pins σ H s)(k:∀ b o,b≠it→s.heap.get? b=some o→h'.get? b=some o)(hn:H it=none)(hL:it≠X.env.locals)
  (h1:it∈X.ex∨X.s₀.heap.objs.size≤it) (h2:∀ x c,X.env.cells.lookup x=some c→c≠it) (h3:∀ p∈X.pn++pins,p.1≠it):Inv X pins σ H { s with heap:=h',toks:=t' }:=by
 have nit:∀ b u,H b=some u→b≠it:=fun b u e z=>by rw [z,hn] at e;cases e
 refine I.step (g':=s.gens) (d':=s.drawn) (ch:=[it]) (fun b hb=>?_) (fun b o _ _ hc e _=>k b o (fun z=>hc (by simp [z])) e) (fun b o _ _ hc e _=>⟨o.slots,k b o (fun z=>hc (by simp [z])) e⟩) (fun _ _ _ _ n=>n)
  (fun b o hc e=>⟨o,k b o (fun z=>hc (by simp [z])) e⟩) (fun _ _ e=>e) (fun _ _ _ e=>e) (fun b ps e=>⟨#[],by rw [e];simp⟩) (fun m hm=>?_) (fun b u e=>?_) I.bare
 ·have e:b=it:=by simpa using hb
  subst e
  exact⟨h1,hL,h2,h3⟩
 ·obtain⟨o,es,ep,ho,r⟩:=hm
  exact⟨o,es,ep,k _ o (Jg hL) ho,r⟩
 ·refine(I.hok b u e).pX (fun c v hc q=>k c v ?_ q) (fun _ q=>q) fun _ _ q=>q
  rcases hc with z | z
  ·rw [z];exact nit b u e
  ·exact nit c _ z
def Inv.tok(I:Inv X pins σ H s)(t:Nat):Inv X pins σ H { s with toks:=t }:=I.un (h':=s.heap) (t':=t) Un.refl I.hok
theorem Inv.kept{t':Nat}(I:Inv X pins σ H s)(k:∀ b u,s.heap.get? b=some u→h'.get? b=some u):Inv X pins σ H { s with heap:=h',toks:=t' }:=I.un (Un.kept k) (I.hok.kept k)
theorem Inv.laid{a:Addr}{o:HO}{t':Nat}(I:Inv X pins σ H s)(k:∀ b u,s.heap.get? b=some u→h'.get? b=some u)(hp:s.heap.objs.size≤a)(new:bJ X.prog X.w (upd H a o) h' a o) :
  Inv X pins σ (upd H a o) { s with heap:=h',toks:=t' }:=I.un (Un.laid k hp (I.hok.fresh hp)) (I.hok.laid k hp new)
theorem Inv.write{x e:Addr}{o:HO}{t':Nat}(I:Inv X pins σ H s)(mu:Gg (H x))(he:e=x∨H e=some (.own x))(k:∀ b u,b≠e→s.heap.get? b=some u→h'.get? b=some u)(heo:∃ u,h'.get? e=some u)
  (new:bJ X.prog X.w (upd H x o) h' x o):Inv X pins σ (upd H x o) { s with heap:=h',toks:=t' }:=I.un (Un.write mu he k heo) (I.hok.write mu he k heo new)
def Inv.wC{pins':List (Addr × Obj)}(I:Inv X pins σ H s)(h:∀ p∈pins',s.heap.get? p.1=some p.2∧H p.1=none∧p.1≠X.env.locals∧p.1∉X.fs∧∀ v,p.2.data≠.cell v):Inv X pins' σ H s :=
 ⟨I.ok,I.os,I.bare,I.base,I.loc,I.cell,I.free,I.freeC,fun p hp=>(Ja.mp hp).elim (fun z=>I.pin p (Jv _ z)) (h p),I.hok,I.len⟩
def qP{N:List Str}(hN:N.Nodup){i j:Nat}{x:Str}(a:N[i]?=some x)(b:N[j]?=some x):i=j:=by
 obtain⟨h1,e1⟩:=IM.mp a
 obtain⟨h2,e2⟩:=IM.mp b
 exact(MS hN).mp (e1.trans e2.symm)
def oz{M:Model}{A:Around}{E:Value→Shared→Prop}{i:Nat}{x:Str}{v:V}{u:Value}{Q:Unit→Shared→Prop}(I:Inv X pins σ H s)(hN:X.N.Nodup)(hi:X.N[i]?=some x)(hx:Loc X.env.scope x)(r:RelV v u)
  (h:∀ s',Inv X pins (σ.set i (some v)) H s'→(∃ a,Heap.SameBut a s.heap s'.heap∧(a=X.env.locals∨X.env.cells.lookup x=some a))→Q () s') (hf:X.fn x=true∨X.env.scope.names.lookup x=some .local:=by first | exact .inl rfl | exact .inr rfl | assumption):wpAny M A (storeName X.env x u) Q E s:=by
 obtain⟨m,hn,hl⟩:=id I.loc
 have hcls:(X.env.scope.kind==.class || (X.env.scope.kind==.module&&X.env.locals != X.env.globals))=false:=by rw [I.ok.kind];rfl
 have hiσ:i<σ.length:=by rw [I.len];exact(IM.mp hi).1
 have EW:=I.EW
 have tracked:∀ {a:Addr} {h':Heap},(∃ o,s.heap.get? a=some o∧H a=none)→Heap.SameBut a s.heap h'→jt X.prog X.w H h':=fun {a h'} ha hs b ob e=>by
  obtain⟨_,_,hfree⟩:=ha
  refine(I.hok b ob e).pX (fun c w' hc q=>(hs.2 c ?_).trans q) (fun _ q=>q) fun _ _ q=>q
  rintro rfl
  rcases hc with rfl | hc
  ·rw [hfree] at e;cases e
  ·rw [hfree] at hc;cases hc
 rcases hx with hk | hk
 ·refine wpAny_storeName_local hk hn (fun h' hn' hs=>?_) hcls
  obtain⟨oL,_,_,hoL,_⟩:=id hn
  refine h _ ⟨I.ok,I.os,I.bare,⟨fun b o e n hb hx=>?_,fun b o e n hb hx=>?_,I.base.free,fun b o e hx=>?_,I.base.dh,I.base.frzs,I.base.tbls⟩,⟨_,hn',fun j y v' e1 e2 e3=>?_⟩,fun y c e=>?_,I.free,I.freeC,fun p hp=>?_,tracked ⟨oL,hoL,I.free⟩ hs,by simpa using I.len⟩ ⟨_,hs,.inl rfl⟩
  ·exact(hs.2 b (IS (IW (IJ e) I.ok.above))).trans (I.base.keep b o e n hb hx)
  ·obtain⟨sl,e1⟩:=I.base.slot b o e n hb hx
   exact⟨sl,(hs.2 b (IS (IW (IJ e) I.ok.above))).trans e1⟩
  ·obtain⟨o',e1⟩:=I.base.there b o e hx
   exact⟨o',(hs.2 b (IS (IW (IJ e) I.ok.above))).trans e1⟩
  ·by_cases hj:j=i
   ·subst hj
    rw [hi] at e1;cases e1
    rw [Nk hiσ] at e2
    cases e2
    exact⟨u,r,.inl ⟨hk,by simp⟩⟩
   ·rw [Nu (Jg hj)] at e2
    obtain⟨u',r',q⟩:=hl j y v' e1 e2 e3
    refine⟨u',r',?_⟩
    rcases q with⟨k,e⟩ | ⟨k,c,e,z⟩
    ·refine .inl ⟨k,?_⟩
     have:y≠x:=fun e=>hj (qP hN e1 (e ▸ hi))
     simp [this,e]
    ·exact .inr ⟨k,c,e,z.sameBut hs (EW y c e)⟩
  ·obtain⟨w',z⟩:=I.cell y c e
   exact⟨w',z.sameBut hs (EW y c e)⟩
  ·obtain⟨e,n,ne,nf,d⟩:=I.pin p hp
   exact⟨(hs.2 p.1 ne).trans e,n,ne,nf,d⟩
 ·have hfn:X.fn x=true:=by
   rcases hf with z | z
   ·exact z
   ·rw [z] at hk;cases hk
  obtain⟨c,hc⟩:=I.ok.has x (.inl hk)
  obtain⟨w',z⟩:=I.cell x c hc
  refine wpAny_storeName_cell I.ok.kind hk hc z (fun h' hc' hs=>?_)
  obtain⟨oc,hoc,hocd⟩:=id z
  refine h { s with heap:=h' } ⟨I.ok,I.os,I.bare,⟨fun b o e n hb hx=>?_,fun b o e n hb hx=>?_,I.base.free,fun b o e hx=>?_,I.base.dh,I.base.frzs,I.base.tbls⟩,⟨m,hn.sameBut hs (Jg (EW x c hc)),fun j y v' e1 e2 e3=>?_⟩,fun y c' e=>?_,I.free,I.freeC,fun p hp=>?_,tracked ⟨oc,hoc,I.freeC x c hc⟩ hs,by simpa using I.len⟩ ⟨c,hs,.inr hc⟩
  ·exact(hs.2 b (IS (IW (IJ e) (I.ok.cab x c hfn hc)))).trans (I.base.keep b o e n hb hx)
  ·obtain⟨sl,e1⟩:=I.base.slot b o e n hb hx
   exact⟨sl,(hs.2 b (IS (IW (IJ e) (I.ok.cab x c hfn hc)))).trans e1⟩
  ·obtain⟨o',e1⟩:=I.base.there b o e hx
   exact⟨o',(hs.2 b (IS (IW (IJ e) (I.ok.cab x c hfn hc)))).trans e1⟩
  ·by_cases hj:j=i
   ·subst hj
    rw [hi] at e1;cases e1
    rw [Nk hiσ] at e2
    cases e2
    exact⟨u,r,.inr ⟨.inl hk,c,hc,hc'⟩⟩
   ·rw [Nu (Jg hj)] at e2
    obtain⟨u',r',q⟩:=hl j y v' e1 e2 e3
    refine⟨u',r',?_⟩
    rcases q with q | ⟨k,c',e,z'⟩
    ·exact .inl q
    ·refine .inr ⟨k,c',e,z'.sameBut hs ?_⟩
     rintro rfl
     exact hj (qP hN e1 (I.ok.inj _ _ _ e hc ▸ hi))
  ·by_cases hcc:c'=c
   ·subst hcc;exact⟨_,hc'⟩
   ·obtain⟨w2,z2⟩:=I.cell y c' e
    exact⟨w2,z2.sameBut hs hcc⟩
  ·obtain⟨e,n,ne,nf,d⟩:=I.pin p hp
   refine⟨(hs.2 p.1 ?_).trans e,n,ne,nf,d⟩
   intro q
   rw [q,hoc] at e
   have q':oc=p.2:=Jk e
   exact d w' (by rw [← q'];exact hocd)
def sI{M:Model}{A:Around}{E:Value→Shared→Prop}{i:Nat}{x:Str}{v:V}{u:Value}{Q:Unit→Shared→Prop}(I:Inv X pins σ H s)(hN:X.N.Nodup)(hi:X.N[i]?=some x)(hx:Loc X.env.scope x)(r:RelV v u)
  (h:∀ s',Inv X pins (σ.set i (some v)) H s'→Q () s') (hf:X.fn x=true∨X.env.scope.names.lookup x=some .local:=by first | exact .inl rfl | exact .inr rfl | assumption):wpAny M A (storeName X.env x u) Q E s :=
 oz I hN hi hx r (fun s' I' _=>h s' I') hf
def Inv.Fj{s':Shared}{ch:List Addr}(I:Inv X pins σ H s)(ho:s'.os=s.os)(u:Un (kL X.stack) ch H H' s.heap s'.heap)(hok:jt X.prog X.w H' s'.heap)(hg:AllBare s'.gens)
  (hch:∀ b∈ch,(b∈X.ex∨X.s₀.heap.objs.size≤b)∧b≠X.env.locals∧(∀ x c,X.env.cells.lookup x=some c→c≠b)∧∀ p∈X.pn++pins,p.1≠b):Inv X pins σ H' s':=by
 obtain⟨h',g',d',t',o'⟩:=s'
 have e:o'=s.os:=ho
 subst e
 exact I.call (g':=g') (t':=t') (d':=d') u hok hg hch
end
abbrev XK:=Value→Option Addr→Hp→Prop
abbrev St:=List (Option V)
abbrev VK:=V→Hp→Prop
abbrev TE:=St→Hp→VK→Prop
abbrev TT:=St→Hp→(Bool→Hp→Prop)→Prop
abbrev TA:=St→Hp→(List V→Hp→Prop)→Prop
structure Ends where
 nx:St→Hp→Prop
 rt:VK
 bk:St→Hp→Prop:=fun _ _=>False
 ct:St→Hp→Prop:=fun _ _=>False
abbrev TS:=Ends→St→Hp→Prop
def EP(X:Cx)(pins:List (Addr × Obj))(σ:St)(Q:VK)(u:Value)(s':Shared):Prop:=∃ v H',Inv X pins σ H' s'∧RelV v u∧Q v H'
def TP(X:Cx)(pins:List (Addr × Obj))(σ:St)(Q:Bool→Hp→Prop)(b:Bool)(s':Shared):Prop:=∃ H',Inv X pins σ H' s'∧Q b H'
def AP(X:Cx)(pins:List (Addr × Obj))(σ:St)(Q:List V→Hp→Prop)(us:List Value)(s':Shared):Prop:=∃ vs H',Inv X pins σ H' s'∧Vals vs us∧Q vs H'
def SP(X:Cx)(pins:List (Addr × Obj))(D:Ends)(f:Flow)(s':Shared):Prop :=
 match f with
 | .next=>∃ σ' H',Inv X pins σ' H' s'∧D.nx σ' H'
 | .brk=>∃ σ' H',Inv X pins σ' H' s'∧D.bk σ' H'
 | .cont=>∃ σ' H',Inv X pins σ' H' s'∧D.ct σ' H'
 | .ret u=>∃ v σ' H',Inv X pins σ' H' s'∧RelV v u∧D.rt v H'
def PE(X:Cx)(e:Expr)(t:TE):Prop :=
 ∀ (pins:List (Addr × Obj)) (s:Shared) (σ:St) (H:Hp) (Q:VK),Inv X pins σ H s→t σ H Q→wpAny (model X.prog X.w) X.A (eval e X.env) (EP X pins σ Q) X.xe s
def PT(X:Cx)(e:Expr)(t:TT):Prop :=
 ∀ (pins:List (Addr × Obj)) (s:Shared) (σ:St) (H:Hp) (Q:Bool→Hp→Prop),Inv X pins σ H s→t σ H Q→wpAny (model X.prog X.w) X.A (isTrue e X.env (eval e X.env)) (TP X pins σ Q) X.xe s
def PW(X:Cx)(e:Expr)(t:TT):Prop :=
 ∀ (whole:Sem Value) (pins:List (Addr × Obj)) (s:Shared) (σ:St) (H:Hp) (Q:Bool→Hp→Prop),Inv X pins σ H s→t σ H Q→wpAny (model X.prog X.w) X.A (isTrue e X.env whole) (TP X pins σ Q) X.xe s
def PW.pt{X:Cx}{e:Expr}{t:TT}(h:PW X e t):PT X e t:=h _
def PA(X:Cx)(es:List Expr)(t:TA):Prop :=
 ∀ (pos:Pos) (pins:List (Addr × Obj)) (s:Shared) (σ:St) (H:Hp) (Q:List V→Hp→Prop),Inv X pins σ H s→t σ H Q→wpAny (model X.prog X.w) X.A (spliced (backTo pos (starEach es X.env))) (AP X pins σ Q) X.xe s
def PS(X:Cx)(st:Stmt)(t:TS):Prop :=
 ∀ (pins:List (Addr × Obj)) (s:Shared) (σ:St) (H:Hp) (D:Ends),Inv X pins σ H s→t D σ H→wpAny (model X.prog X.w) X.A (exec st X.env) (SP X pins D) X.xe s
def uE(X:Cx)(st:List Stmt)(t:TS):Prop :=
 ∀ (pins:List (Addr × Obj)) (s:Shared) (σ:St) (H:Hp) (D:Ends),Inv X pins σ H s→t D σ H→wpAny (model X.prog X.w) X.A (execs st X.env) (SP X pins D) X.xe s
def bM{α:Type}{t:Sem α}{Q Q':α→Shared→Prop}{M:Model}{A:Around}{E:Value→Shared→Prop}{s:Shared}(h:wpAny M A t Q E s)(hQ:∀ a s,Q a s→Q' a s):wpAny M A t Q' E s:=Kf h hQ fun _ _ x=>x
end L2
namespace L2
open PySem PySem.Spec PyProof.Rows
section
variable {X:Cx}
def GA(i:Nat):TE:=fun σ H Q=>∃ v,σ[i]?=some (some v)∧Q v H
def tC(v:V):TE:=fun _ H Q=>Q v H
def ED{i:Nat}{x:Str}{pos:Pos}(hN:X.N[i]?=some x)(hv:GX X.env.scope x)(hd:(x==("__debug__":Str))=false:=by decide)(hcd:(x==("__classdict__":Str))=false:=by decide):PE X (.Name x pos) (GA i):=by
 intro pins s σ H Q I h
 obtain⟨v,e,h⟩:=h
 obtain⟨m,hn,hl⟩:=I.loc
 obtain⟨u,r,l⟩:=hl i x v hN e hv
 have fin:EP X pins σ Q u s:=⟨v,H,I,r,h⟩
 rcases l with⟨hk,hm⟩ | ⟨hk,c,hc,hcell⟩
 ·exact wpAny_Name (wpAny_loadName_local I.ok.kind hk hn hm fin) hd
 ·rcases hk with hk | hk
  ·exact wpAny_Name (wpAny_loadName_cell I.ok.kind hk hc hcell fin) hd
  ·exact wpAny_Name (wpAny_loadName_free I.ok.kind hk hc hcell fin hcd) hd
def ak{i j pos}:PE X (.Constant (.int i) j pos) (tC (.int i)):=fun _ _ _ H _ I h=>wpAny_Constant_int ⟨.int i,H,I.tok _,⟨_,rfl⟩,h⟩
def jP{b j pos}:PE X (.Constant (.bool b) j pos) (tC (.bl b)):=fun _ _ _ H _ I h=>Constant_bool ⟨.bl b,H,I,rfl,h⟩
def ir{j pos}:PE X (.Constant .none j pos) (tC .non):=fun _ _ _ H _ I h=>Constant_none ⟨.non,H,I,rfl,h⟩
def tU{x j pos}:PE X (.Constant (.str x) j pos) (tC (.str x)):=fun _ _ _ H _ I h=>Calls.Constant_str ⟨.str x,H,I.tok _,⟨_,rfl⟩,h⟩
def Gl(X:Cx)(x:Str):Prop:=X.env.kindOf x=some .globalImplicit
def px{E:Value→Shared→Prop}{pins:List (Addr × Obj)}{s:Shared}{σ:St}{H:Hp}{x:Str}{u:Value}{pos:Pos}{Q:Value→Shared→Prop}(I:Inv X pins σ H s)(hg:Gl X x)(hm:X.mg x=some u)(h:Q u s)
  (hd:(x==("__debug__":Str))=false:=by decide):wpAny (model X.prog X.w) X.A (eval (.Name x pos) X.env) Q E s :=
 MK I.ok.kind hg (Calls.loadGlobal_global (by rw [I.ok.glob];exact I.mod.glob.keeps I.bk) hm h) hd
def gk{E:Value→Shared→Prop}{pins:List (Addr × Obj)}{s:Shared}{σ:St}{H:Hp}{x:Str}{u:Value}{pos:Pos}{Q:Value→Shared→Prop}(I:Inv X pins σ H s)(hg:Gl X x)(hm:X.mg x=none)(hv:bootBuiltins x=some u)(h:Q u s)
  (hn:x≠"__name__":=by decide) (hd:(x==("__debug__":Str))=false:=by decide):wpAny (model X.prog X.w) X.A (eval (.Name x pos) X.env) Q E s:=by
 obtain⟨mb,h1,h2⟩:=I.mod.blt
 exact MK I.ok.kind hg (Calls.loadGlobal_builtin (by rw [I.ok.glob];exact I.mod.glob.keeps I.bk) hm (by rw [I.ok.blt];exact h1.keeps I.bk) ((h2 x hn).trans hv) h) hd
def gQ{x:Str}{v:V}{u:Value}{pos:Pos}(hg:Gl X x)(hm:X.mg x=some u)(r:RelV v u)(hd:(x==("__debug__":Str))=false:=by decide):PE X (.Name x pos) (tC v) :=
 fun _ _ _ H _ I h=>px I hg hm ⟨v,H,I,r,h⟩ hd
def jS{x:Str}{v:V}{u:Value}{pos:Pos}(hg:Gl X x)(hm:X.mg x=none)(hv:bootBuiltins x=some u)(r:RelV v u)(hn:x≠"__name__":=by decide)(hd:(x==("__debug__":Str))=false:=by decide):PE X (.Name x pos) (tC v) :=
 fun _ _ _ H _ I h=>gk I hg hm hv ⟨v,H,I,r,h⟩ hn hd
variable {a b:Expr}{ta tb:TE}{pos:Pos}
def PC(X:Cx)(op:CmpOp)(a b:Expr)(t:TE):Prop :=
 ∀ (pins:List (Addr × Obj)) (s:Shared) (σ:St) (H:Hp) (Q:VK),Inv X pins σ H s→t σ H Q →
  wpAny (model X.prog X.w) X.A (eval a X.env) (fun v s₁=>wpAny (model X.prog X.w) X.A (eval b X.env) (fun u s₂=>wpAny (model X.prog X.w) X.A (compareOp op v u) (EP X pins σ Q) X.xe s₂) X.xe s₁) X.xe s
def yI(b:Expr){op:CmpOp}(h:op≠.In)(h2:op≠.NotIn):behindInMarks op b=false:=by
 have e1:(op==CmpOp.In)=false:=by cases op <;> first | rfl | exact absurd rfl h
 have e2:(op==CmpOp.NotIn)=false:=by cases op <;> first | rfl | exact absurd rfl h2
 cases b <;> simp [behindInMarks,e1,e2]
def Ft(ta:TE):TE:=fun σ H Q=>ta σ H fun x H1=>Q (.bl (!decide (x=.non))) H1
def RelV.Az{x:V}{v:Value}(r:RelV x v):(v==Value.none)=decide (x=.non):=by
 cases x with
 | non=>cases r;rfl
 | bl _=>cases r;rfl
 | int _=>obtain⟨t,rfl⟩:=r;rfl
 | str _=>obtain⟨t,rfl⟩:=r;rfl
 | byt _=>obtain⟨t,rfl⟩:=r;rfl
 | flt _=>obtain⟨t,rfl⟩:=r;rfl
 | ref _=>cases r;rfl
 | ty _=>cases r;rfl
def qu{j pos'}(ha:PE X a ta):PC X .IsNot a (.Constant .none j pos') (Ft ta):=by
 intro pins s σ H Q I h
 refine bM (ha pins s σ H _ I h) fun v s1 ⟨x,H1,I1,r1,q1⟩=>?_
 exact Constant_none (isnot_none_gen ⟨.bl _,H1,I1,by rw [r1.Az];rfl,q1⟩)
def tB(t:TE):TT:=fun σ H Q=>t σ H fun x H1=>∃ c,x=.bl c∧Q c H1
def ke{op:CmpOp}{t:TE}(h:PC X op a b t)(h1:behindInMarks op b=false:=by first | exact yI _ (by decide) (by decide) | rfl):PT X (.Compare a [op] [b] pos) (tB t):=by
 intro pins s σ H Q I hw
 refine wpAny_isTrue_Compare1 (bM (h pins s σ H _ I hw) fun v s1 h1=>bM h1 fun u s2 h2=>bM h2 fun c s3 ⟨x,H1,I1,r1,q1⟩=>?_) h1
 obtain⟨d,rfl,q⟩:=q1
 cases r1
 exact JE ⟨H1,I1,q⟩
def cf{e:Expr}{t:TE}(h:PE X e t)(he:∀ whole,isTrue e X.env whole=(do let v ← whole;standAt e.pos;holding [v] (truthy v)):=by intro _;rfl):PT X e (tB t):=by
 intro pins s σ H Q I hw
 refine isTrue_plain (bM (h pins s σ H _ I hw) fun v s1 ⟨x,H1,I1,r1,q1⟩=>?_) (he _)
 obtain⟨d,rfl,q⟩:=q1
 cases r1
 exact JE ⟨H1,I1,q⟩
variable {tA tB':TT}{rest:List Expr}
def Hk(t u:TT):TT:=fun σ H Q=>t σ H fun c H1=>if c=true then u σ H1 Q else Q false H1
def tOr(t u:TT):TT:=fun σ H Q=>t σ H fun c H1=>if c=true then Q true H1 else u σ H1 Q
def Iu(t:TT):TT:=fun σ H Q=>t σ H fun c H1=>Q (!c) H1
def pw_and1(ha:PT X a tA):PW X (.BoolOp .And [a] pos) tA:=by
 intro wh pins s σ H Q I h
 refine isTrue_and (bM (ha pins s σ H Q I h) fun c s1 e=>?_)
 cases c with
 | true=>exact isTrue_and_nil e
 | false=>exact e
def pw_or1(ha:PT X a tA):PW X (.BoolOp .Or [a] pos) tA:=by
 intro wh pins s σ H Q I h
 refine isTrue_or (bM (ha pins s σ H Q I h) fun c s1 e=>?_)
 cases c with
 | false=>exact isTrue_or_nil e
 | true=>exact e
def pw_and(ha:PT X a tA)(hb:PW X (.BoolOp .And (b::rest) pos) tB'):PW X (.BoolOp .And (a::b::rest) pos) (Hk tA tB'):=by
 intro wh pins s σ H Q I h
 refine isTrue_and (bM (ha pins s σ H _ I h) fun c s1 ⟨H1,I1,q1⟩=>?_)
 cases c with
 | true=>exact hb wh pins s1 σ H1 Q I1 q1
 | false=>exact⟨H1,I1,q1⟩
def pw_or(ha:PT X a tA)(hb:PW X (.BoolOp .Or (b::rest) pos) tB'):PW X (.BoolOp .Or (a::b::rest) pos) (tOr tA tB'):=by
 intro wh pins s σ H Q I h
 refine isTrue_or (bM (ha pins s σ H _ I h) fun c s1 ⟨H1,I1,q1⟩=>?_)
 cases c with
 | true=>exact⟨H1,I1,q1⟩
 | false=>exact hb wh pins s1 σ H1 Q I1 q1
def cz(ha:PT X a tA):PT X (.UnaryOp .Not a pos) (Iu tA):=by
 intro pins s σ H Q I h
 exact isTrue_not (ha pins s σ H (fun c H1=>Q (!c) H1) I h)
def Gx(ta tb:TE):TE:=fun σ H Q=>ta σ H fun x H1=>∃ c,x=.bl c∧if c=true then tb σ H1 Q else Q (.bl false) H1
def Gp(ta:TE):TE:=fun σ H Q=>ta σ H fun x H1=>∃ c,x=.bl c∧Q (.bl (!c)) H1
def ko{op}{t:TE}(h:PE X a t):PE X (.BoolOp op [a] pos) t:=fun pins s σ H Q I hw=>BoolOp_one (h pins s σ H Q I hw)
def kD(ha:PE X a ta)(hb:PE X (.BoolOp .And (b::rest) pos) tb):PE X (.BoolOp .And (a::b::rest) pos) (Gx ta tb):=by
 intro pins s σ H Q I h
 refine BoolOp_and (bM (ha pins s σ H _ I h) fun v s1 ⟨x,H1,I1,r1,q1⟩=>?_)
 obtain⟨c,rfl,q1⟩:=q1
 cases r1
 refine JE ?_
 cases c with
 | true=>exact hb pins s1 σ H1 Q I1 q1
 | false=>exact⟨.bl false,H1,I1,rfl,q1⟩
def E7(ha:PE X a ta):PE X (.UnaryOp .Not a pos) (Gp ta):=by
 intro pins s σ H Q I h
 refine UnaryOp_ (bM (ha pins s σ H _ I h) fun v s1 ⟨x,H1,I1,r1,q1⟩=>?_)
 obtain⟨c,rfl,q1⟩:=q1
 cases r1
 exact not_of (JE ⟨.bl (!c),H1,I1,rfl,q1⟩)
end
end L2
namespace L2
open PySem PySem.Spec PyProof.Rows
def aA(K:PySem.W.Frag)(H:Hp)(a:Addr)(xs:List V):Prop :=
 Rd H a (.lst xs) ∨
  ∃ (o:Obj) (its:Array Value) (n:Nat),K.lookup a=some o∧o.cls=.type "list"∧o.dict=none∧o.data=.seq its n∧its.size≤sizeLine∧Vals xs its.toList
def bO(K:PySem.W.Frag)(H:Hp)(a:Addr)(xs:List V):Prop :=
 Rd H a (.tup xs) ∨
  ∃ (o:Obj) (its:Array Value) (n:Nat),K.lookup a=some o∧o.cls=.type "tuple"∧o.data=.seq its n∧its.size≤sizeLine∧Vals xs its.toList
def HS:Value→Option V
 | .none=>some .non
 | .bool b=>some (.bl b)
 | .int i _=>some (.int i)
 | .str x _=>some (.str x)
 | .bytes b _=>some (.byt b)
 | .float b _=>some (.flt b)
 | .ref a=>some (.ref a)
 | .type n=>some (.ty n)
 | _=>none
def RelV.abs{x:V}{u:Value}(r:RelV x u):HS u=some x:=by
 cases x with
 | non=>cases r;rfl
 | bl _=>cases r;rfl
 | int _=>obtain⟨t,rfl⟩:=r;rfl
 | str _=>obtain⟨t,rfl⟩:=r;rfl
 | byt _=>obtain⟨t,rfl⟩:=r;rfl
 | flt _=>obtain⟨t,rfl⟩:=r;rfl
 | ref _=>cases r;rfl
 | ty _=>cases r;rfl
theorem RelV.inj{x y:V}{u:Value}(r:RelV x u)(q:RelV y u):x=y:=Jk (r.abs.symm.trans q.abs)
theorem Vals.inj:∀ {xs ys:List V} {us:List Value},Vals xs us→Vals ys us→xs=ys
 | _,_,_,.nil,.nil=>rfl
 | _,_,_,.cons r t,.cons r' t'=>by rw [r.inj r',Vals.inj t t']
section
variable {X:Cx}{pins:List (Addr × Obj)}{σ:St}{H:Hp}{s:Shared}{a:Addr}{xs ys:List V}
def aA.of{K:PySem.W.Frag}(h:H a=some (.lst xs)):aA K H a xs:=.inl (.inl h)
def bO.of{K:PySem.W.Frag}(h:H a=some (.tup xs)):bO K H a xs:=.inl (.inl h)
def Inv.list(I:Inv X pins σ H s)(h:aA X.K H a xs):∃ its:List Value,Vals xs its∧PlainL s.heap a its.toArray∧xs.length≤sizeLine:=by
 rcases h with h | ⟨o,its,n,hk,hc,hd,hs,hz,r⟩
 ·obtain⟨z,its,n,r,e⟩:=h.ok I.hok
  exact⟨its,r,⟨_,n,e,rfl,rfl,rfl⟩,z⟩
 ·refine⟨its.toList,r,⟨o,n,I.kR a o hk,hc,hd,by simpa using hs⟩,?_⟩
  have e:=r.length
  simp only [JR] at e
  lia
def Inv.tuple(I:Inv X pins σ H s)(h:bO X.K H a xs):∃ its:List Value,Vals xs its∧IsTup s.heap a its.toArray∧xs.length≤sizeLine:=by
 rcases h with h | ⟨o,its,n,hk,hc,hs,hz,r⟩
 ·obtain⟨z,its,r,p⟩:=h.ok I.hok
  exact⟨its,r,p,z⟩
 ·refine⟨its.toList,r,⟨o,I.kR a o hk,hc,n,by simpa using hs⟩,?_⟩
  have e:=r.length
  simp only [JR] at e
  lia
def Inv.qM(I:Inv X pins σ H s)(h:aA X.K H a xs)(h':aA X.K H a ys):xs=ys:=by
 obtain⟨its,r,⟨o,n,e,_,_,d⟩,_⟩:=I.list h
 obtain⟨its',r',⟨o',n',e',_,_,d'⟩,_⟩:=I.list h'
 rw [e] at e';cases e'
 rw [d] at d'
 injection d' with d1 _
 have:its=its':=by simpa using J4 Array.toList d1
 subst this
 exact r.inj r'
def Inv.o7(I:Inv X pins σ H s)(h:bO X.K H a xs)(h':bO X.K H a ys):xs=ys:=by
 obtain⟨its,r,⟨o,e,_,n,d⟩,_⟩:=I.tuple h
 obtain⟨its',r',⟨o',e',_,n',d'⟩,_⟩:=I.tuple h'
 rw [e] at e';cases e'
 rw [d] at d'
 injection d' with d1 _
 have:its=its':=by simpa using J4 Array.toList d1
 subst this
 exact r.inj r'
end
abbrev Cx.nU(X:Cx)(E:Value→Shared→Prop):Cx:={ X with xe:=E }
abbrev Cx.vG(X:Cx):Cx:=X.nU fun _ _=>False
theorem Cx.Ok.nU{X:Cx}(ok:X.Ok)(E:Value→Shared→Prop):(X.nU E).Ok :=
 ⟨ok.mod,ok.kind,ok.glob,ok.blt,ok.above,ok.inj,ok.has,ok.cab,ok.hd,ok.frames,ok.stk,ok.exf,ok.bs,ok.bsz,ok.noex,ok.exfs,ok.j9,ok.frf⟩
def Cx.Ok.hZ{X:Cx}{E:Value→Shared→Prop}(ok:(X.nU E).Ok):X.Ok :=
 ⟨ok.mod,ok.kind,ok.glob,ok.blt,ok.above,ok.inj,ok.has,ok.cab,ok.hd,ok.frames,ok.stk,ok.exf,ok.bs,ok.bsz,ok.noex,ok.exfs,ok.j9,ok.frf⟩
section
variable {X:Cx}{pins:List (Addr × Obj)}{σ:St}{H:Hp}{s:Shared}{E:Value→Shared→Prop}
theorem Inv.nU(I:Inv X pins σ H s)(E:Value→Shared→Prop):Inv (X.nU E) pins σ H s:=⟨I.ok.nU E,I.os,I.bare,I.base,I.loc,I.cell,I.free,I.freeC,I.pin,I.hok,I.len⟩
theorem Inv.hZ(I:Inv (X.nU E) pins σ H s):Inv X pins σ H s:=⟨I.ok.hZ,I.os,I.bare,I.base,I.loc,I.cell,I.free,I.freeC,I.pin,I.hok,I.len⟩
theorem SP.hZ{D:Ends}{f:Flow}{s':Shared}(h:SP (X.nU E) pins D f s'):SP X pins D f s':=by
 cases f with
 | next=>obtain⟨σ',H',I,q⟩:=h;exact⟨σ',H',I.hZ,q⟩
 | brk=>obtain⟨σ',H',I,q⟩:=h;exact⟨σ',H',I.hZ,q⟩
 | cont=>obtain⟨σ',H',I,q⟩:=h;exact⟨σ',H',I.hZ,q⟩
 | ret u=>obtain⟨v,σ',H',I,r,q⟩:=h;exact⟨v,σ',H',I.hZ,r,q⟩
theorem uE.vG{st:List Stmt}{t:TS}(h:uE X.vG st t):uE X st t:=fun pins s σ H D I hw =>
 Kf (h pins s σ H D (I.nU _) hw) (fun _ _ q=>q.hZ) fun _ _ z=>False.elim z
end
section
variable {X:Cx}{st:Stmt}{rest:List Stmt}{t u:TS}{e:Expr}{te:TE}{pos:Pos}
def Fg:TS:=fun D σ H=>D.nx σ H
def Fw(t u:TS):TS:=fun D σ H=>t { D with nx:=u D } σ H
def aU:uE X [] Fg:=fun _ _ σ H _ I h=>Mi ⟨σ,H,I,h⟩
def af(h1:PS X st t)(h2:uE X rest u):uE X (st::rest) (Fw t u):=by
 intro pins s σ H D I h
 refine wpAny_execs_cons (bM (h1 pins s σ H { D with nx:=u D } I h) fun f s1 q=>?_)
 cases f with
 | next =>
  obtain⟨σ',H',I',q⟩:=q
  exact h2 pins s1 σ' H' D I' q
 | ret v=>exact q
 | brk=>exact q
 | cont=>exact q
def ai(h1:PS X st t):uE X [st] t:=by
 intro pins s σ H D I h
 refine wpAny_execs_cons (bM (h1 pins s σ H D I h) fun f s1 q=>?_)
 cases f with
 | next=>exact Mi q
 | ret v=>exact q
 | brk=>exact q
 | cont=>exact q
def Inv.quiet{pins:List (Addr × Obj)}{σ:St}{H:Hp}{s:Shared}(I:Inv X pins σ H s):interactive X.env=false:=by simp [interactive,I.ok.kind]
def Gk(te:TE):TS:=fun D σ H=>te σ H fun _ H1=>D.nx σ H1
def a9(he:PE X e te)(hs:swapsWith e none pos.line X.env=pure false:=by rfl):PS X (.Expr e pos) (Gk te):=by
 intro pins s σ H D I h
 exact wpAny_Expr_any (bM (he pins s σ H _ I h) fun v s1 ⟨x,H1,I1,r1,q1⟩=>⟨σ,H1,I1,q1⟩) I.quiet hs
def HE(te:TE):TS:=fun D σ H=>te σ H D.rt
def aI(he:PE X e te):PS X (.Return (some e) pos) (HE te):=by
 intro pins s σ H D I h
 exact wpAny_Return_some (bM (he pins s σ H _ I h) fun v s1 ⟨x,H1,I1,r1,q1⟩=>⟨x,σ,H1,I1,r1,q1⟩)
def HX(c:TT)(t u:TS):TS:=fun D σ H=>c σ H fun b H1=>if b=true then t D σ H1 else u D σ H1
def bH{c:Expr}{a b:List Stmt}{tc:TT}(hc:PT X c tc)(ha:uE X a t)(hb:uE X b u):PS X (.If c a b pos) (HX tc t u):=by
 intro pins s σ H D I h
 refine wpAny_If (bM (hc pins s σ H _ I h) fun d s1 ⟨H1,I1,q1⟩=>?_)
 cases d with
 | true=>exact ha pins s1 σ H1 D I1 q1
 | false=>exact hb pins s1 σ H1 D I1 q1
def zx:TS:=fun _ _ _=>False
def cV:PS X st zx:=fun _ _ _ _ _ _ h=>h.elim
def ot{sts:List Stmt}:uE X sts zx:=fun _ _ _ _ _ _ h=>h.elim
end
abbrev TG:=V→St→Hp→(St→Hp→Prop)→Prop
abbrev Dz:=List V→St→Hp→(St→Hp→Prop)→Prop
def PG(X:Cx)(target:Expr)(t:TG):Prop :=
 ∀ (pins:List (Addr × Obj)) (s:Shared) (σ:St) (H:Hp) (v:V) (u:Value) (Q:St→Hp→Prop),Inv X pins σ H s→RelV v u→t v σ H Q →
  wpAny (model X.prog X.w) X.A (assign target X.env u) (fun _ s'=>∃ σ' H',Inv X pins σ' H' s'∧Q σ' H') X.xe s
def GW(X:Cx)(ts:List Expr)(t:Dz):Prop :=
 ∀ (pins:List (Addr × Obj)) (s:Shared) (σ:St) (H:Hp) (vs:List V) (us:List Value) (Q:St→Hp→Prop),Inv X pins σ H s→Vals vs us→t vs σ H Q →
  wpAny (model X.prog X.w) X.A (assignInOrder ((assignEach ts X.env).map (·.2)) us) (fun _ s'=>∃ σ' H',Inv X pins σ' H' s'∧Q σ' H') X.xe s
abbrev Dm:=V→V→V→Hp→(Hp→Prop)→Prop
def Gd(X:Cx)(t:Dm):Prop :=
 ∀ (pins:List (Addr × Obj)) (s:Shared) (σ:St) (H:Hp) (o i v:V) (ov iv u:Value) (Q:Hp→Prop),Inv X pins σ H s→RelV o ov→RelV i iv→RelV v u→t o i v H Q →
  wpAny (model X.prog X.w) X.A (setItem ov iv u) (fun _ s'=>∃ H',Inv X pins σ H' s'∧Q H') X.xe s
section
variable {X:Cx}{pos:Pos}
def ij(i:Nat):TG:=fun v σ H Q=>Q (σ.set i (some v)) H
def ve{i:Nat}{x:Str}(hN:X.N.Nodup)(hi:X.N[i]?=some x)(hx:Loc X.env.scope x)(hf:X.fn x=true∨X.env.scope.names.lookup x=some .local:=by first | exact .inl rfl | exact .inr rfl | assumption):PG X (.Name x pos) (ij i):=by
 intro pins s σ H v u Q I r h
 exact wpAny_assign_Name (sI I hN hi hx r (fun s' I'=>⟨_,H,I',h⟩) hf)
def Hw:Dz:=fun vs σ H Q=>vs=[]∧Q σ H
def F9(t:TG)(u:Dz):Dz:=fun vs σ H Q=>∃ v r,vs=v::r∧t v σ H fun σ' H'=>u r σ' H' Q
def cH:GW X [] Hw:=by
 intro pins s σ H vs us Q I r h
 obtain⟨e,h⟩:=h
 subst e
 cases r
 exact assignInOrder_nil ⟨σ,H,I,h⟩
def aL{e:Expr}{es:List Expr}{t:TG}{u:Dz}(h1:PG X e t)(h2:GW X es u)
  (hs:(assignEach (e::es) X.env).map (·.2)=assign e X.env::(assignEach es X.env).map (·.2):=by rfl):GW X (e::es) (F9 t u):=by
 intro pins s σ H vs us Q I r h
 obtain⟨v,vr,e1,h⟩:=h
 subst e1
 cases r with
 | cons r rr =>
  rw [hs]
  refine assignInOrder_cons (bM (h1 pins s σ H _ _ _ I r h) fun _ s1 ⟨σ1,H1,I1,q1⟩=>?_)
  exact h2 pins s1 σ1 H1 _ _ Q I1 rr q1
def Iy(K:PySem.W.Frag)(n:Nat)(t:Dz):TG:=fun v σ H Q=>∃ a xs,v=.ref a∧bO K H a xs∧xs.length=n∧t xs σ H Q
def dt{es:List Expr}{k:Nat}{t:Dz}{n:Nat}(hc:X.calm=true)(h:GW X es t)
  (hn:(assignEach es X.env).length=n:=by rfl) (hst:(assignEach es X.env).findIdx? (·.1)=none:=by rfl):PG X (.Tuple es k pos) (Iy X.K n t):=by
 intro pins s σ H v u Q I r hw
 obtain⟨a,xs,e1,hq,hl,hw⟩:=hw
 subst e1
 cases r
 obtain⟨its,rv,ht,hz⟩:=I.tuple hq
 refine assign_Tuple_tuple (I.ok.hd hc) ht (by simp [hn,← hl,rv.length]) hst fun h' hx=>?_
 have I1:Inv X pins σ H { s with heap:=h' }:=I.kept (t':=s.toks) fun b o e=>hx b o (IS (IJ e)) e
 exact h pins _ σ H xs _ Q I1 (by simpa using rv) hw
def IB(to ti:TE)(t:Dm):TG:=fun v σ H Q=>to σ H fun o H1=>ti σ H1 fun i H2=>t o i v H2 fun H3=>Q σ H3
def qw{o i:Expr}{to ti:TE}{t:Dm}(ho:PE X o to)(hi:PE X i ti)(hs:Gd X t)
  (ha:∀ v,assign (.Subscript o i pos) X.env v = (do
   let ov ← holding [v] (eval o X.env)
   let iv ← holding [v,ov] (eval i X.env)
   standAt pos
   holding [v,ov,iv] (setItem ov iv v)
   release [v,ov,iv] []):=by intro _;rfl):PG X (.Subscript o i pos) (IB to ti t):=by
 intro pins s σ H v u Q I r h
 rw [ha]
 refine IE (JI (bM (ho pins s σ H _ I h) fun ov s1 ⟨x,H1,I1,r1,q1⟩=>?_))
 refine IE (JI (bM (hi pins s1 σ H1 _ I1 q1) fun iv s2 ⟨y,H2,I2,r2,q2⟩=>?_))
 refine IE (ML (IE (JI (bM (hs pins s2 σ H2 x y v ov iv u _ I2 r1 r2 r q2) fun _ s3 ⟨H3,I3,q3⟩=>?_))))
 exact wpAny_release ⟨σ,H3,I3,q3⟩
def B1(te:TE)(g:TG):TS:=fun D σ H=>te σ H fun x H1=>g x σ H1 D.nx
def jo{tg e:Expr}{te:TE}{g:TG}(he:PE X e te)(hg:PG X tg g)(hs:swapsWithSole [tg] e pos.line X.env=pure false:=by rfl)(hw:swappedStores [tg] e X.env=pure none:=by rfl)
  (h1:(assignEach [tg] X.env).map (·.2)=[assign tg X.env]:=by rfl):PS X (.Assign [tg] e pos) (B1 te g):=by
 intro pins s σ H D I h
 refine wpAny_Assign_stores (bM (he pins s σ H _ I h) fun v s1 ⟨x,H1,I1,r1,q1⟩=>?_) hs hw
 rw [h1]
 exact bM (hg pins s1 σ H1 x v _ I1 r1 q1) fun _ s2 q=>q
def EO{i:Nat}{x:Str}{e:Expr}{te:TE}{pos':Pos}(hN:X.N.Nodup)(hi:X.N[i]?=some x)(hx:Loc X.env.scope x)(he:PE X e te)(hs:swapsWith e (some (.Name x pos')) pos.line X.env=pure false:=by rfl)(hf:X.fn x=true∨X.env.scope.names.lookup x=some .local:=by first | exact .inl rfl | exact .inr rfl | assumption) :
  PS X (.Assign [.Name x pos'] e pos) (B1 te (ij i)):=by
 intro pins s σ H D I h
 refine wpAny_Assign_Name (bM (he pins s σ H _ I h) fun v s1 ⟨y,H1,I1,r1,q1⟩=>?_) hs
 exact sI I1 hN hi hx r1 (fun s2 I2=>⟨_,H1,I2,q1⟩) hf
end
section
variable {X:Cx}{pos:Pos}
def Ez(c:TT)(tb:TS):TS:=fun D σ H=>∃ W:Nat→St→Hp→Prop,(∃ m,W m σ H)∧∀ m σ H,W m σ H →
 c σ H fun b H1=>if b=true then ∃ N:St→Hp→Prop,(∀ σ' H',N σ' H'→∃ m',m'<m∧W m' σ' H')∧tb { D with nx:=N,ct:=N,bk:=D.nx } σ H1 else D.nx σ H1
def jB{c:Expr}{body:List Stmt}{tc:TT}{tb:TS}(hp:PassesOwn (model X.prog X.w) X.A X.env X.xe)(hc:PT X c tc)(hb:uE X body tb):PS X (.While c body [] pos) (Ez tc tb):=by
 intro pins s σ H D I h
 obtain⟨W,⟨m0,w0⟩,turn⟩:=h
 refine wpAny_While (codeAny_whileLoop (fun n s'=>∃ σ' H',Inv X pins σ' H' s'∧W n σ' H') ?_ m0 ⟨σ,H,I,w0⟩)
 rintro n s1 ⟨σ1,H1,I1,w1⟩
 refine KU hp (bM (hc pins s1 σ1 H1 _ I1 (turn n σ1 H1 w1)) fun b s2 ⟨H2,I2,q2⟩=>?_)
 cases b with
 | true =>
  obtain⟨N,hN,q2⟩:=q2
  rw [if_pos rfl]
  refine KU hp (bM (hb pins s2 σ1 H2 _ I2 q2) fun f s3 q3=>?_)
  cases f with
  | next =>
   obtain⟨σ3,H3,I3,n3⟩:=q3
   obtain⟨m',hm,w3⟩:=hN σ3 H3 n3
   exact⟨m',hm,σ3,H3,I3,w3⟩
  | cont =>
   obtain⟨σ3,H3,I3,n3⟩:=q3
   obtain⟨m',hm,w3⟩:=hN σ3 H3 n3
   exact⟨m',hm,σ3,H3,I3,w3⟩
  | brk=>exact q3
  | ret v=>exact q3
 | false =>
  rw [if_neg Je]
  exact Mi ⟨σ1,H2,I2,q2⟩
end
structure It where
 go:Nat→Hp→Prop
 yld:Nat→Hp→V→Hp→Prop
 stop:Nat→Hp→Prop
def iE(X:Cx)(pins:List (Addr × Obj))(H:Hp)(b:Addr):Prop :=
 H b=none∧b≠X.env.locals∧b∉X.fs∧(b∈X.ex∨X.s₀.heap.objs.size≤b)∧(∀ x c,X.env.cells.lookup x=some c→c≠b)∧∀ p∈X.pn++pins,p.1≠b
def Inv.Au{X:Cx}{pins:List (Addr × Obj)}{σ:St}{H H':Hp}{s:Shared}{b:Addr}(I:Inv X pins σ H s)(hb:s.heap.objs.size≤b)(hn:H' b=none):iE X pins H' b:=by
 refine⟨hn,Ki (IW I.lt hb),I.HV hb,.inr (Jf I.sz hb),fun x c e z=>?_,fun p hp z=>?_⟩
 ·obtain⟨v,q⟩:=I.cell x c e
  exact absurd (IW q.lt (by rw [z];exact hb)) (JC _)
 ·exact absurd (IW (IJ (I.pin p hp).1) (by rw [z];exact hb)) (JC _)
structure Turn(P:Program)(w:World)(K:PySem.W.Frag)(tg:Expr)(J:It)(fp:List Addr)(it:Addr)(tn:Nat→Heap→Prop):Prop where
 mem:it∈fp
 obj:∀ i h,tn i h→∀ b∈fp,∃ o,h.get? b=some o∧∀ v,o.data≠.cell v
 keep:∀ i h h',tn i h→(∀ b∈fp,∀ o,h.get? b=some o→h'.get? b=some o)→tn i h'
 item:∀ (X:Cx),X.prog=P→X.w=w→X.K=K→X.calm=true→∀ (i:Nat) (pins:List (Addr × Obj)) (s:Shared) (σ:St) (H:Hp) (E:Value→Shared→Prop),Inv X pins σ H s→(∀ b∈fp,iE X pins H b)→tn i s.heap→J.go i H →
  wpAny (model P w) X.A (pyNext (.ref it)) (fun r s1=>∃ u,r=some u ∧
   wpAny (model P w) X.A (letOwnedTupleGo tg (.ref it) u) (fun _ s2=>∃ x H',Inv X pins σ H' s2∧RelV x u∧J.yld i H x H'∧tn (i+1) s2.heap∧∀ b∈fp,H' b=none) E s1) E s
 done:∀ (X:Cx),X.prog=P→X.w=w→X.K=K→X.calm=true→∀ (i:Nat) (pins:List (Addr × Obj)) (s:Shared) (σ:St) (H:Hp) (E:Value→Shared→Prop),Inv X pins σ H s→(∀ b∈fp,iE X pins H b)→tn i s.heap→J.stop i H →
  wpAny (model P w) X.A (pyNext (.ref it)) (fun r s1=>r=none∧Inv X pins σ H s1) E s
 self:∀ (A:Around) (i:Nat) (s:Shared) (Q:Value→Shared→Prop) (E:Value→Shared→Prop),tn i s.heap→Q (.ref it) s→wpAny (model P w) A (pyIter (.ref it)) Q E s
abbrev TI:=St→Hp→(It→Hp→Prop)→Prop
def PIE(X:Cx)(pins:List (Addr × Obj))(σ:St)(tg:Expr)(R:It→Hp→Prop)(itv:Value)(s2:Shared):Prop :=
 ∃ (it:Addr) (fp:List Addr) (tn:Nat→Heap→Prop) (J:It) (H':Hp),itv=.ref it∧Inv X pins σ H' s2∧Turn X.prog X.w X.K tg J fp it tn∧tn 0 s2.heap∧(∀ b∈fp,iE X pins H' b)∧R J H'
def PI(X:Cx)(tg iter:Expr)(wi:TI):Prop :=
 ∀ (pins:List (Addr × Obj)) (s:Shared) (σ:St) (H:Hp) (R:It→Hp→Prop),Inv X pins σ H s→wi σ H R →
  wpAny (model X.prog X.w) X.A (eval iter X.env) (fun v s1=>wpAny (model X.prog X.w) X.A (pyIter v) (PIE X pins σ tg R) X.xe s1) X.xe s
def wo{M:Model}{A:Around}{E:Value→Shared→Prop}{s:Shared}{tg:Expr}{it:Addr}{u:Value}{o:Obj}{n:String}{vs:Array Value}{Q:Unit→Shared→Prop}(ho:s.heap.get? it=some o)(hc:o.cls=.type n)(hd:o.data=.fields vs)
    (hn:["enumerate", "zip", "dict_itemiterator", "dict_reverseitemiterator", "odict_iterator", "itertools.zip_longest", "itertools.pairwise"].contains n=false) (hQ:Q () s):wpAny M A (letOwnedTupleGo tg (.ref it) u) Q E s:=by
  unfold letOwnedTupleGo
  cases tg <;> first
    | exact wpAny_pure hQ
    | (cases u <;> first
        | exact wpAny_pure hQ
        | (refine IE (wpAny_load ho ?_)
           rw [hc,hd]
           show wpAny M A (if (["enumerate", "zip", "dict_itemiterator", "dict_reverseitemiterator", "odict_iterator", "itertools.zip_longest", "itertools.pairwise"].contains n&&vs[0]?==some (rawInt _))=true then _ else _) Q E s
           rw [if_neg (by intro h;rw [hn,LZ] at h;cases h)]
           exact wpAny_pure hQ))
def DD(K:PySem.W.Frag)(a:Addr):It :=
 ⟨fun i H=>∃ xs x,aA K H a xs∧xs[i]?=some x,fun i H x H'=>H'=H∧∀ xs,aA K H a xs→xs[i]?=some x,fun i H=>∃ xs,aA K H a xs∧xs.length≤i⟩
def Eu(K:PySem.W.Frag)(a:Addr):It :=
 ⟨fun i H=>∃ xs x,bO K H a xs∧xs[i]?=some x,fun i H x H'=>H'=H∧∀ xs,bO K H a xs→xs[i]?=some x,fun i H=>∃ xs,bO K H a xs∧xs.length≤i⟩
def EA(lo:Int)(n:Nat):It:=⟨fun i _=>i<n,fun i H x H'=>H'=H∧x=.int (lo+i),fun i _=>n≤i⟩
def wM{P:Program}{w:World}{K:PySem.W.Frag}{tg:Expr}(a it:Addr):Turn P w K tg (DD K a) [it] it (fun i h=>h.IsListIter it a i) where
 mem:=by simp
 obj:=fun i h st b hb=>by
  have e:b=it:=by simpa using hb
  subst e
  obtain⟨o,e,c,d⟩:=st
  exact⟨o,e,fun v z=>by rw [d] at z;cases z⟩
 keep:=fun i h h' st k=>st.at fun o e=>k it (by simp) o e
 item:=by
  intro X hP hw hK hc i pins s σ H E I hf st hg
  subst hP hw hK
  obtain⟨xs,x,hq,hx⟩:=hg
  obtain⟨its,rv,p,hz⟩:=I.list hq
  obtain⟨u,hu,ru⟩:=rv.get hx
  obtain⟨f0,f1,f2,f3,f4,f5⟩:=hf it (by simp)
  refine wpAny_pyNext_list_item st p.isList (x:=u) (by simpa using hu) fun h' st' sb=>?_
  have I1:Inv X pins σ H { s with heap:=h' }:=I.turned (t':=s.toks) (fun b o hb e=>(sb.2 b hb).trans e) f0 f1 f3 f4 f5
  obtain⟨o,e,c,d⟩:=id st'
  exact⟨u,rfl,wo (s:={ s with heap:=h' }) e c d (by decide) ⟨x,H,I1,ru,⟨rfl,fun ys hy=>by rw [I.qM hy hq];exact hx⟩,st',fun b hb=>(hf b hb).1⟩⟩
 done:=by
  intro X hP hw hK hc i pins s σ H E I hf st hg
  subst hP hw hK
  obtain⟨xs,hq,hx⟩:=hg
  obtain⟨its,rv,p,hz⟩:=I.list hq
  obtain⟨f0,f1,f2,f3,f4,f5⟩:=hf it (by simp)
  have hl:=rv.length
  exact wpAny_pyNext_list_end (I.ok.hd hc) st p.isList (by simp;lia) fun h' eb=>⟨rfl,I.turned (t':=s.toks) (fun b o hb e=>eb b o hb e) f0 f1 f3 f4 f5⟩
 self:=fun _ _ _ _ _ st h=>wpAny_pyIter_listiter st h
def tu{P:Program}{w:World}{K:PySem.W.Frag}{tg:Expr}(a it:Addr):Turn P w K tg (Eu K a) [it] it (fun i h=>h.IsTupleIter it a i) where
 mem:=by simp
 obj:=fun i h st b hb=>by
  have e:b=it:=by simpa using hb
  subst e
  obtain⟨o,e,c,d⟩:=st
  exact⟨o,e,fun v z=>by rw [d] at z;cases z⟩
 keep:=fun i h h' st k=>st.at fun o e=>k it (by simp) o e
 item:=by
  intro X hP hw hK hc i pins s σ H E I hf st hg
  subst hP hw hK
  obtain⟨xs,x,hq,hx⟩:=hg
  obtain⟨its,rv,p,hz⟩:=I.tuple hq
  obtain⟨u,hu,ru⟩:=rv.get hx
  obtain⟨f0,f1,f2,f3,f4,f5⟩:=hf it (by simp)
  refine wpAny_pyNext_tuple_item st (show s.heap.IsTuple a its.toArray from p) (x:=u) (by simpa using hu) fun h' st' sb=>?_
  have I1:Inv X pins σ H { s with heap:=h' }:=I.turned (t':=s.toks) (fun b o hb e=>(sb.2 b hb).trans e) f0 f1 f3 f4 f5
  obtain⟨o,e,c,d⟩:=id st'
  exact⟨u,rfl,wo (s:={ s with heap:=h' }) e c d (by decide) ⟨x,H,I1,ru,⟨rfl,fun ys hy=>by rw [I.o7 hy hq];exact hx⟩,st',fun b hb=>(hf b hb).1⟩⟩
 done:=by
  intro X hP hw hK hc i pins s σ H E I hf st hg
  subst hP hw hK
  obtain⟨xs,hq,hx⟩:=hg
  obtain⟨its,rv,p,hz⟩:=I.tuple hq
  obtain⟨f0,f1,f2,f3,f4,f5⟩:=hf it (by simp)
  have hl:=rv.length
  exact wpAny_pyNext_tuple_end (I.ok.hd hc) st (show s.heap.IsTuple a its.toArray from p) (by simp;lia) fun h' eb=>⟨rfl,I.turned (t':=s.toks) (fun b o hb e=>eb b o hb e) f0 f1 f3 f4 f5⟩
 self:=fun _ _ _ _ _ st h=>wpAny_pyIter_tupleiter st h
def uu{P:Program}{w:World}{K:PySem.W.Frag}{tg:Expr}(it:Addr)(lo:Int)(n:Nat):Turn P w K tg (EA lo n) [it] it (fun i h=>IsRangeIter h it (lo+(i:Nat)*1) ((n:Int)-(i:Nat)) 1) where
 mem:=by simp
 obj:=fun i h st b hb=>by
  have e:b=it:=by simpa using hb
  subst e
  exact⟨_,st,fun v z=>by
   have z':Data.fields _=Data.cell v:=z
   cases z'⟩
 keep:=fun i h h' st k=>k it (by simp) _ st
 item:=by
  intro X hP hw hK hc i pins s σ H E I hf st hg
  subst hP hw hK
  obtain⟨f0,f1,f2,f3,f4,f5⟩:=hf it (by simp)
  have W:=Walks.range (prog:=X.prog) (w:=X.w) (I.ok.hd hc) it lo 1 n
  refine W.item i s _ _ hg st fun v h' tk hv st' kk=>?_
  obtain⟨t,rfl⟩:=hv
  have I1:Inv X pins σ H { s with heap:=h',toks:=tk }:=I.turned (fun b o hb e=>kk b o (by simpa using hb) e) f0 f1 f3 f4 f5
  refine⟨_,rfl,wo (s:={ s with heap:=h',toks:=tk }) (n:="range_iterator") st' rfl rfl (by decide) ⟨.int (lo+i),H,I1,⟨t,?_⟩,⟨rfl,rfl⟩,st',fun b hb=>(hf b hb).1⟩⟩
  rw [Int.mul_one]
 done:=by
  intro X hP hw hK hc i pins s σ H E I hf st hg
  subst hP hw hK
  obtain⟨f0,f1,f2,f3,f4,f5⟩:=hf it (by simp)
  exact wpAny_pyNext_range_end (I.ok.hd hc) st (by have:n≤i:=hg;lia) fun h' eb=>⟨rfl,I.turned (t':=s.toks) (fun b o hb e=>eb b o hb e) f0 f1 f3 f4 f5⟩
 self:=fun _ _ _ _ _ st h=>wpAny_pyIter_rangeiter st h
end L2
namespace L2
open PySem PySem.Spec PyProof.Rows
section
variable {X:Cx}{tg:Expr}
def Fx(K:PySem.W.Frag)(tl:TE):TI:=fun σ H R=>tl σ H fun x H1=>∃ a,x=.ref a∧(∃ xs,aA K H1 a xs)∧R (DD K a) H1
def HU(K:PySem.W.Frag)(tl:TE):TI:=fun σ H R=>tl σ H fun x H1=>∃ a,x=.ref a∧(∃ xs,bO K H1 a xs)∧R (Eu K a) H1
def aK{l:Expr}{tl:TE}(hl:PE X l tl):PI X tg l (Fx X.K tl):=by
 intro pins s σ H R I h
 refine bM (hl pins s σ H _ I h) fun v s1 ⟨x,H1,I1,r1,q1⟩=>?_
 obtain⟨a,e,⟨xs,hq⟩,q⟩:=q1
 subst e
 cases r1
 obtain⟨its,rv,p,hz⟩:=I1.list hq
 refine Lp p.isList ?_
 refine⟨s1.heap.objs.size,[s1.heap.objs.size],_,_,H1,rfl,I1.kept (t':=s1.toks) fun b o e=>IF _ e,wM a _,⟨_,IQ _ rfl,rfl,rfl⟩,fun b hb=>?_,q⟩
 have e:b=s1.heap.objs.size:=by simpa using hb
 subst e
 exact I1.Au (II _) (I1.hok.fresh (II _))
def gR{l:Expr}{tl:TE}(hl:PE X l tl):PI X tg l (HU X.K tl):=by
 intro pins s σ H R I h
 refine bM (hl pins s σ H _ I h) fun v s1 ⟨x,H1,I1,r1,q1⟩=>?_
 obtain⟨a,e,⟨xs,hq⟩,q⟩:=q1
 subst e
 cases r1
 obtain⟨its,rv,p,hz⟩:=I1.tuple hq
 refine wpAny_pyIter_tuple (show s1.heap.IsTuple a its.toArray from p) ?_
 refine⟨s1.heap.objs.size,[s1.heap.objs.size],_,_,H1,rfl,I1.kept (t':=s1.toks) fun b o e=>IF _ e,tu a _,⟨_,IQ _ rfl,rfl,rfl⟩,fun b hb=>?_,q⟩
 have e:b=s1.heap.objs.size:=by simpa using hb
 subst e
 exact I1.Au (II _) (I1.hok.fresh (II _))
def y0{pins:List (Addr × Obj)}{σ:St}{H:Hp}{s:Shared}{R:It→Hp→Prop}{E:Value→Shared→Prop}{lo hi:Int}{t u v:Tok}{tk:Nat}(I:Inv X pins σ H s)(h1 : -(2 ^ 62)≤lo)(h2:lo<2 ^ 62)(h3 : -(2 ^ 62)≤hi)(h4:hi<2 ^ 62)
  (q:R (EA lo (hi-lo).toNat) H):wpAny (model X.prog X.w) X.A (pyIter (.ref s.heap.objs.size)) (PIE X pins σ tg R) E { s with heap:=s.heap.push { cls:=.type "range",data:=.fields #[.int lo t,.int hi u,.int 1 v] },toks:=tk }:=by
 refine wpAny_pyIter_range (IsRange.new ..) (small_one h1 h2 h3 h4) ?_
 have I1:Inv X pins σ H { s with heap:=s.heap.push { cls:=.type "range",data:=.fields #[.int lo t,.int hi u,.int 1 v] },toks:=tk }:=I.kept fun b o e=>IF _ e
 refine⟨(s.heap.push { cls:=.type "range",data:=.fields #[.int lo t,.int hi u,.int 1 v] }).objs.size,[(s.heap.push { cls:=.type "range",data:=.fields #[.int lo t,.int hi u,.int 1 v] }).objs.size],_,_,H,rfl,
  I1.kept (t':=tk) fun b o e=>IF _ e,uu _ lo (hi-lo).toNat,?_,fun b hb=>?_,q⟩
 ·have e1:lo+((0:Nat):Int)*1=lo:=by simp
  have e2:(((hi-lo).toNat:Nat):Int)-((0:Nat):Int)=Builtin.Range.rangeSize lo hi 1:=by rw [rangeSize_one];split <;> lia
  show IsRangeIter _ _ (lo+((0:Nat):Int)*1) ((((hi-lo).toNat:Nat):Int)-((0:Nat):Int)) 1
  rw [e1,e2]
  exact IQ _ rfl
 ·have e:b=(s.heap.push { cls:=.type "range",data:=.fields #[.int lo t,.int hi u,.int 1 v] }).objs.size:=by simpa using hb
  subst e
  exact I1.Au (II _) (I1.hok.fresh (II _))
def F4(ta:TA):TI:=fun σ H R=>ta σ H fun vs H1=>∃ j:Int,vs=[.int j]∧-(2 ^ 62)≤j∧j<2 ^ 62∧R (EA 0 j.toNat) H1
def cN{a:Expr}{ta:TA}{p pos:Pos}(hg:Gl X "range")(hm:X.mg "range"=none)(ha:PA X [a] ta)(hs:starEach [a] X.env=[(false,eval a X.env)]:=by rfl):PI X tg (.Call (.Name "range" p) [a] [] pos) (F4 ta):=by
 intro pins s σ H R I h
 refine Call_ (gk I hg hm boot_range (JS (bM (ha pos pins s σ H _ I h) fun us s1 ⟨vs,H1,I1,r1,q1⟩=>?_) hs rfl))
 obtain⟨j,e,q1,q2,q⟩:=q1
 subst e
 cases r1 with
 | cons r rr =>
  cases rr
  obtain⟨t,rfl⟩:=r
  exact call_range_1 (y0 I1 (by lia) (by lia) q1 q2 (by simpa using q))
def Ho(wi:TI)(g:TG)(tb:TS):TS:=fun D σ H=>wi σ H fun J H1=>∃ W:Nat→Nat→St→Hp→Prop,(∃ m,W 0 m σ H1)∧∀ i m σ H,W i m σ H →
 (J.stop i H∧D.nx σ H)∨(J.go i H∧∃ N:St→Hp→Prop,(∀ σ' H',N σ' H'→∃ m',m'<m∧W (i+1) m' σ' H')∧∀ x H',J.yld i H x H'→g x σ H' fun σ2 H2=>tb { D with nx:=N,ct:=N,bk:=D.nx } σ2 H2)
def mC(fp:List Addr)(h:Heap):List (Addr × Obj):=fp.filterMap fun b=>(h.get? b).map fun o=>(b,o)
def gS{fp:List Addr}{h:Heap}{b:Addr}{o:Obj}(hb:b∈fp)(e:h.get? b=some o):(b,o)∈mC fp h:=KP.mpr ⟨b,hb,by rw [e];rfl⟩
def xc{fp:List Addr}{h:Heap}{p:Addr × Obj}(hp:p∈mC fp h):p.1∈fp∧h.get? p.1=some p.2:=by
 obtain⟨b,hb,e⟩:=KP.mp hp
 cases q:h.get? b with
 | none=>rw [q] at e;cases e
 | some o =>
  rw [q] at e
  have e':(b,o)=p:=Jk e
  subst e'
  exact⟨hb,q⟩
def Inv.pinned{pins:List (Addr × Obj)}{σ:St}{H:Hp}{s:Shared}{fp:List Addr}(I:Inv X pins σ H s)(hf:∀ b∈fp,iE X pins H b)(ho:∀ b∈fp,∃ o,s.heap.get? b=some o∧∀ v,o.data≠.cell v):Inv X (pins++mC fp s.heap) σ H s :=
 I.wC fun p hp=>(Ja.mp hp).elim (fun z=>I.pin p (Js _ z)) fun z=>by
  obtain⟨hb,e⟩:=xc z
  obtain⟨f0,f1,f2,_⟩:=hf p.1 hb
  obtain⟨o,e',d⟩:=ho p.1 hb
  rw [e] at e';cases e'
  exact⟨e,f0,f1,f2,d⟩
def Inv.jO{pins pl:List (Addr × Obj)}{σ:St}{H:Hp}{s:Shared}(I:Inv X (pins++pl) σ H s):Inv X pins σ H s:=I.wC fun p hp=>I.pin p (Js _ (Jv _ hp))
def bq{iter:Expr}{body:List Stmt}{wi:TI}{g:TG}{tb:TS}{pos:Pos}(hp:PassesOwn (model X.prog X.w) X.A X.env X.xe)(hc:X.calm=true)(hi:PI X tg iter wi)(hg:PG X tg g)(hb:uE X body tb)
  (hs:∀ x,foldedSetIterable iter X.env x=pure x:=by intro _;rfl):PS X (.For tg iter body [] pos) (Ho wi g tb):=by
 intro pins s σ H D I h
 refine wpAny_For (bM (hi pins s σ H _ I h) fun v s1 h1=>bM h1 fun itv s2 h2=>?_) hs
 obtain⟨it,fp,tn,J,H2,e,I2,T,st2,f2,W,⟨m0,w0⟩,turn⟩:=h2
 subst e
 have stat:∀ {H':Hp},(∀ b∈fp,H' b=none)→∀ b∈fp,iE X pins H' b:=fun hn b hb=>⟨hn b hb,(f2 b hb).2⟩
 refine codeAny_forLoop_any (fun n s'=>∃ i σ' H',Inv X pins σ' H' s'∧tn i s'.heap∧(∀ b∈fp,H' b=none)∧W i n σ' H') ?_ m0 ⟨0,σ,H2,I2,st2,fun b hb=>(f2 b hb).1,w0⟩
 rintro n s3 ⟨i,σ3,H3,I3,st3,fr3,w3⟩
 rcases turn i n σ3 H3 w3 with⟨stop,qn⟩ | ⟨go,N,hN,step⟩
 ·refine KU hp (bM (T.done X rfl rfl rfl hc i pins s3 σ3 H3 X.xe I3 (stat fr3) st3 stop) fun r s4 ⟨hr,I4⟩=>?_)
  subst hr
  exact Mi ⟨σ3,H3,I4,qn⟩
 ·refine KU hp (bM (T.item X rfl rfl rfl hc i pins s3 σ3 H3 X.xe I3 (stat fr3) st3 go) fun r s4 ⟨u,hr,h4⟩=>?_)
  subst hr
  refine KU hp (bM h4 fun _ s5 ⟨x,H5,I5,r5,y5,st5,fr5⟩=>?_)
  have I5':=I5.pinned (stat fr5) (T.obj _ _ st5)
  refine KU hp (bM (hg _ s5 σ3 H5 x u _ I5' r5 (step x H5 y5)) fun _ s6 ⟨σ6,H6,I6,q6⟩=>?_)
  refine KU hp (bM (hb _ s6 σ6 H6 _ I6 q6) fun f s7 q7=>?_)
  have again:∀ {σ7:St} {H7:Hp},Inv X (pins++mC fp s5.heap) σ7 H7 s7→N σ7 H7→∃ m,m<n∧∃ i σ' H',Inv X pins σ' H' s7∧tn i s7.heap∧(∀ b∈fp,H' b=none)∧W i m σ' H':=fun {σ7 H7} I7 n7=>by
   obtain⟨m',hm,w7⟩:=hN σ7 H7 n7
   refine⟨m',hm,i+1,σ7,H7,I7.jO,T.keep _ _ _ st5 fun b hb o e=>(I7.pin (b,o) (Js _ (Js _ (gS hb e)))).1,fun b hb=>?_,w7⟩
   obtain⟨o,e,d⟩:=T.obj _ _ st5 b hb
   exact(I7.pin (b,o) (Js _ (Js _ (gS hb e)))).2.1
  cases f with
  | next=>obtain⟨σ7,H7,I7,n7⟩:=q7;exact again I7 n7
  | cont=>obtain⟨σ7,H7,I7,n7⟩:=q7;exact again I7 n7
  | brk=>obtain⟨σ7,H7,I7,q7⟩:=q7;exact⟨σ7,H7,I7.jO,q7⟩
  | ret v=>obtain⟨x7,σ7,H7,I7,r7,q7⟩:=q7;exact⟨x7,σ7,H7,I7.jO,r7,q7⟩
end
def br{K:PySem.W.Frag}{a:Addr}{xs:List V}{g:TG}{tb:TS}{D:Ends}{σ:St}{H:Hp}(Pv:Nat→St→Hp→Prop)(h0:Pv 0 σ H)(hl:∀ i σ H,i≤xs.length→Pv i σ H→aA K H a xs)
  (hs:∀ i x σ H,xs[i]?=some x→Pv i σ H→g x σ H fun σ2 H2=>tb { D with nx:=Pv (i+1),ct:=Pv (i+1),bk:=D.nx } σ2 H2) (hd:∀ σ H,Pv xs.length σ H→D.nx σ H) :
  ∃ W:Nat→Nat→St→Hp→Prop,(∃ m,W 0 m σ H)∧∀ i m σ H,W i m σ H →
   ((DD K a).stop i H∧D.nx σ H)∨((DD K a).go i H∧∃ N:St→Hp→Prop,(∀ σ' H',N σ' H'→∃ m',m'<m∧W (i+1) m' σ' H')∧∀ x H',(DD K a).yld i H x H'→g x σ H' fun σ2 H2=>tb { D with nx:=N,ct:=N,bk:=D.nx } σ2 H2):=by
 refine⟨fun i m σ H=>m=xs.length-i∧i≤xs.length∧Pv i σ H,⟨xs.length,by simp,IU _,h0⟩,?_⟩
 rintro i m σ H ⟨rfl,hi,p⟩
 have q:=hl i σ H hi p
 by_cases hlt:i<xs.length
 ·refine .inr ⟨⟨xs,xs[i],q,by simp [hlt]⟩,Pv (i+1),fun σ' H' p'=>⟨xs.length-(i+1),by lia,rfl,hlt,p'⟩,fun x H' y=>?_⟩
  obtain⟨e,y⟩:=y
  subst e
  exact hs i x σ _ (y xs q) p
 ·have e:i=xs.length:=by lia
  subst e
  exact .inl ⟨⟨xs,q,II _⟩,hd σ H p⟩
def jV{K:PySem.W.Frag}{a:Addr}{xs:List V}{g:TG}{tb:TS}{D:Ends}{σ:St}{H:Hp}(Pv:Nat→St→Hp→Prop)(h0:Pv 0 σ H)(hl:∀ i σ H,i≤xs.length→Pv i σ H→bO K H a xs)
  (hs:∀ i x σ H,xs[i]?=some x→Pv i σ H→g x σ H fun σ2 H2=>tb { D with nx:=Pv (i+1),ct:=Pv (i+1),bk:=D.nx } σ2 H2) (hd:∀ σ H,Pv xs.length σ H→D.nx σ H) :
  ∃ W:Nat→Nat→St→Hp→Prop,(∃ m,W 0 m σ H)∧∀ i m σ H,W i m σ H →
   ((Eu K a).stop i H∧D.nx σ H)∨((Eu K a).go i H∧∃ N:St→Hp→Prop,(∀ σ' H',N σ' H'→∃ m',m'<m∧W (i+1) m' σ' H')∧∀ x H',(Eu K a).yld i H x H'→g x σ H' fun σ2 H2=>tb { D with nx:=N,ct:=N,bk:=D.nx } σ2 H2):=by
 refine⟨fun i m σ H=>m=xs.length-i∧i≤xs.length∧Pv i σ H,⟨xs.length,by simp,IU _,h0⟩,?_⟩
 rintro i m σ H ⟨rfl,hi,p⟩
 have q:=hl i σ H hi p
 by_cases hlt:i<xs.length
 ·refine .inr ⟨⟨xs,xs[i],q,by simp [hlt]⟩,Pv (i+1),fun σ' H' p'=>⟨xs.length-(i+1),by lia,rfl,hlt,p'⟩,fun x H' y=>?_⟩
  obtain⟨e,y⟩:=y
  subst e
  exact hs i x σ _ (y xs q) p
 ·have e:i=xs.length:=by lia
  subst e
  exact .inl ⟨⟨xs,q,II _⟩,hd σ H p⟩
def km{lo:Int}{n:Nat}{g:TG}{tb:TS}{D:Ends}{σ:St}{H:Hp}(Pv:Nat→St→Hp→Prop)(h0:Pv 0 σ H)
  (hs:∀ i σ H,i<n→Pv i σ H→g (.int (lo+i)) σ H fun σ2 H2=>tb { D with nx:=Pv (i+1),ct:=Pv (i+1),bk:=D.nx } σ2 H2) (hd:∀ σ H,Pv n σ H→D.nx σ H) :
  ∃ W:Nat→Nat→St→Hp→Prop,(∃ m,W 0 m σ H)∧∀ i m σ H,W i m σ H →
   ((EA lo n).stop i H∧D.nx σ H)∨((EA lo n).go i H∧∃ N:St→Hp→Prop,(∀ σ' H',N σ' H'→∃ m',m'<m∧W (i+1) m' σ' H')∧∀ x H',(EA lo n).yld i H x H'→g x σ H' fun σ2 H2=>tb { D with nx:=N,ct:=N,bk:=D.nx } σ2 H2):=by
 refine⟨fun i m σ H=>m=n-i∧i≤n∧Pv i σ H,⟨n,by simp,IU _,h0⟩,?_⟩
 rintro i m σ H ⟨rfl,hi,p⟩
 by_cases hlt:i<n
 ·refine .inr ⟨hlt,Pv (i+1),fun σ' H' p'=>⟨n-(i+1),by lia,rfl,hlt,p'⟩,fun x H' y=>?_⟩
  obtain⟨e,y⟩:=y
  subst e y
  exact hs i σ _ hlt p
 ·have e:i=n:=by lia
  subst e
  exact .inl ⟨II _,hd σ H p⟩
end L2
namespace L2
open PySem PySem.Spec PyProof.Rows
abbrev R2:=V→V→Hp→VK→Prop
def gr(X:Cx)(f:Value→Value→Sem Value)(r:R2):Prop :=
 ∀ (pins:List (Addr × Obj)) (s:Shared) (σ:St) (H:Hp) (x y:V) (v u:Value) (Q:VK),Inv X pins σ H s→RelV x v→RelV y u→r x y H Q →
  wpAny (model X.prog X.w) X.A (f v u) (EP X pins σ Q) X.xe s
def HY(X:Cx)(f:Value→Sem Value)(r:V→Hp→VK→Prop):Prop :=
 ∀ (pins:List (Addr × Obj)) (s:Shared) (σ:St) (H:Hp) (x:V) (v:Value) (Q:VK),Inv X pins σ H s→RelV x v→r x H Q →
  wpAny (model X.prog X.w) X.A (f v) (EP X pins σ Q) X.xe s
def dM(X:Cx)(f:Value)(r:List V→Hp→VK→Prop):Prop :=
 ∀ (pins:List (Addr × Obj)) (s:Shared) (σ:St) (H:Hp) (xs:List V) (us:List Value) (Q:VK),Inv X pins σ H s→Vals xs us→r xs H Q →
  wpAny (model X.prog X.w) X.A (call f us) (EP X pins σ Q) X.xe s
def Ig(X:Cx)(r:V→Hp→(Bool→Hp→Prop)→Prop):Prop :=
 ∀ (pins:List (Addr × Obj)) (s:Shared) (σ:St) (H:Hp) (x:V) (v:Value) (Q:Bool→Hp→Prop),Inv X pins σ H s→RelV x v→r x H Q →
  wpAny (model X.prog X.w) X.A (truthy v) (TP X pins σ Q) X.xe s
def GZ(r:R2)(ta tb:TE):TE:=fun σ H Q=>ta σ H fun x H1=>tb σ H1 fun y H2=>r x y H2 Q
def tUn(r:V→Hp→VK→Prop)(ta:TE):TE:=fun σ H Q=>ta σ H fun x H1=>r x H1 Q
def rI(C:Int→Int→Prop)(g:Int→Int→V):R2:=fun x y H Q=>∃ i j,x=.int i∧y=.int j∧C i j∧Q (g i j) H
def AM(g:Int→Int→V):R2:=fun x y H Q=>∃ i j,x=.int i∧y=.int j∧Q (g i j) H
def rU(g:Int→V):V→Hp→VK→Prop:=fun x H Q=>∃ i,x=.int i∧Q (g i) H
section
variable {X:Cx}{a b c:Expr}{ta tb tc:TE}{pos:Pos}
def Ey(ha:PE X a ta)(hb:PE X b tb){pins:List (Addr × Obj)}{s:Shared}{σ:St}{H:Hp}{R:V→V→Hp→Prop}(I:Inv X pins σ H s)
  (h:ta σ H fun x H1=>tb σ H1 fun y H2=>R x y H2) {Q:Value→Shared→Prop} {f:Value→Value→Sem Value}
  (hf:∀ v u s2 x y H2,Inv X pins σ H2 s2→RelV x v→RelV y u→R x y H2→wpAny (model X.prog X.w) X.A (f v u) Q X.xe s2) :
  wpAny (model X.prog X.w) X.A (eval a X.env) (fun v s₁=>wpAny (model X.prog X.w) X.A (eval b X.env) (fun u s₂=>wpAny (model X.prog X.w) X.A (f v u) Q X.xe s₂) X.xe s₁) X.xe s:=by
 refine bM (ha pins s σ H _ I h) fun v s1 ⟨x,H1,I1,r1,q1⟩=>?_
 refine bM (hb pins s1 σ H1 _ I1 q1) fun u s2 ⟨y,H2,I2,r2,q2⟩=>?_
 exact hf v u s2 x y H2 I2 r1 r2 q2
def aE{op:Operator}{r:R2}(ho:gr X (binaryOp op) r)(ha:PE X a ta)(hb:PE X b tb):PE X (.BinOp a op b pos) (GZ r ta tb):=by
 intro pins s σ H Q I h
 exact wpAny_BinOp (Ey ha hb I h fun v u s2 x y H2 I2 rx ry q=>ho pins s2 σ H2 x y v u Q I2 rx ry q)
def CP{op:UnaryOp}{r:V→Hp→VK→Prop}(ho:HY X (unaryOp op) r)(ha:PE X a ta):PE X (.UnaryOp op a pos) (tUn r ta):=by
 intro pins s σ H Q I h
 exact UnaryOp_ (bM (ha pins s σ H _ I h) fun v s1 ⟨x,H1,I1,r1,q1⟩=>ho pins s1 σ H1 x v Q I1 r1 q1)
def GJ{f:Value→Value→Sem Value}{C:Int→Int→Prop}{g:Int→Int→Int}
  (rule:∀ (i j:Int) (t u:Tok) (s:Shared) (Q:Value→Shared→Prop) (E:Value→Shared→Prop),C i j→Q (.int (g i j) s.toks) { s with toks:=s.toks+1 }→wpAny (model X.prog X.w) X.A (f (.int i t) (.int j u)) Q E s) :
  gr X f (rI C fun i j=>.int (g i j)):=by
 intro pins s σ H x y v u Q I rx ry h
 obtain⟨i,j,rfl,rfl,hc,q⟩:=h
 obtain⟨t,rfl⟩:=rx
 obtain⟨t',rfl⟩:=ry
 exact rule i j t t' s _ _ hc ⟨.int (g i j),H,I.tok _,⟨_,rfl⟩,q⟩
def zW{f:Value→Value→Sem Value}{g:Int→Int→Int}
  (rule:∀ (i j:Int) (t u:Tok) (s:Shared) (Q:Value→Shared→Prop) (E:Value→Shared→Prop),Q (.int (g i j) s.toks) { s with toks:=s.toks+1 }→wpAny (model X.prog X.w) X.A (f (.int i t) (.int j u)) Q E s) :
  gr X f (AM fun i j=>.int (g i j)):=by
 intro pins s σ H x y v u Q I rx ry h
 obtain⟨i,j,rfl,rfl,q⟩:=h
 obtain⟨t,rfl⟩:=rx
 obtain⟨t',rfl⟩:=ry
 exact rule i j t t' s _ _ ⟨.int (g i j),H,I.tok _,⟨_,rfl⟩,q⟩
def Ed{f:Value→Value→Sem Value}{g:Int→Int→Bool}
  (rule:∀ (i j:Int) (t u:Tok) (s:Shared) (Q:Value→Shared→Prop) (E:Value→Shared→Prop),Q (.bool (g i j)) s→wpAny (model X.prog X.w) X.A (f (.int i t) (.int j u)) Q E s) :
  gr X f (AM fun i j=>.bl (g i j)):=by
 intro pins s σ H x y v u Q I rx ry h
 obtain⟨i,j,rfl,rfl,q⟩:=h
 obtain⟨t,rfl⟩:=rx
 obtain⟨t',rfl⟩:=ry
 exact rule i j t t' s _ _ ⟨.bl (g i j),H,I,rfl,q⟩
def Ik(i j:Int):Prop:=0<j∧j<1073741824
def Ir(i j:Int):Prop:=0≤j∧j≤1000000∧i.natAbs<2 ^ 64
def E3(i j:Int):Prop:=(-(2 ^ 64)<i∧i<2 ^ 64)∨(-(2 ^ 64)<j∧j<2 ^ 64)
def E3.ok{i j:Int}(h:E3 i j):IntMulOk i j:=by
 rcases h with⟨h1,h2⟩ | ⟨h1,h2⟩
 ·exact .of_left (intBits_le_64 h1 h2)
 ·exact .of_right (intBits_le_64 h1 h2)
def two_pow_nn(k:Nat):(0:Int)≤2 ^ k:=by
 rw [two_pow_cast]
 exact LO _
def fE:gr X (binaryOp .Add) (AM fun i j=>.int (i+j)):=zW fun _ _ _ _ _ _ _ q=>add_int q
def kH:gr X (binaryOp .Sub) (AM fun i j=>.int (i-j)):=zW fun _ _ _ _ _ _ _ q=>sub_int q
def mJ:gr X (binaryOp .Mult) (rI E3 fun i j=>.int (i*j)):=GJ fun _ _ _ _ _ _ _ hc q=>mul_int q hc.ok
def cm:gr X (binaryOp .FloorDiv) (rI Ik fun i j=>.int (i / j)):=GJ fun i j _ _ _ _ _ hc q=>by
 have h1:(0:Int)<j:=hc.1
 have h2:j<1073741824:=hc.2
 exact floordiv_int (by lia) (by rw [MM i (by lia)];exact q) (.inl (PyProof.noPylong_small (by lia)))
def cv:gr X (binaryOp .Mod) (rI (fun _ j=>0<j) fun i j=>.int (i % j)):=GJ fun i j _ _ _ _ _ hc q=>by
 have h1:(0:Int)<j:=hc
 exact mod_int' (by lia) (by rw [Int.fmod_eq_emod_of_nonneg i (by lia)];exact q)
def As:gr X (binaryOp .LShift) (rI Ir fun i j=>.int (i*2 ^ j.toNat)):=GJ fun _ _ _ _ _ _ _ hc q=>lshift_int_small hc.1 hc.2.1 hc.2.2 q
def pf:gr X (binaryOp .RShift) (rI (fun _ j=>0≤j) fun i j=>.int (i / 2 ^ j.toNat)):=GJ fun i j _ _ _ _ _ hc q =>
 rshift_int hc (by rw [MM i (two_pow_nn _)];exact q)
def iF:gr X (binaryOp .BitAnd) (AM fun i j=>.int (Builtin.bitAnd i j)):=zW fun _ _ _ _ _ _ _ q=>and_int q
def jY:gr X (binaryOp .BitOr) (AM fun i j=>.int (Builtin.bitOr i j)):=zW fun _ _ _ _ _ _ _ q=>or_int q
def EF:gr X (binaryOp .BitXor) (AM fun i j=>.int (Builtin.bitXor i j)):=zW fun _ _ _ _ _ _ _ q=>xor_int q
def unI{f:Value→Sem Value}{g:Int→Int}
  (rule:∀ (i:Int) (t:Tok) (s:Shared) (Q:Value→Shared→Prop) (E:Value→Shared→Prop),Q (.int (g i) s.toks) { s with toks:=s.toks+1 }→wpAny (model X.prog X.w) X.A (f (.int i t)) Q E s) :
  HY X f (rU fun i=>.int (g i)):=by
 intro pins s σ H x v Q I rx h
 obtain⟨i,rfl,q⟩:=h
 obtain⟨t,rfl⟩:=rx
 exact rule i t s _ _ ⟨.int (g i),H,I.tok _,⟨_,rfl⟩,q⟩
def Af:HY X (unaryOp .USub) (rU fun i=>.int (-i)):=unI fun _ _ _ _ _ q=>neg_int q
end
def Fq:V→V→Bool
 | .non,.non=>true | .non,.int _=>true | .int _,.non=>true | .non,.bl _=>true | .bl _,.non=>true | .non,.str _=>true | .str _,.non=>true
 | .int _,.int _=>true | .bl _,.bl _=>true | .str _,.str _=>true | .byt _,.byt _=>true
 | .int _,.str _=>true | .str _,.int _=>true | .bl _,.str _=>true | .str _,.bl _=>true
 | _,_=>false
def rEq:R2:=fun x y H Q=>Fq x y=true∧Q (.bl (decide (x=y))) H
def rNe:R2:=fun x y H Q=>Fq x y=true∧Q (.bl (!decide (x=y))) H
def vx{i j:Int}:decide (V.int i=V.int j)=(i==j):=by
 rw [Jz]
 simp
def Ax{i j:Bool}:decide (V.bl i=V.bl j)=(i==j):=by
 rw [Jz]
 simp
def vd{i j:Str}:decide (V.str i=V.str j)=(i==j):=by
 rw [Jz]
 simp
def vN{i j:Array UInt8}:decide (V.byt i=V.byt j)=(i.toList==j.toList):=by
 rw [Jz]
 cases i
 cases j
 simp
section
variable {X:Cx}{a b c:Expr}{ta tb tc:TE}{pos:Pos}
def bD{pins:List (Addr × Obj)}{σ:St}{H:Hp}{s:Shared}{Q:VK}{k k':Bool}(I:Inv X pins σ H s)(q:Q (.bl k) H)(e:k=k'):EP X pins σ Q (.bool k') s:=by
 subst e
 exact⟨.bl k,H,I,rfl,q⟩
def gX:gr X (compareOp .Eq) rEq:=by
 intro pins s σ H x y v u Q I rx ry h
 obtain⟨hs,q⟩:=h
 cases x with
 | non =>
  cases rx
  cases y with
  | non=>cases ry;exact PySem.EqNone.eq_none_none (bD I q (by simp))
  | bl j=>cases ry;exact PySem.EqNone.eq_none_bool (bD I q (by simp))
  | int j=>obtain⟨t',rfl⟩:=ry;exact PySem.EqNone.eq_none_int (bD I q (by simp))
  | str j=>obtain⟨t',rfl⟩:=ry;exact PySem.EqNone.eq_none_str (bD I q (by simp))
  | _=>exact absurd (show false=true from hs) Je
 | bl i =>
  cases rx
  cases y with
  | non=>cases ry;exact PySem.EqNone.eq_bool_none (bD I q (by simp))
  | bl j=>cases ry;exact eq_bool (bD I q Ax)
  | str j=>obtain⟨t',rfl⟩:=ry;exact PySem.EqMixed.eq_bool_str (bD I q (by simp))
  | _=>exact absurd (show false=true from hs) Je
 | int i =>
  obtain⟨t,rfl⟩:=rx
  cases y with
  | non=>cases ry;exact PySem.EqNone.eq_int_none (bD I q (by simp))
  | int j=>obtain⟨t',rfl⟩:=ry;exact eq_int (bD I q vx)
  | str j=>obtain⟨t',rfl⟩:=ry;exact PySem.EqMixed.eq_int_str (bD I q (by simp))
  | _=>exact absurd (show false=true from hs) Je
 | str i =>
  obtain⟨t,rfl⟩:=rx
  cases y with
  | non=>cases ry;exact PySem.EqNone.eq_str_none (bD I q (by simp))
  | bl j=>cases ry;exact PySem.EqMixed.eq_str_bool (bD I q (by simp))
  | int j=>obtain⟨t',rfl⟩:=ry;exact PySem.EqMixed.eq_str_int (bD I q (by simp))
  | str j=>obtain⟨t',rfl⟩:=ry;exact eq_str (bD I q vd)
  | _=>exact absurd (show false=true from hs) Je
 | byt i =>
  obtain⟨t,rfl⟩:=rx
  cases y with
  | byt j=>obtain⟨t',rfl⟩:=ry;exact PySem.W.eq_bytes (bD I q vN)
  | _=>exact absurd (show false=true from hs) Je
 | _=>cases y <;> exact absurd (show false=true from hs) Je
def FU:gr X (compareOp .NotEq) rNe:=by
 intro pins s σ H x y v u Q I rx ry h
 obtain⟨hs,q⟩:=h
 cases x with
 | non =>
  cases rx
  cases y with
  | non=>cases ry;exact PySem.EqNone.ne_none_none (bD I q (by simp))
  | bl j=>cases ry;exact PySem.EqNone.ne_none_bool (bD I q (by simp))
  | int j=>obtain⟨t',rfl⟩:=ry;exact PySem.EqNone.ne_none_int (bD I q (by simp))
  | str j=>obtain⟨t',rfl⟩:=ry;exact PySem.EqNone.ne_none_str (bD I q (by simp))
  | _=>exact absurd (show false=true from hs) Je
 | bl i =>
  cases rx
  cases y with
  | non=>cases ry;exact PySem.EqNone.ne_bool_none (bD I q (by simp))
  | bl j=>cases ry;exact ne_bool (bD I q (J4 not Ax))
  | str j=>obtain⟨t',rfl⟩:=ry;exact PySem.EqMixed.ne_bool_str (bD I q (by simp))
  | _=>exact absurd (show false=true from hs) Je
 | int i =>
  obtain⟨t,rfl⟩:=rx
  cases y with
  | non=>cases ry;exact PySem.EqNone.ne_int_none (bD I q (by simp))
  | int j=>obtain⟨t',rfl⟩:=ry;exact ne_int (bD I q (J4 not vx))
  | str j=>obtain⟨t',rfl⟩:=ry;exact PySem.EqMixed.ne_int_str (bD I q (by simp))
  | _=>exact absurd (show false=true from hs) Je
 | str i =>
  obtain⟨t,rfl⟩:=rx
  cases y with
  | non=>cases ry;exact PySem.EqNone.ne_str_none (bD I q (by simp))
  | bl j=>cases ry;exact PySem.EqMixed.ne_str_bool (bD I q (by simp))
  | int j=>obtain⟨t',rfl⟩:=ry;exact PySem.EqMixed.ne_str_int (bD I q (by simp))
  | str j=>obtain⟨t',rfl⟩:=ry;exact ne_str (bD I q (J4 not vd))
  | _=>exact absurd (show false=true from hs) Je
 | byt i =>
  obtain⟨t,rfl⟩:=rx
  cases y with
  | byt j=>obtain⟨t',rfl⟩:=ry;exact PySem.W.ne_bytes (bD I q (J4 not vN))
  | _=>exact absurd (show false=true from hs) Je
 | _=>cases y <;> exact absurd (show false=true from hs) Je
def vO:gr X (compareOp .Lt) (AM fun i j=>.bl (decide (i<j))):=Ed fun _ _ _ _ _ _ _ q=>lt_int q
def lV:gr X (compareOp .LtE) (AM fun i j=>.bl (decide (i≤j))):=Ed fun _ _ _ _ _ _ _ q=>le_int q
def CZ:gr X (compareOp .Gt) (AM fun i j=>.bl (decide (j<i))):=Ed fun _ _ _ _ _ _ _ q=>gt_int q
def ya:gr X (compareOp .In) (fun x y H Q=>∃ i j,x=.str i∧y=.str j∧Q (.bl (!(Builtin.Str.occurrences j i 0 j.length 1).isEmpty)) H):=by
 intro pins s σ H x y v u Q I rx ry h
 obtain⟨i,j,rfl,rfl,q⟩:=h
 obtain⟨t,rfl⟩:=rx
 obtain⟨t',rfl⟩:=ry
 exact in_str (bD I q rfl)
def k8:gr X (compareOp .IsNot) (fun x y H Q=>y=.non∧Q (.bl (!decide (x=.non))) H):=by
 intro pins s σ H x y v u Q I rx ry h
 obtain⟨rfl,q⟩:=h
 cases ry
 refine isnot_none_gen (bD I q ?_)
 cases x <;> first
  | (cases rx;rfl)
  | (obtain⟨t,rfl⟩:=rx;rfl)
def bC(b:Expr){op:CmpOp}(h:op≠.In:=by decide)(h2:op≠.NotIn:=by decide):behindInMarks op b=false:=by
 have e1:(op==CmpOp.In)=false:=by cases op <;> first | rfl | exact absurd rfl h
 have e2:(op==CmpOp.NotIn)=false:=by cases op <;> first | rfl | exact absurd rfl h2
 cases b <;> simp [behindInMarks,e1,e2]
def cY{op:CmpOp}{r:R2}(ho:gr X (compareOp op) r)(ha:PE X a ta)(hb:PE X b tb)(hm:behindInMarks op b=false):PE X (.Compare a [op] [b] pos) (GZ r ta tb):=by
 intro pins s σ H Q I h
 exact wpAny_Compare1 (Ey ha hb I h fun v u s2 x y H2 I2 rx ry q=>ho pins s2 σ H2 x y v u Q I2 rx ry q) hm
def Dk(t:TE):TT:=fun σ H Q=>t σ H fun x H'=>∃ k,x=.bl k∧Q k H'
def bj{op:CmpOp}{r:R2}(ho:gr X (compareOp op) r)(ha:PE X a ta)(hb:PE X b tb)(hm:behindInMarks op b=false):PT X (.Compare a [op] [b] pos) (Dk (GZ r ta tb)):=by
 intro pins s σ H Q I h
 refine wpAny_isTrue_Compare1 (bM (ha pins s σ H _ I h) fun v s1 ⟨x,H1,I1,r1,q1⟩=>bM (hb pins s1 σ H1 _ I1 q1) fun u s2 ⟨y,H2,I2,r2,q2⟩ =>
  bM (ho pins s2 σ H2 x y v u _ I2 r1 r2 q2) fun c s3 ⟨z,H3,I3,r3,k,e,q3⟩=>?_) hm
 subst e
 cases r3
 exact JE ⟨H3,I3,q3⟩
def zm(r r':R2)(ta tb tc:TE):TE:=fun σ H Q=>ta σ H fun x H1=>tb σ H1 fun y H2=>r x y H2 fun z H3=>∃ k,z=.bl k ∧
 (if k=true then tc σ H3 fun w' H4=>r' y w' H4 Q else Q (.bl false) H3)
def zg{op op':CmpOp}{r r':R2}(ho:gr X (compareOp op) r)(ho':gr X (compareOp op') r')(ha:PE X a ta)(hb:PE X b tb)(hc:PE X c tc)
  (hm:lastMarks [op,op'] [b,c]=false:=by with_unfolding_all rfl):PE X (.Compare a [op,op'] [b,c] pos) (zm r r' ta tb tc):=by
 intro pins s σ H Q I h
 refine Compare_chain (bM (ha pins s σ H _ I h) fun v s1 ⟨x,H1,I1,r1,q1⟩=>chain_link (bM (hb pins s1 σ H1 _ I1 q1) fun u s2 ⟨y,H2,I2,r2,q2⟩ =>
  bM (ho pins s2 σ H2 x y v u _ I2 r1 r2 q2) fun d s3 ⟨z,H3,I3,r3,k,e,q3⟩=>?_)) hm
 subst e
 cases r3
 refine JE ?_
 cases k with
 | false=>exact ite_ff ⟨.bl false,H3,I3,rfl,q3⟩
 | true=>exact ite_tt (chain_last (bM (hc pins s3 σ H3 _ I3 q3) fun w' s4 ⟨z',H4,I4,r4,q4⟩=>ho' pins s4 σ H4 y z' u w' Q I4 r2 r4 q4))
def sD{op op':CmpOp}{r r':R2}(ho:gr X (compareOp op) r)(ho':gr X (compareOp op') r')(ha:PE X a ta)(hb:PE X b tb)(hc:PE X c tc)
  (hm:lastMarks [op,op'] [b,c]=false:=by with_unfolding_all rfl):PT X (.Compare a [op,op'] [b,c] pos) (Dk (zm r r' ta tb tc)):=by
 intro pins s σ H Q I h
 refine isTrue_chain (bM (ha pins s σ H _ I h) fun v s1 ⟨x,H1,I1,r1,q1⟩=>test_link (bM (hb pins s1 σ H1 _ I1 q1) fun u s2 ⟨y,H2,I2,r2,q2⟩ =>
  bM (ho pins s2 σ H2 x y v u _ I2 r1 r2 q2) fun d s3 ⟨z,H3,I3,r3,k,e,q3⟩=>?_)) hm
 subst e
 cases r3
 refine JE ?_
 cases k with
 | false =>
  obtain⟨k',e',q'⟩:=q3
  cases e'
  exact ite_ff ⟨H3,I3,q'⟩
 | true =>
  refine ite_tt (test_last (bM (hc pins s3 σ H3 _ I3 q3) fun w' s4 ⟨z',H4,I4,r4,q4⟩=>bM (ho' pins s4 σ H4 y z' u w' _ I4 r2 r4 q4) fun d' s5 ⟨z2,H5,I5,r5,k2,e2,q5⟩=>?_))
  subst e2
  cases r5
  exact JE ⟨H5,I5,q5⟩
def FE(K:PySem.W.Frag)(x:V)(H:Hp)(k:Bool):Prop :=
 match x with
 | .non=>k=false
 | .bl b=>k=b
 | .int i=>k=(i != 0)
 | .str y=>y.length≤sizeLine∧k=((y.length:Int) != 0)
 | .byt y=>y.size≤sizeLine∧k=((y.size:Int) != 0)
 | .ref p=>(∃ xs,aA K H p xs∧k = !xs.isEmpty)∨(∃ xs,bO K H p xs∧k = !xs.isEmpty)∨∃ kvs,H p=some (.dK kvs)∧k = !kvs.isEmpty
 | _=>False
def tO{κ:Type}{kvs:List (κ × V)}{vs:List (κ × Value)}(r:KV kvs vs):(!vs.isEmpty) = !kvs.isEmpty:=by
 cases r <;> rfl
def mW{xs:List V}{its:List Value}(r:Vals xs its):(!its.toArray.isEmpty) = !xs.isEmpty:=by
 cases r <;> simp
def kI:(sizeLine:Nat)<2 ^ 63:=by rw [sizeLine_eq];decide
def EJ:Ig X (fun x H Q=>∃ k,FE X.K x H k∧Q k H):=by
 intro pins s σ H x v Q I rx h
 obtain⟨k,e,q⟩:=h
 have hl:=kI
 have hs:sizeLine=16777216:=sizeLine_eq
 cases x with
 | non =>
  cases rx
  have e':k=false:=e
  subst e'
  exact truthy_none ⟨H,I,q⟩
 | bl b =>
  cases rx
  have e':k=b:=e
  subst e'
  exact JE ⟨H,I,q⟩
 | int i =>
  obtain⟨t,rfl⟩:=rx
  have e':k=(i != 0):=e
  subst e'
  exact PySem.P.truthy_int ⟨H,I,q⟩
 | str y =>
  obtain⟨t,rfl⟩:=rx
  obtain⟨hy,e'⟩:y.length≤sizeLine∧k=((y.length:Int) != 0):=e
  subst e'
  exact PySem.P.truthy_str (by lia) ⟨H,I.tok _,q⟩
 | byt y =>
  obtain⟨t,rfl⟩:=rx
  obtain⟨hy,e'⟩:y.size≤sizeLine∧k=((y.size:Int) != 0):=e
  subst e'
  exact PySem.W.truthy_bytes (by lia) ⟨H,I.tok _,q⟩
 | ref p =>
  cases rx
  have e':(∃ xs,aA X.K H p xs∧k = !xs.isEmpty)∨(∃ xs,bO X.K H p xs∧k = !xs.isEmpty)∨∃ kvs,H p=some (.dK kvs)∧k = !kvs.isEmpty:=e
  rcases e' with⟨xs,hx,e'⟩ | ⟨xs,hx,e'⟩ | ⟨kvs,hx,e'⟩
  ·subst e'
   obtain⟨its,r,pl,hz⟩:=I.list hx
   have hlen:=r.length
   exact wpAny_truthy_list pl.isList (by simp only [IY];lia) ⟨H,I.tok _,by rw [mW r];exact q⟩
  ·subst e'
   obtain⟨its,r,pl,hz⟩:=I.tuple hx
   have hlen:=r.length
   exact truthy_tuple pl (by simp only [IY];lia) ⟨H,I.tok _,by rw [mW r];exact q⟩
  ·subst e'
   obtain⟨hz,hS,vs,r,m⟩:kvs.length≤sizeLine∧(p==sysModules)=false∧∃ vs,KV kvs vs∧s.heap.DictOf (aQ X.prog X.w) p vs:=I.hok p _ hx
   have hlen:kvs.length=vs.length:=IX r
   exact wpAny_truthy_dict hS m (by lia) ⟨H,I.tok _,by rw [tO r];exact q⟩
 | _=>exact(show False from e).elim
def qL(ha:PE X a ta)(he:∀ whole,isTrue a X.env whole=(do let v ← whole;standAt a.pos;holding [v] (truthy v))) :
  PT X a (fun σ H Q=>ta σ H fun x H'=>∃ k,FE X.K x H' k∧Q k H'):=by
 intro pins s σ H Q I h
 exact isTrue_plain (bM (ha pins s σ H _ I h) fun v s1 ⟨x,H1,I1,r1,q1⟩=>EJ pins s1 σ H1 x v Q I1 r1 q1) (he _)
def uH:gr X (binaryOp .Add) (fun x y H Q=>∃ i j,x=.str i∧y=.str j∧i.length+j.length≤sizeLine∧Q (.str (i++j)) H):=by
 intro pins s σ H x y v u Q I rx ry h
 obtain⟨i,j,rfl,rfl,hz,q⟩:=h
 obtain⟨t,rfl⟩:=rx
 obtain⟨t',rfl⟩:=ry
 exact add_str (fun t' tk=>⟨.str (i++j),H,I.tok _,⟨_,rfl⟩,q⟩) hz
def vals1{x:V}{us:List Value}(r:Vals [x] us):∃ u,us=[u]∧RelV x u:=by
 cases r with
 | cons r1 r2=>cases r2;exact⟨_,rfl,r1⟩
def vals2{x y:V}{us:List Value}(r:Vals [x,y] us):∃ u w',us=[u,w']∧RelV x u∧RelV y w':=by
 cases r with
 | cons r1 r2 =>
  cases r2 with
  | cons r3 r4=>cases r4;exact⟨_,_,rfl,r1,r3⟩
def oW(hc:X.calm=true):dM X (.builtin "min") (fun xs H Q=>∃ i j,xs=[.int i,.int j]∧Q (.int (if j<i then j else i)) H):=by
 intro pins s σ H xs us Q I r h
 obtain⟨i,j,rfl,q⟩:=h
 obtain⟨u,w',rfl,⟨t,rfl⟩,⟨t',rfl⟩⟩:=vals2 r
 refine min_two_ints (I.ok.hd hc) fun h' tk k=>⟨_,H,I.kept k,?_,q⟩
 by_cases hj:j<i
 ·rw [if_pos hj,if_pos hj];exact⟨_,rfl⟩
 ·rw [if_neg hj,if_neg hj];exact⟨_,rfl⟩
def Fh(K:PySem.W.Frag)(x:V)(H:Hp)(n:Nat):Prop :=
 match x with
 | .str y=>y.length≤sizeLine∧n=y.length
 | .byt y=>y.size≤sizeLine∧n=y.size
 | .ref p=>(∃ xs,aA K H p xs∧n=xs.length)∨∃ xs,bO K H p xs∧n=xs.length
 | _=>False
def bu:dM X (.builtin "len") (fun xs H Q=>∃ x n,xs=[x]∧Fh X.K x H n∧Q (.int n) H):=by
 intro pins s σ H xs us Q I r h
 obtain⟨x,n,rfl,e,q⟩:=h
 obtain⟨u,rfl,rx⟩:=vals1 r
 have hl:=kI
 have hs:sizeLine=16777216:=sizeLine_eq
 cases x with
 | str y =>
  obtain⟨t,rfl⟩:=rx
  obtain⟨hy,e'⟩:y.length≤sizeLine∧n=y.length:=e
  subst e'
  exact len_str (by lia) ⟨.int _,H,I.tok _,⟨_,rfl⟩,q⟩
 | byt y =>
  obtain⟨t,rfl⟩:=rx
  obtain⟨hy,e'⟩:y.size≤sizeLine∧n=y.size:=e
  subst e'
  exact PySem.W.len_bytes (by lia) ⟨.int _,H,I.tok _,⟨_,rfl⟩,q⟩
 | ref p =>
  cases rx
  have e':(∃ xs,aA X.K H p xs∧n=xs.length)∨∃ xs,bO X.K H p xs∧n=xs.length:=e
  rcases e' with⟨xs,hx,e'⟩ | ⟨xs,hx,e'⟩
  ·subst e'
   obtain⟨its,r',pl,hz⟩:=I.list hx
   have hlen:=r'.length
   exact Calls.call_len_list pl.isList (by simp only [IY];lia) ⟨.int xs.length,H,I.tok _,⟨_,by simp only [IY];rw [hlen]⟩,q⟩
  ·subst e'
   obtain⟨its,r',pl,hz⟩:=I.tuple hx
   have hlen:=r'.length
   exact len_tuple pl (by simp only [IY];lia) ⟨.int xs.length,H,I.tok _,⟨_,by simp only [IY];rw [hlen]⟩,q⟩
 | _=>exact(show False from e).elim
end
end L2
namespace L2
open PySem PySem.Spec PyProof.Rows
structure uQ(h:Heap)(x dx C:Addr)(mA:Str→Option Value):Prop where
 obj:h.get? x=some (PySem.W.instObj C dx)
 ns:h.Ns1 dx mA
 ne:dx≠x
def yg{h:Heap}{dx:Addr}{mA:Str→Option Value}(n:h.Ns1 dx mA):∃ od,h.get? dx=some od∧∀ name,PySem.W.lookIn name od=some (mA name):=by
 obtain⟨o,es,ep,ho,hd,hk,_,hm⟩:=n
 refine⟨o,ho,fun name=>?_⟩
 have e:=hm name
 unfold nsFind findBy at e
 rw [← Array.find?_toList] at e
 unfold PySem.W.lookIn
 rw [hd]
 dsimp only
 split
 ·rename_i y q
  rw [q] at e
  exact J4 some e
 ·rename_i q
  rw [q] at e
  have a:es.toList.any (·.refKey)=false:=by
   rw [List.any_eq_false]
   intro y hy
   obtain⟨z,t,hkey⟩:=hk y (Array.mem_toList_iff.mp hy)
   simp [DictEntry.refKey,hkey]
  have a':¬ es.toList.any (·.refKey)=true:=by rw [a];exact Je
  rw [if_neg a']
  exact J4 some e
def uQ.look{h:Heap}{x dx C:Addr}{mA:Str→Option Value}(I:uQ h x dx C mA):∃ od,PySem.W.InstAt h x (PySem.W.instObj C dx) C (some od)∧∀ name,PySem.W.lookIn name od=some (mA name) :=
 let ⟨od,ho,hl⟩:=yg I.ns
 ⟨od,⟨I.obj,rfl,rfl,ho⟩,hl⟩
section
variable {prog:Program}{w:World}{A:Around}{E:Value→Shared→Prop}{s:Shared}{K:PySem.W.Frag}{x dx C f:Addr}{mA:Str→Option Value}{name:Str}{v:Value}
def get_map{expr:Bool}{Q:Value→Shared→Prop}(X:K.In s.heap)(I:uQ s.heap x dx C mA)(hg:PySem.W.plainGet K C name=true)(hh:PySem.W.hasDictIn K C=true)
  (ha:PySem.W.findIn K (.ref C) name=some none) (hv:mA name=some v) (hv':PySem.W.handedIn v=true) (h:Q v { s with toks:=s.toks+1 }) :
  wpAny (model prog w) A (getAttr (.ref x) name expr) Q E s:=by
 obtain⟨od,J,hl⟩:=I.look
 exact PySem.W.get_value X J (Mu hg).1 (PySem.W.findObj_own hh ha rfl (by rw [hl,hv])) hv' h
def yS{pl:Sem Bool}{Q:Value × List Value→Shared→Prop}(X:K.In s.heap)(I:uQ s.heap x dx C mA)(hg:PySem.W.plainGet K C name=true)
  (hf:PySem.W.findIn K (.ref C) name=some (some (.ref f))) (ht:PySem.W.isFn K (.ref f)=true) (hv:mA name=none) (h:Q (.ref f,[.ref x]) s) :
  wpAny (model prog w) A (getMethod (.ref x) name pl) Q E s:=by
 obtain⟨od,J,hl⟩:=I.look
 exact PySem.W.method_fn X J (Mu hg).1 (Mu hg).2 hf (KJ.mp ht) (by show(PySem.W.lookIn name od).map (·.isSome)=some false;rw [hl,hv];rfl) h
def qq{ns:List Str}{Q:Unit→Shared→Prop}(X:K.In s.heap)(I:uQ s.heap x dx C mA)
  (hs:PySem.W.findIn K (.ref C) "__setattr__"=some (some (.builtin "object.__setattr__"))) (hp:PySem.W.plainOver K C=true) (ht:PySem.W.takerIn K C name=some none) (hh:PySem.W.hasDictIn K C=true)
  (hw:PySem.Within mA ns) (hsz:ns.length≤sizeLine)
  (h:∀ h',uQ h' x dx C (fun y=>if y=name then some v else mA y)→Heap.SameBut dx s.heap h'→Q () { s with heap:=h',toks:=s.toks+2 }) :
  wpAny (model prog w) A (setAttr (.ref x) name v) Q E s:=by
 obtain⟨od,J,hl⟩:=I.look
 refine PySem.W.set_plain X J hs (PySem.W.osa_open (s:={ s with toks:=s.toks+1 }) (r:=none) X J hp ht fun b=>?_)
 obtain⟨cd,hc,hd'⟩:=PySem.W.any_some hh
 have hx:s.heap.get? x=some ⟨.ref C,some dx,.plain,#[]⟩:=I.obj
 refine IE (wpAny_pure (IE (IE (wpAny_loadPart hx (IE (PySem.W.Looks.here (s:={ s with toks:=s.toks+1 }) (PySem.W.looks_clsIn X hc) ?_))))))
 rw [hd']
 refine wpAny_pure (a:=some dx) (IE (wpAny_pure (IE ?_)))
 refine wpAny_nsSet1 (s:={ s with toks:=s.toks+1 }) I.ns fun h' hn2 hs2=>?_
 obtain⟨oD,esD,epD,hoD,hdD,hcD⟩:=hn2.count (PySem.Within.cons name v hw)
 refine IE (wpAny_lookBehind hoD (by rw [hdD];exact pastItsLine_dict (Jf hcD (by rw [Jh];lia))) ?_)
 exact wpAny_pure (h _ ⟨(hs2.2 _ (Jg I.ne)).trans I.obj,hn2,I.ne⟩ hs2)
def AJ{R:Result→Shared→Prop}{vs:List Value}{kw:List (Str × Value)}(X:K.In s.heap)(hm:PySem.W.makesIn K C=true)
  (hi:PySem.W.findIn K (.ref C) "__init__"=some (some (.ref f))) (hf:PySem.W.typeIn K (.ref f)=some (.type "function"))
  (h:codeAny (model prog w) (A.under (.builtin "type.__call__" ⟨.ref C :: vs,kw⟩)) (.call (.ref f) ⟨.ref (s.heap.objs.size + 1) :: vs,kw⟩) (PySem.W.InitBack (s.heap.objs.size + 1) R)
   { s with heap:=(s.heap.push PySem.W.emptyDict).push (PySem.W.instObj C s.heap.objs.size) }) :
  codeAny (model prog w) A (.call (.ref C) ⟨vs,kw⟩) R s:=by
 obtain⟨hh,g,d,t,os⟩:=s
 exact PySem.W.make_core (PySem.W.makes_of X hm) (PySem.W.looks_findIn X hi) (fun self=>PySem.W.bind_fn X self hf) (.inl rfl) h
end
def bf(f:Str)(v:V):List (Str × V)→List (Str × V)
 | []=>[(f,v)]
 | (g,x)::r=>if g=f then(g,v)::r else(g,x)::bf f v r
theorem ar(f g:Str)(v:V):∀ fs:List (Str × V),(bf f v fs).lookup g=if g=f then some v else fs.lookup g
 | []=>by
  show List.lookup g [(f,v)]=_
  by_cases h:g=f
  ·have hb:(g==f)=true:=KJ.mpr h
   simp only [List.lookup,hb,if_pos h]
  ·have hb:(g==f)=false:=J0.mpr h
   simp only [List.lookup,hb,if_neg h]
 | (k,x)::r=>by
  have ih:=ar f g v r
  rw [show bf f v ((k,x)::r)=(if k=f then(k,v)::r else(k,x)::bf f v r) from rfl]
  by_cases hk:k=f
  ·rw [if_pos hk]
   by_cases h:g=k
   ·have hb:(g==k)=true:=KJ.mpr h
    simp only [List.lookup,hb,if_pos (h.trans hk)]
   ·have hb:(g==k)=false:=J0.mpr h
    simp only [List.lookup,hb,if_neg (fun e:g=f=>h (e.trans hk.symm))]
  ·rw [if_neg hk]
   by_cases h:g=k
   ·have hb:(g==k)=true:=KJ.mpr h
    simp only [List.lookup,hb,if_neg (fun e:g=f=>hk (h.symm.trans e))]
   ·have hb:(g==k)=false:=J0.mpr h
    simp only [List.lookup,hb]
    exact ih
theorem ku(f:Str)(v:V):∀ fs:List (Str × V),f∈(bf f v fs).map (·.1)∧∀ g,g∈fs.map (·.1)→g∈(bf f v fs).map (·.1)
 | []=>⟨by simp [bf],fun g h=>by simp at h⟩
 | (k,x)::r=>by
  obtain⟨i1,i2⟩:=ku f v r
  rw [show bf f v ((k,x)::r)=(if k=f then(k,v)::r else(k,x)::bf f v r) from rfl]
  by_cases hk:k=f
  ·rw [if_pos hk]
   subst hk
   exact⟨by simp,fun g h=>by simpa using h⟩
  ·rw [if_neg hk]
   refine⟨?_,fun g h=>?_⟩
   ·rw [JG]
    exact List.mem_cons_of_mem _ i1
   ·rw [JG] at h ⊢
    rcases IP.mp h with e | e
    ·exact IP.mpr (.inl e)
    ·exact List.mem_cons_of_mem _ (i2 g e)
theorem kM(f:Str)(v:V):∀ fs:List (Str × V),(bf f v fs).length≤fs.length+1
 | []=>by simp [bf]
 | (k,x)::r=>by
  have ih:=kM f v r
  rw [show bf f v ((k,x)::r)=(if k=f then(k,v)::r else(k,x)::bf f v r) from rfl]
  by_cases hk:k=f
  ·rw [if_pos hk,Jh,Jh];lia
  ·rw [if_neg hk,Jh,Jh];lia
def iW.some_of{v:V}{o:Option Value}(r:iW (some v) o):∃ u,o=some u∧RelV v u:=by
 cases o with
 | none=>exact(show False from r).elim
 | some u=>exact⟨u,rfl,r⟩
def iW.none_of{o:Option Value}(r:iW none o):o=none:=by
 cases o with
 | none=>rfl
 | some u=>exact(show False from r).elim
def wK{v:V}{u:Value}(r:RelV v u):PySem.W.handedIn u=true:=by
 cases v with
 | non=>cases (show u=Value.none from r);rfl
 | bl b=>cases (show u=Value.bool b from r);rfl
 | int i=>obtain⟨t,e⟩:=(show ∃ t,u=Value.int i t from r);cases e;rfl
 | str x=>obtain⟨t,e⟩:=(show ∃ t,u=Value.str x t from r);cases e;rfl
 | byt b=>obtain⟨t,e⟩:=(show ∃ t,u=Value.bytes b t from r);cases e;rfl
 | flt b=>obtain⟨t,e⟩:=(show ∃ t,u=Value.float b t from r);cases e;rfl
 | ref a=>cases (show u=Value.ref a from r);rfl
 | ty n=>cases (show u=Value.type n from r);rfl
section
variable {P:Program}{w:World}{H H':Hp}{h h':Heap}{a C dx:Addr}{fs fs':List (Str × V)}
def lj(hok:jt P w H h)(e:H a=some (.ins C dx fs)):∃ mA,uQ h a dx C mA∧(∀ f,iW (fs.lookup f) (mA f))∧PySem.Within mA (fs.map (·.1))∧fs.length≤1000∧H dx=some (.own a):=by
 obtain⟨d,z,ne,ob,mA,n,r,q⟩:=(show bJ P w H h a (.ins C dx fs) from hok a _ e)
 exact⟨mA,⟨ob,n,ne⟩,r,q,z,d⟩
end
structure yj(K:PySem.W.Frag)(C:Addr):Prop where
 pg:PySem.W.plainGet K C Str.empty=true
 hd:PySem.W.hasDictIn K C=true
 po:PySem.W.plainOver K C=true
 sa:PySem.W.findIn K (.ref C) "__setattr__"=some (some (.builtin "object.__setattr__"))
def yj.get{K:PySem.W.Frag}{C:Addr}(c:yj K C)(f:Str):PySem.W.plainGet K C f=true:=c.pg
def cD(K:PySem.W.Frag)(C:Addr)(f:Str):Prop:=PySem.W.findIn K (.ref C) f=some none
def cD.FY{K:PySem.W.Frag}{C:Addr}{f:Str}(n:cD K C f):PySem.W.takerIn K C f=some none:=by
 unfold PySem.W.takerIn
 rw [show PySem.W.findIn K (.ref C) f=some none from n]
 rfl
structure Con(K:PySem.W.Frag)(C:Addr)(f:Str)(v:V)(u:Value):Prop where
 at_:PySem.W.findIn K (.ref C) f=some (some u)
 rel:RelV v u
 get:PySem.W.specialIn K u "__get__"=some none
 cp:PySem.W.copiedNames.contains f=false
structure Meth(K:PySem.W.Frag)(C:Addr)(m:Str)(f:Addr):Prop where
 at_:PySem.W.findIn K (.ref C) m=some (some (.ref f))
 fn:PySem.W.isFn K (.ref f)=true
 kp:PySem.W.keepIn K (.ref f)=true
section
variable {X:Cx}{pins:List (Addr × Obj)}{σ:St}{H:Hp}{s:Shared}{a C dx:Addr}{fs:List (Str × V)}{f:Str}{v:V}{A:Around}{E:Value→Shared→Prop}
def uB{b:Bool}{Q:Value→Shared→Prop}(I:Inv X pins σ H s)(e:H a=some (.ins C dx fs))(c:yj X.K C)(n:cD X.K C f)(l:fs.lookup f=some v)
  (h:∀ u s',Inv X pins σ H s'→RelV v u→Q u s'):wpAny (model X.prog X.w) A (getAttr (.ref a) f b) Q E s:=by
 obtain⟨mA,O,r,_,_,_⟩:=lj I.hok e
 obtain⟨u,hu,ru⟩:=iW.some_of (v:=v) (o:=mA f) (by rw [← l];exact r f)
 exact get_map I.kR O (c.get f) c.hd n hu (wK ru) (h u _ (I.tok _) ru)
def mZ{m:Str}{g:Addr}{pl:Sem Bool}{Q:Value × List Value→Shared→Prop}(I:Inv X pins σ H s)(e:H a=some (.ins C dx fs))(c:yj X.K C)(k:Meth X.K C m g)(l:fs.lookup m=none)
  (h:Q (.ref g,[.ref a]) s):wpAny (model X.prog X.w) A (getMethod (.ref a) m pl) Q E s:=by
 obtain⟨mA,O,r,_,_,_⟩:=lj I.hok e
 have hn:mA m=none:=iW.none_of (by rw [← l];exact r m)
 exact yS I.kR O (c.get m) k.at_ k.fn hn h
def uO{y:V}{u:Value}{Q:Unit→Shared→Prop}(I:Inv X pins σ H s)(e:H a=some (.ins C dx fs))(c:yj X.K C)(n:cD X.K C f)(hl:fs.length<1000)(ry:RelV y u)
  (h:∀ s',Inv X pins σ (upd H a (.ins C dx (bf f y fs))) s'→Q () s'):wpAny (model X.prog X.w) A (setAttr (.ref a) f u) Q E s:=by
 obtain⟨mA,O,r,wi,_,ho⟩:=lj I.hok e
 have hz:(fs.map (·.1)).length≤sizeLine:=by rw [List.length_map,sizeLine_eq];lia
 refine qq I.kR O c.sa c.po n.FY c.hd wi hz fun h' O' sb=>h _ ?_
 have hd:∃ o,h'.get? dx=some o:=let ⟨o,_,_,e',_⟩:=O'.ns;⟨o,e'⟩
 refine I.write (x:=a) (e:=dx) (by rw [e];exact True.intro) (.inr ho) (fun b q hb z=>(sb.2 b hb).trans z) hd ?_
 refine⟨by rw [ah O.ne];exact ho,?_,O.ne,O'.obj,_,O'.ns,fun g=>?_,fun g hg=>?_⟩
 ·have:=kM f y fs;lia
 ·show iW ((bf f y fs).lookup g) (if g=f then some u else mA g)
  rw [ar]
  by_cases q:g=f
  ·rw [if_pos q,if_pos q];exact ry
  ·rw [if_neg q,if_neg q];exact r g
 ·by_cases q:g=f
  ·rw [q];exact(ku f y fs).1
  ·refine(ku f y fs).2 g (wi g fun z=>hg ?_)
   show(if g=f then some u else mA g)=none
   rw [if_neg q];exact z
def Inv.made(I:Inv X pins σ H s):Inv X pins σ (upd (upd H s.heap.objs.size (.own (s.heap.objs.size+1))) (s.heap.objs.size+1) (.ins C s.heap.objs.size []))
  { s with heap:=(s.heap.push PySem.W.emptyDict).push (PySem.W.instObj C s.heap.objs.size) }:=by
 have e1:(s.heap.push PySem.W.emptyDict).get? s.heap.objs.size=some PySem.W.emptyDict:=IQ s.heap rfl
 have e2:((s.heap.push PySem.W.emptyDict).push (PySem.W.instObj C s.heap.objs.size)).get? (s.heap.objs.size+1)=some (PySem.W.instObj C s.heap.objs.size):=by
  have:=IQ (s.heap.push PySem.W.emptyDict) (o:=PySem.W.instObj C s.heap.objs.size) rfl
  rwa [JV] at this
 have e3:(s.heap.push PySem.W.emptyDict).Ns s.heap.objs.size (fun _=>none):=⟨PySem.W.emptyDict,#[],_,e1,rfl,(fun e he=>absurd he (by simp)),fun _=>rfl⟩
 have I1:=I.laid (a:=s.heap.objs.size) (o:=.own (s.heap.objs.size+1)) (h':=s.heap.push PySem.W.emptyDict) (t':=s.toks) (fun b u q=>IF _ q) (II _) ⟨_,e1⟩
 refine I1.laid (a:=s.heap.objs.size+1) (o:=.ins C s.heap.objs.size []) (t':=s.toks) (fun b u q=>IF _ q) (MT (JV _ _)) ?_
 have ne:s.heap.objs.size≠s.heap.objs.size+1:=IS (JX _)
 refine⟨by rw [ah ne,ag],IU _,ne,e2,fun _=>none,(Heap.Ns1.of_empty e3).at fun o q=>IF _ q,fun _=>True.intro,fun y hy=>absurd rfl hy⟩
def Bf{prog:Program}{w:World}{env:Env}{e:Expr}{f:Str}{pos:Pos}{s:Shared}{Q:Value→Shared→Prop}(hb:attributeBase e f env (eval e env)=eval e env)
  (h:wpAny (model prog w) A (eval e env) (fun o s₁=>wpAny (model prog w) A (getAttr o f true) Q E s₁) E s):wpAny (model prog w) A (eval (.Attribute e f pos) env) Q E s :=
 Attribute_any_ h (by rw [arm_eval_Attribute,hb])
end
def HP(K:PySem.W.Frag)(ta:TE)(f:Str):TE:=fun σ H Q=>ta σ H fun x H1=>∃ a C dx fs v,x=.ref a∧H1 a=some (.ins C dx fs)∧yj K C∧cD K C f∧fs.lookup f=some v∧Q v H1
def Ib(K:PySem.W.Frag)(ta tv:TE)(f:Str):TS:=fun D σ H=>tv σ H fun y H1=>ta σ H1 fun x H2=>∃ a C dx fs,x=.ref a∧H2 a=some (.ins C dx fs)∧yj K C∧cD K C f∧fs.length<1000 ∧
 D.nx σ (upd H2 a (.ins C dx (bf f y fs)))
section
variable {X:Cx}{o e value:Expr}{f:Str}{pos pos' tpos:Pos}{ta tv:TE}
def aM(he:PE X e ta)(hb:attributeBase e f X.env (eval e X.env)=eval e X.env):PE X (.Attribute e f pos) (HP X.K ta f):=by
 intro pins s σ H Q I h
 refine Bf hb (bM (he pins s σ H _ I h) fun u s1 ⟨x,H1,I1,rx,a,C,dx,fs,v,ex,ea,c,n,l,q⟩=>?_)
 subst ex
 obtain rfl:u=Value.ref a:=rx
 exact uB I1 ea c n l fun u' s2 I2 ru=>⟨v,H1,I2,ru,q⟩
def eh(ha:PE X o ta)(hv:PE X value tv)(hs:swapsWith value (some (.Attribute o f pos')) pos.line X.env=pure false):PS X (.Assign [.Attribute o f pos'] value pos) (Ib X.K ta tv f):=by
 intro pins s σ H D I h
 refine plainObj_wpAny_Assign_Attribute (bM (hv pins s σ H _ I h) fun u s1 ⟨y,H1,I1,ry,q⟩=>bM (ha pins s1 σ H1 _ I1 q) fun ov s2 ⟨x,H2,I2,rx,a,C,dx,fs,ex,ea,c,n,l,q2⟩=>?_) hs
 subst ex
 obtain rfl:ov=Value.ref a:=rx
 exact uO I2 ea c n l ry fun s3 I3=>⟨σ,_,I3,q2⟩
end
section
variable {X:Cx}{pins:List (Addr × Obj)}{σ:St}{H:Hp}{s:Shared}{A:Around}{E:Value→Shared→Prop}{Q:Value→Shared→Prop}{c:Value}{b:Bool}
inductive gZ(K:PySem.W.Frag)(H:Hp):V→Value→Prop where
 | non:gZ K H .non (.type "NoneType")
 | bl (x:Bool):gZ K H (.bl x) (.type "bool")
 | int (i:Int):gZ K H (.int i) (.type "int")
 | str (x:Str):gZ K H (.str x) (.type "str")
 | flt (x:UInt64):gZ K H (.flt x) (.type "float")
 | lst {a:Addr} {xs:List V} (e:H a=some (.lst xs)):gZ K H (.ref a) (.type "list")
 | frz {a:Addr} {o:Obj} {xs:List V} (e:H a=some (.frz o (.lst xs))):gZ K H (.ref a) (.type "list")
 | tup {a:Addr} {xs:List V} (e:H a=some (.tup xs)):gZ K H (.ref a) (.type "tuple")
 | dK {a:Addr} {kvs:List (Key × V)} (e:H a=some (.dK kvs)):gZ K H (.ref a) (.type "dict")
 | dT {a:Addr} {kvs:List (List Key × V)} (e:H a=some (.dT kvs)):gZ K H (.ref a) (.type "dict")
 | ins {a C dx:Addr} {fs:List (Str × V)} (e:H a=some (.ins C dx fs)) (cl:yj K C) (ha:PySem.W.findIn K (.ref C) "__class__"=some (some (.builtin "object.__class__")))
   (hn:PySem.W.specialIn K (.builtin "object.__class__") "__get__"=some (some (.builtin "getset_descriptor.__get__"))) (htk:PySem.W.takesIn K (.builtin "object.__class__")=some true)
   (hm:PySem.W.mroIn K C (.type "object")=some true):gZ K H (.ref a) (.ref C)
def xv{x:V}{u t:Value}(I:Inv X pins σ H s)(rx:RelV x u)(ty:gZ X.K H x t)(e:PySem.W.kitOne X.K t c=some b)(h:∀ tk,Q (.bool b) { s with toks:=tk }) :
  wpAny (model X.prog X.w) A (call (.builtin "isinstance") [u,c]) Q E s:=by
 cases ty with
 | non=>cases (show u=Value.none from rx);exact J6 PySem.W.kitx_none I.kR True.intro e (fun z=>nomatch z) h
 | bl y=>cases (show u=Value.bool y from rx);exact J6 PySem.W.kitx_bool I.kR True.intro e (fun z=>nomatch z) h
 | int i=>obtain⟨t,q⟩:=(show ∃ t,u=Value.int i t from rx);cases q;exact J6 PySem.W.kitx_int I.kR True.intro e (fun z=>nomatch z) h
 | str y=>obtain⟨t,q⟩:=(show ∃ t,u=Value.str y t from rx);cases q;exact J6 PySem.W.kitx_str I.kR True.intro e (fun z=>nomatch z) h
 | flt y=>obtain⟨t,q⟩:=(show ∃ t,u=Value.float y t from rx);cases q;exact J6 PySem.W.kitx_float I.kR True.intro e (fun z=>nomatch z) h
 | @lst a xs ea =>
  cases (show u=Value.ref a from rx)
  obtain⟨_,_,n,_,h1⟩:=(show bJ X.prog X.w H s.heap a (.lst xs) from I.hok a _ ea)
  exact J6 PySem.W.kitx_list I.kR ⟨_,h1,rfl⟩ e (fun z=>nomatch z) h
 | @frz a ob xs ea =>
  cases (show u=Value.ref a from rx)
  obtain⟨_,_,_,n,_,h1⟩:=(show bJ X.prog X.w H s.heap a (.frz ob (.lst xs)) from I.hok a _ ea)
  exact J6 PySem.W.kitx_list I.kR ⟨_,h1,rfl⟩ e (fun z=>nomatch z) h
 | @tup a xs ea =>
  cases (show u=Value.ref a from rx)
  obtain⟨_,_,_,p⟩:=(show bJ X.prog X.w H s.heap a (.tup xs) from I.hok a _ ea)
  obtain⟨o,h1,h2,_⟩:=p
  exact J6 PySem.W.kitx_tuple I.kR ⟨o,h1,h2⟩ e (fun z=>nomatch z) h
 | @dK a kvs ea =>
  cases (show u=Value.ref a from rx)
  obtain⟨_,_,vs,_,p⟩:=(show bJ X.prog X.w H s.heap a (.dK kvs) from I.hok a _ ea)
  obtain⟨o,es,ep,h1,h2,_⟩:=p
  exact J6 PySem.W.kitx_dict I.kR ⟨o,h1,h2.1⟩ e (fun z=>nomatch z) h
 | @dT a kvs ea =>
  cases (show u=Value.ref a from rx)
  obtain⟨_,_,xs,_,o,es,ep,h1,h2,_⟩:=(show bJ X.prog X.w H s.heap a (.dT kvs) from I.hok a _ ea)
  exact J6 PySem.W.kitx_dict I.kR ⟨o,h1,h2.1⟩ e (fun z=>nomatch z) h
 | @ins a C dx fs ea cl ha hn htk hm =>
  cases (show u=Value.ref a from rx)
  obtain⟨mA,O,_⟩:=lj I.hok ea
  obtain⟨od,J,_⟩:=O.look
  exact J6 (PySem.W.kitx_own (cl.get _) cl.hd ha hn htk hm) I.kR J e (fun z=>nomatch z) h
end
end L2
namespace L2
open PySem PySem.Spec PyProof.Rows
structure cw(k:Nat)(A:Around):Prop where
 hd:A.handled=none
 dp:A.depth+3*k+5<recursionLimit
 un:A.units+16*k+200<cLine
 gd:A.guards=some []
def cw.mono{j k:Nat}{A:Around}(r:cw k A)(h:j≤k):cw j A:=⟨r.hd,by have:=r.dp;lia,by have:=r.un;lia,r.gd⟩
theorem cw.deeper{k:Nat}{A:Around}(r:cw (k+1) A)(env:Env):cw k (A.deeper env) :=
 ⟨r.hd,by have:=r.dp;show A.depth+1+3*k+5<_;lia,by have:=r.un;show A.units+3+16*k+200<_;lia,r.gd⟩
def tM{A:Around}{C:Addr}{us:List Value}{kw:List (Str × Value)}:(A.under (.builtin "type.__call__" ⟨.ref C::us,kw⟩)).depth=A.depth+1:=by
 first | rfl | simp [Around.under,Code.weight,Code.isCreation,Code.isGuard,Code.isCaller,Code.frames,Code.isFrame,guardIds]
def uC{A:Around}{C:Addr}{us:List Value}{kw:List (Str × Value)}:(A.under (.builtin "type.__call__" ⟨.ref C::us,kw⟩)).units=A.units+1:=by
 first | rfl | simp [Around.under,Code.cUnits,Code.frames,Code.isFrame]
def cw.make{k:Nat}{A:Around}(r:cw (k+1) A)(C:Addr)(us:List Value)(kw:List (Str × Value)):cw k (A.under (.builtin "type.__call__" ⟨.ref C::us,kw⟩)) :=
 ⟨r.hd,by have:=r.dp;rw [tM];lia,by have:=r.un;rw [uC];lia,by first | exact r.gd | (simp [Around.under,Code.isGuard,guardIds];exact r.gd)⟩
theorem cw.depth{k:Nat}{A:Around}(r:cw k A):A.depth<recursionLimit:=by have:=r.dp;lia
theorem cw.units{k:Nat}{A:Around}(r:cw k A):A.units+64<cLine:=by have:=r.un;lia
def cw.tD{k:Nat}{A:Around}(r:cw k A):A.units<cLine:=by have:=r.un;lia
def DJ:TA:=fun _ H Q=>Q [] H
def C8(ta:TE)(tr:TA):TA:=fun σ H Q=>ta σ H fun x H1=>tr σ H1 fun xs H2=>Q (x::xs) H2
section
variable {X:Cx}{e:Expr}{es:List Expr}{te:TE}{t:TA}{pos:Pos}
def ae:PA X [] DJ:=fun _ _ _ _ H Q I h=>MP ⟨[],H,I,.nil,h⟩
def aa(ha:PE X e te)(hr:PA X es t)(hs:starEach (e::es) X.env=(false,eval e X.env)::starEach es X.env:=by rfl):PA X (e::es) (C8 te t):=by
 intro pos pins s σ H Q I h
 rw [hs]
 show wpAny _ _ (spliced ((false,eval e X.env)::backTo pos (starEach es X.env))) _ _ s
 refine MF (bM (ha pins s σ H _ I h) fun u s1 ⟨x,H1,I1,r1,q1⟩=>?_)
 exact bM (hr pos pins s1 σ H1 _ I1 q1) fun us s2 ⟨xs,H2,I2,r2,q2⟩=>⟨x::xs,H2,I2,.cons r1 r2,q2⟩
def Hu(t:TA):TE:=fun σ H Q=>t σ H fun xs H1=>xs.length≤sizeLine∧∀ p,H1 p=none→Q (.ref p) (upd H1 p (.tup xs))
def HJ(t:TA):TE:=fun σ H Q=>t σ H fun xs H1=>xs.length≤sizeLine∧∀ p,H1 p=none→Q (.ref p) (upd H1 p (.lst xs))
def fD{x1}(h:PA X es t):PE X (.Tuple es x1 pos) (Hu t):=by
 intro pins s σ H Q I hq
 refine wpAny_Tuple_spliced (bM (h pos pins s σ H _ I hq) fun us s1 ⟨xs,H1,I1,r,z,q⟩=>⟨by rw [← r.length];exact z,?_⟩)
 have hf:H1 s1.heap.objs.size=none:=I1.hok.fresh (II _)
 refine⟨.ref s1.heap.objs.size,upd H1 s1.heap.objs.size (.tup xs),I1.laid (t':=s1.toks) (fun b u e=>IF _ e) (II _) ?_,rfl,q _ hf⟩
 exact⟨z,us,r,⟨_,IQ _ rfl,rfl,_,rfl⟩⟩
def dR(h:PA X es t):PE X (.List es pos) (HJ t):=by
 intro pins s σ H Q I hq
 refine wpAny_List_spliced (bM (h pos pins s σ H _ I hq) fun us s1 ⟨xs,H1,I1,r,z,q⟩=>⟨by rw [← r.length];exact z,?_⟩)
 have hf:H1 s1.heap.objs.size=none:=I1.hok.fresh (II _)
 refine⟨.ref s1.heap.objs.size,upd H1 s1.heap.objs.size (.lst xs),I1.laid (t':=s1.toks) (fun b u e=>IF _ e) (II _) ?_,rfl,q _ hf⟩
 exact⟨z,us,0,r,IQ _ rfl⟩
end
abbrev Sp:=List V→Hp→VK→XK→Prop
abbrev Ab:=List Env→Hp→Shared→XK→Value→Shared→Prop
structure tN(P:Program)(w:World)(K:PySem.W.Frag)(mg:Str→Option Value)(base:Heap)(A:Around)(outer:List Env)(s:Shared)(H:Hp):Prop where
 frames:A.frames=some outer
 mod:Mod K mg base
 bs:∀ b o,base.get? b=some o→s.heap.get? b=some o∧H b=none
 bsz:base.objs.size≤s.heap.objs.size
 j9:s.heap.FunFrames base outer
 frf:∀ b∈kL outer,H b=none
 hok:jt P w H s.heap
 bare:AllBare s.gens
def CE(outer:List Env)(P:Program)(w:World)(H:Hp)(s:Shared)(Q:VK)(u:Value)(s':Shared):Prop :=
 ∃ v H',s'.os=s.os∧AllBare s'.gens∧Un (kL outer) [] H H' s.heap s'.heap∧jt P w H' s'.heap∧RelV v u∧Q v H'
def CR(CX:Ab)(outer:List Env)(P:Program)(w:World)(H:Hp)(s:Shared)(Q:VK)(E:XK)(r:Result)(s':Shared):Prop :=
 match r with
 | .ok (.ret u)=>CE outer P w H s Q u s'
 | .ok _=>False
 | .error e=>CX outer H s E e s'
structure bo(P:Program)(w:World)(K:PySem.W.Frag)(mg:Str→Option Value)(base:Heap)(CX:Ab)(k:Nat)(f:Addr)(fd:FuncData)(ps:List Str)(sp:Sp):Prop where
 len:∀ vs H Q E,sp vs H Q E→vs.length=ps.length
 run:∀ (A:Around) (outer:List Env) (s:Shared) (H:Hp) (args:Args) (us:List Value) (vs:List V) (Q:VK) (E:XK),cw k A→tN P w K mg base A outer s H→BindsTo s fd args (ps.zip us)→Vals vs us→sp vs H Q E →
  codeAny (model P w) A (.call (.ref f) args) (CR CX outer P w H s Q E) s
def tN.make{P:Program}{w:World}{K:PySem.W.Frag}{mg:Str→Option Value}{base:Heap}{A:Around}{outer:List Env}{s:Shared}{H:Hp}(e:tN P w K mg base A outer s H)(C:Addr)(us:List Value)(kw:List (Str × Value)) :
  tN P w K mg base (A.under (.builtin "type.__call__" ⟨.ref C::us,kw⟩)) outer s H:=⟨by first | exact e.frames | (simpa [Around.under,Code.envs,Code.isFrame,pushEnvs] using e.frames),e.mod,e.bs,e.bsz,e.j9,e.frf,e.hok,e.bare⟩
section
variable {X:Cx}{pins:List (Addr × Obj)}{σ:St}{H:Hp}{s s':Shared}
def Inv.Fn(I:Inv X pins σ H s):tN X.prog X.w X.K X.mg X.base X.A X.stack s H :=
 ⟨I.ok.frames,I.ok.mod,I.bs,Jf I.ok.bsz I.sz,I.stack,I.wj,I.hok,I.bare⟩
def Inv.after{Q:VK}{u:Value}(I:Inv X pins σ H s)(h:CE X.stack X.prog X.w H s Q u s'):EP X pins σ Q u s':=by
 obtain⟨v,H',os,bare,un,hok,r,q⟩:=h
 obtain⟨hh,g,d,t,os'⟩:=s'
 obtain rfl:os'=s.os:=os
 exact⟨v,H',I.call (h':=hh) (g':=g) (d':=d) (t':=t) (ch:=[]) un hok bare (fun b z=>absurd z (by simp)),r,q⟩
end
def Dh(sp:Sp)(dvs:List V)(E:XK)(t:TA):TE:=fun σ H Q=>t σ H fun vs H1=>sp (vs++dvs) H1 Q E
def C9(C:Addr)(m:Str)(sp:Sp)(dvs:List V)(E:XK)(ta:TE)(t:TA):TE:=fun σ H Q=>ta σ H fun x H1=>∃ a dx fs,x=.ref a∧H1 a=some (.ins C dx fs)∧fs.lookup m=none ∧
 t σ H1 fun vs H2=>sp (x::(vs++dvs)) H2 Q E
def Fu(C:Addr)(sp:Sp)(dvs:List V)(E:XK)(t:TA):TE:=fun σ H Q=>t σ H fun vs H1=>∀ x dx,H1 x=none→H1 dx=none→dx≠x →
 sp (.ref x::(vs++dvs)) (upd (upd H1 dx (.own x)) x (.ins C dx [])) (fun v H2=>v=.non∧Q (.ref x) H2) E
def Binds(K:PySem.W.Frag)(fd:FuncData)(ps:List Str)(ds:List Value):Prop :=
 ∀ (s:Shared) (us:List Value),K.In s.heap→(us++ds).length=ps.length→BindsTo s fd ⟨us,[]⟩ (ps.zip (us++ds))
def Binds.all{K:PySem.W.Frag}{fd:FuncData}{ps:List Str}(h:∀ us:List Value,us.length=ps.length→bindArgs fd ⟨us,[]⟩=pure (ps.zip us)):Binds K fd ps []:=fun s us _ hl=>by
 rw [Lg] at hl ⊢
 exact .of_eq (h us hl)
def Passes(CX:Ab)(X:Cx)(E:XK):Prop:=∀ (pins:List (Addr × Obj)) (σ:St) (H:Hp) (s:Shared) (e:Value) (s':Shared),Inv X pins σ H s→CX X.stack H s E e s'→X.xe e s'
section
variable {X:Cx}{CX:Ab}{k:Nat}{f C:Addr}{fd:FuncData}{ps:List Str}{sp:Sp}{dvs:List V}{ds:List Value}{E:XK}{x m:Str}{p pos apos:Pos}{e o:Expr}{es:List Expr}{ta:TE}{t:TA}
def t9{pins:List (Addr × Obj)}{σ:St}{H:Hp}{s:Shared}{Q:VK}{us:List Value}{vs:List V}(F:bo X.prog X.w X.K X.mg X.base CX k f fd ps sp)(hr:cw k X.A)(hb:Binds X.K fd ps ds)(hd:Vals dvs ds)(hx:Passes CX X E)
  (I:Inv X pins σ H s) (r:Vals vs us) (h:sp (vs++dvs) H Q E):wpAny (model X.prog X.w) X.A (call (.ref f) us) (EP X pins σ Q) X.xe s:=by
 have r2:Vals (vs++dvs) (us++ds):=r.append hd
 have hl:(us++ds).length=ps.length:=by rw [← r2.length];exact F.len _ _ _ _ h
 refine wpAny_call (LP (F.run X.A X.stack s H ⟨us,[]⟩ (us++ds) (vs++dvs) Q E hr I.Fn (hb s us I.kR hl) r2 h) fun r s' hq=>?_)
 cases r with
 | error e=>exact hx pins σ H s e s' I hq
 | ok fl =>
  cases fl with
  | ret u=>exact I.after hq
  | next=>exact False.elim hq
  | brk=>exact False.elim hq
  | cont=>exact False.elim hq
def dP(F:bo X.prog X.w X.K X.mg X.base CX k f fd ps sp)(hr:cw k X.A)(hg:Gl X x)(hm:X.mg x=some (.ref f))(hk:PySem.W.keepIn X.K (.ref f)=true)(hb:Binds X.K fd ps ds)(hd:Vals dvs ds)(hx:Passes CX X E)
  (ha:PA X (e::es) t) (hdb:(x==("__debug__":Str))=false:=by decide) (he:starEach (e::es) X.env=(false,eval e X.env)::starEach es X.env:=by rfl) (hpl:(backTo pos (starEach es X.env)).any (·.1)=false:=by rfl) :
  PE X (.Call (.Name x p) (e::es) [] pos) (Dh sp dvs E t):=by
 intro pins s σ H Q I h
 refine J8 (px I hg hm ?_ hdb)
 refine MG (h₀:=X.base) I.ok.mod.kin hk (bM (ha pos pins s σ H _ I h) fun us s1 ⟨vs,H1,I1,r,q⟩=>⟨I1.kR,?_⟩) he hpl
 exact t9 F hr hb hd hx I1 r q
def bZ{pl:Sem Bool}(he:PE X o ta)(c:yj X.K C)(hm:Meth X.K C m f)(F:bo X.prog X.w X.K X.mg X.base CX k f fd ps sp)(hr:cw k X.A)(hb:Binds X.K fd ps ds)(hd:Vals dvs ds)(hx:Passes CX X E)(ha:PA X (e::es) t)
  (hst:starEach (e::es) X.env=(false,eval e X.env)::starEach es X.env:=by rfl) (hpl:(backTo pos (starEach es X.env)).any (·.1)=false:=by rfl)
  (ht:eval (.Call (.Attribute o m apos) (e :: es) [] pos) X.env = (do
   let ov ← eval o X.env
   standAt apos.atName
   let (f,first) ← holding [ov] (getMethod ov m pl)
   callWith pos f first (backTo pos (starEach (e::es) X.env)) (backToKw pos (keywordEach [] X.env))):=by rfl) :
  PE X (.Call (.Attribute o m apos) (e::es) [] pos) (C9 C m sp dvs E ta t):=by
 intro pins s σ H Q I h
 refine Np (pl:=pl) (bM (he pins s σ H _ I h) fun u s1 ⟨x,H1,I1,rx,a,dx,fs,ex,ea,l,q⟩=>?_) ht
 subst ex
 obtain rfl:u=Value.ref a:=rx
 refine mZ I1 ea c hm l ?_
 refine MG (first:=[.ref a]) (h₀:=X.base) I.ok.mod.kin hm.kp (bM (ha pos pins s1 σ H1 _ I1 q) fun us s2 ⟨vs,H2,I2,r,q2⟩=>⟨I2.kR,?_⟩) hst hpl
 exact t9 (us:=.ref a::us) (vs:=.ref a::vs) F hr hb hd hx I2 (.cons rfl r) q2
def cq{pl:Sem Bool}(he:PE X o ta)(c:yj X.K C)(hm:Meth X.K C m f)(F:bo X.prog X.w X.K X.mg X.base CX k f fd ps sp)(hr:cw k X.A)(hb:Binds X.K fd ps ds)(hd:Vals dvs ds)(hx:Passes CX X E)
  (ht:eval (.Call (.Attribute o m apos) [] [] pos) X.env = (do
   let ov ← eval o X.env
   standAt apos.atName
   let (f,first) ← holding [ov] (getMethod ov m pl)
   callWith pos f first (backTo pos (starEach [] X.env)) (backToKw pos (keywordEach [] X.env))):=by rfl) :
  PE X (.Call (.Attribute o m apos) [] [] pos) (C9 C m sp dvs E ta DJ):=by
 intro pins s σ H Q I h
 refine Np (pl:=pl) (bM (he pins s σ H _ I h) fun u s1 ⟨x,H1,I1,rx,a,dx,fs,ex,ea,l,q⟩=>?_) ht
 subst ex
 obtain rfl:u=Value.ref a:=rx
 refine mZ I1 ea c hm l ?_
 exact PySem.W.callWith_K0 (first:=[.ref a]) I1.kR hm.kp (t9 (us:=[.ref a]) (vs:=[.ref a]) F hr hb hd hx I1 (.cons rfl .nil) q)
structure Mk(K:PySem.W.Frag)(C f:Addr):Prop where
 makes:PySem.W.makesIn K C=true
 init:PySem.W.findIn K (.ref C) "__init__"=some (some (.ref f))
 fn:PySem.W.isFn K (.ref f)=true
 kp:PySem.W.keepIn K (.ref C)=true
def Am{pins:List (Addr × Obj)}{σ:St}{H:Hp}{s:Shared}{Q:VK}{us:List Value}{vs:List V}(M:Mk X.K C f)(F:bo X.prog X.w X.K X.mg X.base CX k f fd ps sp)(hr:cw (k+1) X.A)(hb:Binds X.K fd ps ds)(hd:Vals dvs ds)
  (hx:Passes CX X E) (I:Inv X pins σ H s) (r:Vals vs us)
  (h:∀ x dx,H x=none→H dx=none→dx≠x→sp (.ref x::(vs++dvs)) (upd (upd H dx (.own x)) x (.ins C dx [])) (fun v H2=>v=.non∧Q (.ref x) H2) E) :
  wpAny (model X.prog X.w) X.A (call (.ref C) us) (EP X pins σ Q) X.xe s:=by
 have hq:=h (s.heap.objs.size+1) s.heap.objs.size (I.hok.fresh (JY _)) (I.hok.fresh (II _)) (IS (JX _))
 have I2:=Inv.made (C:=C) I
 have r2:Vals (V.ref (s.heap.objs.size+1)::(vs++dvs)) (Value.ref (s.heap.objs.size+1)::(us++ds)):=.cons rfl (r.append hd)
 have hl:(Value.ref (s.heap.objs.size+1)::us++ds).length=ps.length:=by
  have e:=r2.length
  rw [F.len _ _ _ _ hq] at e
  exact e.symm
 refine wpAny_call (AJ (f:=f) I.kR M.makes M.init (KJ.mp M.fn) (LP (F.run _ X.stack _ _ ⟨Value.ref (s.heap.objs.size+1)::us,[]⟩ (Value.ref (s.heap.objs.size+1)::(us++ds)) _ _ E (hr.make C us [])
  (I2.Fn.make C us []) (hb _ (Value.ref (s.heap.objs.size+1)::us) I2.kR hl) r2 hq) fun r s' hq'=>?_))
 cases r with
 | error e=>exact hx pins σ _ _ e s' I2 hq'
 | ok fl =>
  cases fl with
  | ret u =>
   obtain⟨v,H',I3,rv,ev,q3⟩:=I2.after hq'
   subst ev
   exact⟨rv,⟨V.ref (s.heap.objs.size+1),H',I3,rfl,q3⟩⟩
  | next=>exact False.elim hq'
  | brk=>exact False.elim hq'
  | cont=>exact False.elim hq'
def vU(M:Mk X.K C f)(F:bo X.prog X.w X.K X.mg X.base CX k f fd ps sp)(hr:cw (k+1) X.A)(hg:Gl X x)(hm:X.mg x=some (.ref C))(hb:Binds X.K fd ps ds)(hd:Vals dvs ds)(hx:Passes CX X E)
  (ha:PA X (e::es) t) (hdb:(x==("__debug__":Str))=false:=by decide) (he:starEach (e::es) X.env=(false,eval e X.env)::starEach es X.env:=by rfl) (hpl:(backTo pos (starEach es X.env)).any (·.1)=false:=by rfl) :
  PE X (.Call (.Name x p) (e::es) [] pos) (Fu C sp dvs E t):=by
 intro pins s σ H Q I h
 refine J8 (px I hg hm ?_ hdb)
 refine MG (h₀:=X.base) I.ok.mod.kin M.kp (bM (ha pos pins s σ H _ I h) fun us s1 ⟨vs,H1,I1,r,q⟩=>⟨I1.kR,?_⟩) he hpl
 exact Am M F hr hb hd hx I1 r q
end
def PK(X:Cx)(kws:List Keyword)(t:TA):Prop :=
 ∀ (pos:Pos) (pins:List (Addr × Obj)) (s:Shared) (σ:St) (H:Hp) (Q:List V→Hp→Prop),Inv X pins σ H s→t σ H Q→wpAny (model X.prog X.w) X.A (evalAll ((backToKw pos (keywordEach kws X.env)).map (·.2))) (AP X pins σ Q) X.xe s
section
variable {X:Cx}{CX:Ab}{k:Nat}{f C:Addr}{fd:FuncData}{ps ks:List Str}{sp:Sp}{E:XK}{x m:Str}{p pos apos kpos:Pos}{e o:Expr}{es:List Expr}{kws:List Keyword}{te ta:TE}{t tk:TA}{nm:Option Str}
def yF:PK X [] DJ:=fun _ _ _ _ H Q I h=>wpAny_evalAll_nil ⟨[],H,I,.nil,h⟩
def vV(ha:PE X e te)(hr:PK X kws t):PK X (⟨nm,e,kpos⟩::kws) (C8 te t):=by
 intro pos pins s σ H Q I h
 show wpAny _ _ (evalAll ((do let v ← eval e X.env;standAt pos;pure v)::(backToKw pos (keywordEach kws X.env)).map (·.2))) _ _ s
 refine wpAny_evalAll_cons (IE (bM (ha pins s σ H _ I h) fun u s1 ⟨x,H1,I1,r1,q1⟩=>IE (ML (wpAny_pure ?_))))
 exact bM (hr pos pins s1 σ H1 _ I1 q1) fun us s2 ⟨xs,H2,I2,r2,q2⟩=>⟨x::xs,H2,I2,.cons r1 r2,q2⟩
structure ID(K:PySem.W.Frag)(fd:FuncData)(ps ks:List Str)(g:List Value→List Value→List Value)(gV:List V→List V→List V):Prop where
 to:∀ (s:Shared) (us ws:List Value),K.In s.heap→(g us ws).length=ps.length→BindsTo s fd ⟨us,ks.zip ws⟩ (ps.zip (g us ws))
 rel:∀ {vs:List V} {us:List Value} {zs:List V} {ws:List Value},Vals vs us→Vals zs ws→Vals (gV vs zs) (g us ws)
variable {g:List Value→List Value→List Value}{gV:List V→List V→List V}
end
structure aD(N P:List Str)(sc:Scope):Prop where
 kind:sc.kind=.function
 co:sc.isCoroutine=false
 gen:sc.isGenerator=false
 nd:N.Nodup
 pre:N.take P.length=P
 par:∀ x∈P,sc.names.lookup x=some .local∨sc.names.lookup x=some .cell
 nofree:∀ y∈sc.names,y.2≠.free
def eR{N P:List Str}{sc:Scope}(a:sc.kind=.function:=by rfl)(b:sc.isCoroutine=false:=by rfl)(c:sc.isGenerator=false:=by rfl)(d:N.Nodup:=by decide +kernel)(e:N.take P.length=P:=by rfl)(f:∀ x∈P,sc.names.lookup x=some .local∨sc.names.lookup x=some .cell:=by decide +kernel)(g:∀ y∈sc.names,y.2≠.free:=by decide +kernel):aD N P sc:=⟨a,b,c,d,e,f,g⟩
theorem oJ{kindOf:Str→Option NameKind}{x:Str}:∀ {binds:List (Str × Value)} {m:Str→Option Value},(∀ v,(x,v)∉binds)→bindL kindOf binds m x=m x
 | [],_,_=>rfl
 | (n,v)::r,m,h=>by
  unfold bindL
  rw [oJ fun w hw=>h w (List.mem_cons_of_mem _ hw)]
  split
  ·have:x≠n:=by rintro rfl;exact h v List.mem_cons_self
   simp [this]
  ·rfl
theorem oO{kindOf:Str→Option NameKind}{x:Str}:∀ {binds:List (Str × Value)} {m:Str→Option Value},(∀ v,(x,v)∉binds)→bindC kindOf binds m x=m x
 | [],_,_=>rfl
 | (n,v)::r,m,h=>by
  unfold bindC
  rw [oO fun w hw=>h w (List.mem_cons_of_mem _ hw)]
  split
  ·rfl
  ·have:x≠n:=by rintro rfl;exact h v List.mem_cons_self
   simp [this]
theorem oV{kindOf:Str→Option NameKind}{x:Str}{v:Value}:∀ {P:List Str} {vs:List Value} {i:Nat} {m:Str→Option Value},P.Nodup→P[i]?=some x→vs[i]?=some v→kindOf x=some .local →
  bindL kindOf (P.zip vs) m x=some v
 | [],_,_,_,_,h,_,_=>by simp at h
 | _::_,[],_,_,_,_,h,_=>by simp at h
 | p::P,w::vs,0,m,nd,h1,h2,hk=>by
  simp at h1 h2;subst h1;subst h2
  show bindL kindOf ((p,w)::P.zip vs) m p=_
  unfold bindL
  rw [oJ fun v hv=>(JQ.mp nd).1 (Nf hv).1,if_pos hk]
  simp
 | p::P,w::vs,i+1,m,nd,h1,h2,hk=>by
  show bindL kindOf ((p,w)::P.zip vs) m x=_
  unfold bindL
  exact oV (i:=i) (JQ.mp nd).2 (by simpa using h1) (by simpa using h2) hk
theorem oI{kindOf:Str→Option NameKind}{x:Str}{v:Value}:∀ {P:List Str} {vs:List Value} {i:Nat} {m:Str→Option Value},P.Nodup→P[i]?=some x→vs[i]?=some v→kindOf x≠some .local →
  bindC kindOf (P.zip vs) m x=some v
 | [],_,_,_,_,h,_,_=>by simp at h
 | _::_,[],_,_,_,_,h,_=>by simp at h
 | p::P,w::vs,0,m,nd,h1,h2,hk=>by
  simp at h1 h2;subst h1;subst h2
  show bindC kindOf ((p,w)::P.zip vs) m p=_
  unfold bindC
  rw [oO fun v hv=>(JQ.mp nd).1 (Nf hv).1,if_neg hk]
  simp
 | p::P,w::vs,i+1,m,nd,h1,h2,hk=>by
  show bindC kindOf ((p,w)::P.zip vs) m x=_
  unfold bindC
  exact oI (i:=i) (JQ.mp nd).2 (by simpa using h1) (by simpa using h2) hk
def start(N:List Str)(vs:List V):St:=vs.map some++List.replicate (N.length-vs.length) none
def iR(CX:Ab)(P:Program)(w:World)(K:PySem.W.Frag)(mg:Str→Option Value)(base:Heap)(N:List Str)(qual:Str)(scope:Scope)(f:Addr)(cd:Value)(A:Around)(outer:List Env)(s:Shared)(H:Hp)(E:XK):Cx where
 prog:=P
 w:=w
 K:=K
 mg:=mg
 base:=base
 A:=A.deeper (envOfC qual scope s.heap.objs.size f cd)
 N:=N
 s₀:=s
 H₀:=H
 env:=envOfC qual scope s.heap.objs.size f cd
 outer:=outer
 stack:=envOfC qual scope s.heap.objs.size f cd::outer
 ex:=[]
 calm:=true
 fn:=fun _=>true
 pn:=[]
 xe:=fun e s'=>wpAny (model P w) (A.deeper (envOfC qual scope s.heap.objs.size f cd)) («leaving» (envOfC qual scope s.heap.objs.size f cd) e) (fun _ s''=>CX outer H s E e s'') (fun e' s''=>CX outer H s E e' s'') s'
def rE{sc:Scope}{n:Nat}{x:Str}(h:sc.names.lookup x=some .cell):∃ c,(cellsFrom n sc.names []).lookup x=some c:=by
 have q:=Nl sc.names n [] (.inl h)
 exact Option.isSome_iff_exists.mp q
def wZ{CX:Ab}{P:Program}{w:World}{K:PySem.W.Frag}{mg:Str→Option Value}{base:Heap}{N ps:List Str}{qual:Str}{scope:Scope}{f:Addr}{cd:Value}{A:Around}{outer:List Env}{s s1:Shared}{H:Hp}{E:XK}{us:List Value}{vs:List V}
  (S:aD N ps scope) (hd:A.handled=none) (e0:tN P w K mg base A outer s H) (hl:vs.length=ps.length) (r:Vals vs us)
  (x:InCallC s s.heap.objs.size (bindL (envOfC qual scope s.heap.objs.size f cd).kindOf (ps.zip us) fun _=>none) (cellsFrom (s.heap.objs.size+1) scope.names []) (bindC (envOfC qual scope s.heap.objs.size f cd).kindOf (ps.zip us) fun _=>none) s1) :
  Inv (iR CX P w K mg base N qual scope f cd A outer s H E) [] (start N vs) H s1:=by
 have hpl:ps.length≤N.length:=by have:=J4 List.length S.pre;rw [Jj] at this;lia
 obtain⟨h1,tk,rfl,hk⟩:=x.done
 have noA:∀ b:Addr,b∉(iR CX P w K mg base N qual scope f cd A outer s H E).ex:=fun b z=>absurd (show b∈([]:List Addr) from z) (by simp)
 refine⟨⟨e0.mod,S.kind,rfl,rfl,II _,fun y z c h1 h2=>?_,fun y hy=>?_,fun y c _ h=>?_,fun _=>hd,Around.frames_deeper e0.frames,.inr ⟨rfl,rfl⟩,fun b z=>absurd z (noA b),e0.bs,e0.bsz,fun b _ _=>noA b,fun b z=>absurd z (noA b),e0.j9,e0.frf⟩,
  rfl,e0.bare,Un.kept hk,⟨_,x.toInCall.ns,fun i y v h1 h2 h3=>?_⟩,fun y c h=>⟨_,x.cell y c h⟩,e0.hok.fresh (II _),fun y c h=>?_,fun p hp=>absurd (show p∈([]:List (Addr × Obj)) from hp) (by simp),e0.hok.kept hk,?_⟩
 ·exact name_of_addr x.apart (Kz h1) (Kz h2)
 ·have hy:scope.names.lookup y=some .cell∨scope.names.lookup y=some .free:=hy
  rcases hy with hy | hy
  ·exact rE hy
  ·exact absurd rfl (S.nofree _ (Kz hy))
 ·exact LN (x.above y c (Kz h))
 ·have hi:i<vs.length:=by
   unfold start at h2
   by_cases hi:i<vs.length
   ·exact hi
   ·rw [JW (by simpa using hi)] at h2
    rw [Ld] at h2
    split at h2 <;> cases h2
  have ha:vs[i]?=some v:=by
   unfold start at h2
   rw [Jx (by simpa using hi),List.getElem?_map] at h2
   cases e:vs[i]? with
   | none=>rw [e] at h2;cases h2
   | some a=>rw [e] at h2;cases h2;rfl
  obtain⟨u,hu,rv⟩:=r.get ha
  have hp:ps[i]?=some y:=by
   rw [← S.pre,List.getElem?_take_of_lt (by lia)];exact h1
  have ndP:ps.Nodup:=by rw [← S.pre];exact S.nd.sublist (Lq _ _)
  refine⟨u,rv,?_⟩
  rcases S.par y (IK hp) with k | k
  ·exact .inl ⟨k,oV ndP hp hu k⟩
  ·obtain⟨c,e⟩:=rE (n:=s.heap.objs.size+1) k
   refine .inr ⟨.inl k,c,e,?_⟩
   have q:=x.cell y c e
   rw [oI ndP hp hu (by show scope.names.lookup y≠_;rw [k];decide)] at q
   exact q
 ·exact e0.hok.fresh (LN (x.above y c (Kz h)))
 ·unfold start
  show _=N.length
  rw [List.length_append,List.length_map,Kt]
  lia
def Gr{CX:Ab}{P:Program}{w:World}{K:PySem.W.Frag}{mg:Str→Option Value}{base:Heap}{k:Nat}{f:Addr}{name qual:Str}{params:Arguments}{body:List Stmt}{scope:Scope}{dV kV doc pm cdv ct oc:Value}{an od:Option Addr}
  {osl:Array (Option Value)} {N ps:List Str} {sp:Sp} (lk:K.lookup f=some ⟨oc,od,.func (PySem.W.fnOf name qual params body scope dV kV doc pm an cdv ct),osl⟩) (hcd:PySem.W.codeIn K cdv qual=true) (S:aD N ps scope)
  (len:∀ vs H Q E,sp vs H Q E→vs.length=ps.length)
  (hbody:∀ (A:Around) (outer:List Env) (s:Shared) (H:Hp) (vs:List V) (Q:VK) (E:XK),cw k (A.deeper (envOfC qual scope s.heap.objs.size f cdv))→sp vs H Q E →
   ∃ t,uE (iR CX P w K mg base N qual scope f cdv A outer s H E) body t∧t { nx:=fun _ H'=>Q .non H',rt:=Q } (start N vs) H) :
  bo P w K mg base CX (k+1) f (PySem.W.fnOf name qual params body scope dV kV doc pm an cdv ct) ps sp:=by
 refine⟨len,fun A outer s H args us vs Q E hr e0 hb r hsp=>?_⟩
 have hl:=len _ _ _ _ hsp
 have KX:K.In s.heap:=e0.mod.kin.keeps fun b o e=>(e0.bs b o e).1
 have lim:s.heap.NoLimit:=e0.mod.nolimit.keeps fun b o e=>(e0.bs b o e).1
 have hkind:∀ y∈ps.zip us,scope.names.lookup y.1=some .local∨(scope.names.lookup y.1=some .cell∧((cellsFrom (s.heap.objs.size+1) scope.names []).lookup y.1).isSome=true):=fun⟨n,v⟩ hy=>by
  rcases S.par n (Nf hy).1 with q | q
  ·exact .inl q
  ·exact .inr ⟨q,Nl _ _ _ (.inl q)⟩
 refine codeAny_call_function hr.depth (KX _ _ lk) rfl S.co S.gen rfl (PySem.W.codeRec_of KX hcd) (hb _ _ _ _ ?_)
 refine wpAny_newFunctionEnv_cells S.kind hkind fun env he s1 x=>?_
 subst he
 refine⟨lim.keeps x.toInCall.keep,codeAny_func ?_⟩
 obtain⟨t,ht,hq⟩:=hbody A outer s H vs Q E (hr.deeper _) hsp
 have I:Inv (iR CX P w K mg base N qual scope f cdv A outer s H E) [] (start N vs) H s1:=wZ S hr.hd e0 hl r x
 refine Kf (ht [] s1 (start N vs) H _ I hq) (fun fl s' hs=>?_) fun e s' hs=>hs
 have fin:∀ {σ':St} {H':Hp} {v:V} {u:Value},Inv (iR CX P w K mg base N qual scope f cdv A outer s H E) [] σ' H' s'→RelV v u→Q v H'→CE outer P w H s Q u s' :=
  fun {σ' H' v u} J rv q=>⟨v,H',J.os,J.bare,J.base,J.hok,rv,q⟩
 cases fl with
 | ret u =>
  obtain⟨v,σ',H',J,rv,q⟩:=hs
  exact fin J rv q
 | next =>
  obtain⟨σ',H',J,q⟩:=hs
  exact fin (v:=V.non) (u:=Value.none) J rfl q
 | brk =>
  obtain⟨_,_,_,q⟩:=hs
  exact False.elim q
 | cont =>
  obtain⟨_,_,_,q⟩:=hs
  exact False.elim q
end L2
namespace L2
open PySem PySem.Spec PyProof.Rows
section
variable {X:Cx}{x:Str}{p pos:Pos}{e:Expr}{es:List Expr}{t:TA}{id T:String}{r:List V→Hp→VK→Prop}
def tCB(r:List V→Hp→VK→Prop)(t:TA):TE:=fun σ H Q=>t σ H fun vs H1=>r vs H1 Q
def ay(hc:dM X (.builtin id) r)(hg:Gl X x)(hm:X.mg x=none)(hv:bootBuiltins x=some (.builtin id))(ha:PA X (e::es) t)(hn:x≠"__name__":=by decide)(hdb:(x==("__debug__":Str))=false:=by decide)
  (he:starEach (e::es) X.env=(false,eval e X.env)::starEach es X.env:=by rfl) (hpl:(backTo pos (starEach es X.env)).any (·.1)=false:=by rfl):PE X (.Call (.Name x p) (e::es) [] pos) (tCB r t):=by
 intro pins s σ H Q I h
 refine J8 (gk I hg hm hv ?_ hn hdb)
 exact PyProof.Rows.callWith_builtin1 (bM (ha pos pins s σ H _ I h) fun us s1 ⟨vs,H1,I1,r1,q1⟩=>hc pins s1 σ H1 vs us Q I1 r1 q1) he hpl
def a8(hc:dM X (.type T) r)(hg:Gl X x)(hm:X.mg x=none)(hv:bootBuiltins x=some (.type T))(ha:PA X (e::es) t)(hn:x≠"__name__":=by decide)(hdb:(x==("__debug__":Str))=false:=by decide)
  (he:starEach (e::es) X.env=(false,eval e X.env)::starEach es X.env:=by rfl) (hpl:(backTo pos (starEach es X.env)).any (·.1)=false:=by rfl):PE X (.Call (.Name x p) (e::es) [] pos) (tCB r t):=by
 intro pins s σ H Q I h
 refine J8 (gk I hg hm hv ?_ hn hdb)
 exact JS (bM (ha pos pins s σ H _ I h) fun us s1 ⟨vs,H1,I1,r1,q1⟩=>hc pins s1 σ H1 vs us Q I1 r1 q1) he hpl
end
end L2
namespace HT
open PySem PyProof.Rows
def lexLt:List Int→List Int→Bool
 | [],[]=>false
 | [],_::_=>true
 | _::_,[]=>false
 | x::xs,y::ys=>if x=y then lexLt xs ys else decide (x<y)
def tV(x y:Int)(xs ys:List Int):lexLt (x::xs) (y::ys)=if x=y then lexLt xs ys else decide (x<y):=rfl
def nR:lexLt [] []=false:=rfl
def lR(y:Int)(ys:List Int):lexLt [] (y::ys)=true:=rfl
def lZ(x:Int)(xs:List Int):lexLt (x::xs) []=false:=rfl
def Ao(A:Around)(s:Shared)(a:Int)(t:Tok)(c:Int)(u:Tok):∃ e,SeqAt.EqAt A s (.int a t) (.int c u) e∧(e=true↔a=c) :=
 ⟨(a==c),SeqAt.EqAt.int_int a t c u,by simp⟩
def zy(A:Around)(s:Shared)(a:Int)(t:Tok)(c:Int)(u:Tok)(prog:Program)(w:World)(E:Value→Shared→Prop)(Q:Value→Shared→Prop)(h:Q (.bool (decide (a<c))) s) :
  wpAny (model prog w) A (richCompare .Lt (.int a t) (.int c u)) Q E s :=
 (PyProof.Rows.lt_int h:wpAny (model prog w) A (compareOp .Lt (.int a t) (.int c u)) Q E s)
section
open PySem.SeqAt
open PySem.AutoSeq1 (wpAny_loadPart')
open PySem.MeetsSeq PySem.MeetsSeq2 PySem.MeetsSeq3
def oe(l b:Addr)(items items2:Array Value)(n n2:Nat)(dd dd2:Option Addr)(sl sl2:Array (Option Value))(ns ms:List Int)(hi:IntsAre items.toList ns)(hj:IntsAre items2.toList ms) :
  Meets (Builtin.«tuple.__lt__» ⟨[.ref l,.ref b],[]⟩)
   (fun _ R s=>s.heap.get? l = some { cls:=.type "tuple",dict:=dd,data:=.seq items n,slots:=sl }∧s.heap.get? b = some { cls:=.type "tuple",dict:=dd2,data:=.seq items2 n2,slots:=sl2 } ∧
    R (.ok (.ret (.bool (lexLt ns ms)))) s) :=
 .of_wp fun prog w A R s h=>by
  obtain⟨hp,g,d,tk,os⟩:=s;obtain⟨hl,hb,h⟩:=h
  have f2:=AutoSeq1.sub_tuple_tuple
  have z1:items.size=ns.length:=by rw [← hi.length];simp
  have z2:items2.size=ms.length:=by rw [← hj.length];simp
  wp_walk using wpAny_loadPart' hl,wpAny_loadPart' hb,wpAny_forIn_list _ (fun rest b s'=>b.1=none∧s'=⟨hp,g,d,tk,os⟩∧∃ (vs ws:List Value) (ns' ms':List Int),rest=vs.zip ws ∧
   IntsAre vs ns'∧IntsAre ws ms'∧ns'.length+items2.size=ms'.length+items.size∧R (.ok (.ret (.bool (lexLt ns' ms')))) ⟨hp,g,d,tk,os⟩) _
  case turn =>
   rintro⟨y,x⟩ rest b s' ⟨hb',rfl,vs,ws,ns',ms',hz,hvi,hwi,hlen,hR⟩
   cases hvi with
   | nil=>rw [List.zip_nil_left] at hz;cases hz
   | cons a t hvi' =>
    cases hwi with
    | nil=>rw [List.zip_nil_right] at hz;cases hz
    | cons c u hwi' =>
     rw [List.zip_cons_cons] at hz
     injection hz with hyx hrest
     injection hyx with hy hx
     subst hy hx
     rw [tV] at hR
     simp only [Jh] at hlen
     obtain⟨e,he,hiff⟩:=Ao A.in1 ⟨hp,g,d,tk,os⟩ a t c u
     refine IE (he prog w _ _ ?_)
     cases e with
     | true =>
      rw [if_pos (hiff.mp rfl)] at hR
      wp_walk
      exact⟨rfl,rfl,_,_,_,_,hrest,hvi',hwi',by lia,hR⟩
     | false =>
      rw [if_neg (fun q=>absurd (hiff.mpr q) Je)] at hR
      have hri:=zy A.in1 ⟨hp,g,d,tk,os⟩ a t c u prog w
      wp_walk using hri
      exact⟨_,rfl,by simpa using hR⟩
  case fin =>
   rintro⟨b1,b2⟩ s' ⟨hb',rfl,vs,ws,ns',ms',hz,hvi,hwi,hlen,hR⟩
   simp only at hb'
   subst hb'
   have hv:lexLt ns' ms'=decide (items.size<items2.size):=by
    cases hvi with
    | nil =>
     cases hwi with
     | nil =>
      simp only [LJ] at hlen
      rw [nR]
      exact(decide_eq_false (by lia)).symm
     | cons c u hw =>
      simp only [LJ,Jh] at hlen
      rw [lR]
      exact(IL (by lia)).symm
    | cons a t hv =>
     cases hwi with
     | nil =>
      simp only [LJ,Jh] at hlen
      rw [lZ]
      exact(decide_eq_false (by lia)).symm
     | cons c u hw =>
      rw [List.zip_cons_cons] at hz
      cases hz
   rw [hv] at hR
   wp_walk
   exact⟨_,rfl,by simpa [Builtin.Tuple.tupleCompareSizes] using hR⟩
  case h =>
   exact⟨rfl,rfl,items.toList,items2.toList,ns,ms,rfl,hi,hj,by lia,h⟩
end
def uz{l b:Addr}{items items2:Array Value}{ns ms:List Int}{Q:Value→Shared→Prop}(hl:IsTup s.heap l items)(hb:IsTup s.heap b items2)(hi:IntsAre items.toList ns)(hj:IntsAre items2.toList ms)
  (hu:A.units<cLine) (h:Q (.bool (lexLt ns ms)) s):wpAny (model prog w) A (compareOp .Lt (.ref l) (.ref b)) Q E s:=by
 obtain⟨⟨cls,dd,data,sl⟩,ho,hc,n,hd⟩:=id hl
 obtain⟨⟨cls2,dd2,data2,sl2⟩,ho2,hc2,n2,hd2⟩:=id hb
 simp only at hc hd hc2 hd2
 subst hc hd hc2 hd2
 exact richCompare_meets_room (op:=.Lt) ⟨_,ho,rfl⟩ ⟨_,ho2,rfl⟩ PySem.F.slot_tuple_lt PySem.F.entry_tuple_lt (PySem.F.args_tuple_lt_2 _ _) (oe l b items items2 n n2 dd dd2 sl sl2 ns ms hi hj)
  ⟨ho,ho2,show Value.bool (lexLt ns ms)≠Value.notImplemented∧Q (.bool (lexLt ns ms)) s from⟨(fun x=>nomatch x),h⟩⟩ hu
def Bb{t b:Addr}{vs ws:List Value}{Q:Value→Shared→Prop}(ht:IsTup s.heap t vs.toArray)(hb:IsTup s.heap b ws.toArray)(hv:vs≠[])
  (h1:ws=[]→Q (.ref t) s) (h2:ws≠[]→Q (.ref s.heap.objs.size) { s with heap:=s.heap.push { cls:=.type "tuple",data:=.seq (vs++ws).toArray } })
  (hsz:vs.length+ws.length≤sizeLine):wpAny (model prog w) A (binaryOp .Add (.ref t) (.ref b)) Q E s:=by
 obtain⟨⟨cls,dd,data,sl⟩,ho,hc,n,hd⟩:=id ht
 obtain⟨⟨cls2,dd2,data2,sl2⟩,ho2,hc2,n2,hd2⟩:=id hb
 simp only at hc hd hc2 hd2
 subst hc hd hc2 hd2
 have e:vs.toArray++ws.toArray=(vs++ws).toArray:=by simp
 by_cases hw:ws=[]
 ·exact concat_meets ⟨_,ho,rfl⟩ ⟨_,ho2,rfl⟩ MU NB L9 L1 (LQ _ _)
   (tuple_addW1 t b vs.toArray ws.toArray n n2 dd dd2 sl sl2 (by simpa using hv) (by simp [hw])) ⟨ho,ho2,h1 hw⟩
 ·refine concat_meets ⟨_,ho,rfl⟩ ⟨_,ho2,rfl⟩ MU NB L9 L1 (LQ _ _)
   (tuple_addW2 t b vs.toArray ws.toArray n n2 dd dd2 sl sl2 (by simpa using hv) (by simpa using hw) (by rw [IY,IY];exact hsz)) ⟨ho,ho2,?_⟩
  rw [e]
  exact h2 hw
def mF(n d:Nat):Option Int→Nat
 | none=>d
 | some v=>if v<0 then(v+(n:Int)).toNat else min v.toNat n
def sf(n d:Nat):mF n d none=d:=rfl
def kY(n d k:Nat):mF n d (some (k:Int))=min k n:=by
 show(if (k:Int)<0 then((k:Int)+(n:Int)).toNat else min (k:Int).toNat n)=min k n
 rw [if_neg (by lia),JA]
end HT
namespace L2
open PySem PySem.Spec PyProof.Rows
abbrev TO:=St→Hp→(Option Int→Hp→Prop)→Prop
def PO(X:Cx)(e:Option Expr)(t:TO):Prop :=
 ∀ (pins:List (Addr × Obj)) (s:Shared) (σ:St) (H:Hp) (Q:Option Int→Hp→Prop),Inv X pins σ H s→t σ H Q →
  wpAny (model X.prog X.w) X.A (evalPart e X.env) (fun u s'=>∃ o H',Inv X pins σ H' s'∧IsPart u o∧Q o H') X.xe s
def Bw:TO:=fun _ H Q=>Q none H
def FR(t:TE):TO:=fun σ H Q=>t σ H fun x H1=>∃ i,x=.int i∧Q (some i) H1
def intsAre_of{ns:List Int}:∀ {us:List Value},Vals (ns.map V.int) us→IntsAre us ns:=by
 induction ns with
 | nil=>intro us r;rw [MV] at r;cases r;exact .nil
 | cons n ns ih =>
  intro us r
  rw [JG] at r
  cases r with
  | cons r1 r2 =>
   obtain⟨t,e⟩:=r1
   subst e
   exact .cons n t (ih r2)
section
variable {X:Cx}{e:Expr}{te:TE}{lo hi:Option Expr}{tl th:TO}{pos p2:Pos}
def gh:PO X none Bw:=by
 intro pins s σ H Q I h
 rw [evalPart_none]
 exact wpAny_pure ⟨none,H,I,.none,h⟩
def eK(h:PE X e te):PO X (some e) (FR te):=by
 intro pins s σ H Q I hw
 rw [evalPart_some]
 refine bM (h pins s σ H _ I hw) fun u s1 ⟨x,H1,I1,r1,q1⟩=>?_
 obtain⟨i,rfl,q⟩:=q1
 obtain⟨t,rfl⟩:=r1
 exact⟨some i,H1,I1,.int i t,q⟩
def Iw(X:Cx)(r:V→Option Int→Option Int→Hp→VK→Prop):Prop :=
 ∀ (pins:List (Addr × Obj)) (s:Shared) (σ:St) (H:Hp) (x:V) (v vl vu:Value) (lo hi:Option Int) (sl:Addr) (Q:VK),Inv X pins σ H s→RelV x v→s.heap.IsSliceOf sl vl vu .none→IsPart vl lo→IsPart vu hi→r x lo hi H Q →
  ∃ T id,typeLookup (.type T) "__getitem__"=pure (some (.builtin id))∧s.TypeIs v T∧wpAny (model X.prog X.w) X.A (getItem v (.ref sl)) (EP X pins σ Q) X.xe s
def tSl(r:V→Option Int→Option Int→Hp→VK→Prop)(te:TE)(tl th:TO):TE:=fun σ H Q=>te σ H fun x H1=>tl σ H1 fun l H2=>th σ H2 fun u H3=>r x l u H3 Q
def dU{r:V→Option Int→Option Int→Hp→VK→Prop}(hr:Iw X r)(he:PE X e te)(hl:PO X lo tl)(hu:PO X hi th):PE X (.Subscript e (.Slice lo hi none p2) pos) (tSl r te tl th):=by
 intro pins s σ H Q I h
 refine Subscript_ (bM (he pins s σ H _ I h) fun v s1 ⟨x,H1,I1,r1,q1⟩=>?_)
 refine wpAny_Slice (bM (hl pins s1 σ H1 _ I1 q1) fun vl s2 ⟨l,H2,I2,pl,q2⟩=>bM (hu pins s2 σ H2 _ I2 q2) fun vu s3 ⟨u,H3,I3,pu,q3⟩=>?_)
 rw [evalPart_none]
 refine wpAny_pure ?_
 have I4:Inv X pins σ H3 { s3 with heap:=s3.heap.push { cls:=.type "slice",data:=.fields #[vl,vu,.none] } }:=I3.kept (t':=s3.toks) fun b ob q=>IF _ q
 obtain⟨T,id,hT,ht,hg⟩:=hr pins { s3 with heap:=s3.heap.push { cls:=.type "slice",data:=.fields #[vl,vu,.none] } } σ H3 x v vl vu l u s3.heap.objs.size Q I4 r1 (Heap.IsSliceOf.new ..) pl pu q3
 show wpAny (model X.prog X.w) X.A (subscriptTail e (.Slice lo hi none p2) v (.ref s3.heap.objs.size)) (EP X pins σ Q) X.xe { s3 with heap:=s3.heap.push { cls:=.type "slice",data:=.fields #[vl,vu,.none] } }
 exact tail_any (ops:=[.ref s3.heap.objs.size,v]) ht hT hg (by with_unfolding_all rfl)
def ix(xs:List V)(lo hi:Option Int):List V:=(xs.drop (HT.mF xs.length 0 lo)).take (HT.mF xs.length xs.length hi-HT.mF xs.length 0 lo)
def qE(xs:List V)(lo hi:Option Int):(ix xs lo hi).length≤xs.length:=by
 unfold ix
 rw [Jj,K7]
 lia
def FF(K:PySem.W.Frag):R2:=fun x y H Q=>∃ a b xs ys,x=.ref a∧y=.ref b∧bO K H a xs∧bO K H b ys∧xs≠[]∧xs.length+ys.length≤sizeLine ∧
 (ys=[]→Q (.ref a) H)∧(ys≠[]→∀ p,H p=none→Q (.ref p) (upd H p (.tup (xs++ys))))
def Vals.pL{xs:List V}{us:List Value}(r:Vals xs us):us=[]↔xs=[]:=by
 cases r with
 | nil=>simp
 | cons _ _=>simp
def BN:gr X (binaryOp .Add) (FF X.K):=by
 intro pins s σ H x y v u Q I rx ry h
 obtain⟨a,b,xs,ys,rfl,rfl,ha,hb,hx,hz,q1,q2⟩:=h
 cases rx
 cases ry
 obtain⟨its,r1,p1,_⟩:=I.tuple ha
 obtain⟨its2,r2,p2,_⟩:=I.tuple hb
 refine HT.Bb p1 p2 (fun z=>hx (r1.pL.mp z)) (fun z=>⟨.ref a,H,I,rfl,q1 (r2.pL.mp z)⟩) (fun z=>?_) (by rw [← r1.length,← r2.length];exact hz)
 refine⟨.ref s.heap.objs.size,_,I.laid (t':=s.toks) (o:=.tup (xs++ys)) (fun b ob q=>IF _ q) (II _) ?_,rfl,q2 (fun w=>z (r2.pL.mpr w)) _ (I.hok.fresh (II _))⟩
 exact⟨by rw [List.length_append];exact hz,_,r1.append r2,IsTup.new _ _⟩
end
end L2
namespace L2
open PySem PySem.Spec PyProof.Rows
def yk(n:Nat)(i:Int):Option Nat:=if 0≤i then(if i<n then some i.toNat else none) else if -(n:Int)≤i then some (i+n).toNat else none
def sS{α:Type}(xs:List α)(i:Int):Option α:=(yk xs.length i).bind fun j=>xs[j]?
def vz{n:Nat}{i:Int}{j:Nat}(h:yk n i=some j):seqIndex? i n=some j∧j<n∧-(n:Int)≤i∧i<n:=by
 unfold yk at h
 by_cases h0:0≤i
 ·rw [if_pos h0] at h
  by_cases h1:i<n
  ·rw [if_pos h1] at h
   have e:i.toNat=j:=Jk h
   exact⟨by rw [seqIndex_of h0 h1,e],by lia,by lia,h1⟩
  ·rw [if_neg h1] at h;cases h
 ·rw [if_neg h0] at h
  by_cases h1 : -(n:Int)≤i
  ·rw [if_pos h1] at h
   have e:(i+n).toNat=j:=Jk h
   exact⟨by rw [seqIndex_neg (by lia) h1,e],by lia,h1,by lia⟩
  ·rw [if_neg h1] at h;cases h
def qA{α:Type}{xs:List α}{i:Int}{v:α}(h:sS xs i=some v):∃ j,seqIndex? i xs.length=some j∧xs[j]?=some v∧j<xs.length∧-(xs.length:Int)≤i∧i<xs.length:=by
 unfold sS at h
 cases e:yk xs.length i with
 | none=>rw [e] at h;cases h
 | some j =>
  rw [e] at h
  obtain⟨h1,h2,h3,h4⟩:=vz e
  exact⟨j,h1,h,h2,h3,h4⟩
def bh{α:Type}{xs:List α}{j:Nat}{v:α}(h:xs[j]?=some v):sS xs (j:Int)=some v:=by
 have hj:j<xs.length:=(IM.mp h).1
 have e:yk xs.length (j:Int)=some j:=by
  unfold yk
  rw [if_pos (by lia),if_pos (by lia)];simp
 unfold sS;rw [e];exact h
def CG(b:Expr):Prop:=∀ o i,subscripted b false o i=operate [o,i] (getItem o i)
def GY(X:Cx)(r:R2):Prop :=
 ∀ (value slice:Expr) (pins:List (Addr × Obj)) (s:Shared) (σ:St) (H:Hp) (x y:V) (v u:Value) (Q:VK),Inv X pins σ H s→RelV x v→RelV y u→r x y H Q →
  subscripted slice false v u=operate [v,u] (getItem v u)→wpAny (model X.prog X.w) X.A (subscriptTail value slice v u) (EP X pins σ Q) X.xe s
def MtR(X:Cx)(id:String)(r:V→List V→Hp→VK→Prop):Prop :=
 ∀ (pins:List (Addr × Obj)) (s:Shared) (σ:St) (H:Hp) (x:V) (xs:List V) (v:Value) (us:List Value) (Q:VK),Inv X pins σ H s→RelV x v→Vals xs us→r x xs H Q →
  wpAny (model X.prog X.w) X.A (call (.builtin id) (v::us)) (EP X pins σ Q) X.xe s
section
variable {X:Cx}{a b:Expr}{ta tb:TE}{pos:Pos}
def bb{r:R2}(hr:GY X r)(ha:PE X a ta)(hb:PE X b tb)(hs:CG b):PE X (.Subscript a b pos) (GZ r ta tb):=by
 intro pins s σ H Q I h
 exact Subscript_ (Ey ha hb I h fun v u s2 x y H2 I2 rx ry q=>hr a b pins s2 σ H2 x y v u Q I2 rx ry q (hs _ _))
def Hl(K:PySem.W.Frag):R2:=fun x y H Q=>∃ p xs i v,x=.ref p∧y=.int i∧aA K H p xs∧sS xs i=some v∧Q v H
def HH(K:PySem.W.Frag):R2:=fun x y H Q=>∃ p xs i v,x=.ref p∧y=.int i∧bO K H p xs∧sS xs i=some v∧Q v H
def HG:R2:=fun x y H Q=>∃ z i c,x=.str z∧y=.int i∧z.length≤sizeLine∧sS z.cps.toList i=some c∧Q (.str ⟨#[c]⟩) H
def aR:GY X (Hl X.K):=by
 intro value slice pins s σ H x y v u Q I rx ry h hs
 obtain⟨p,xs,i,z,rfl,rfl,hq,he,q⟩:=h
 cases rx
 obtain⟨t,rfl⟩:=ry
 obtain⟨its,r,pl,hz⟩:=I.list hq
 obtain⟨j,h1,h2,h3,h4,h5⟩:=qA he
 obtain⟨w,ew,rw'⟩:=r.get h2
 have hl:=r.length
 have hn:=kI
 have fin:EP X pins σ Q w s:=⟨z,H,I,rw',q⟩
 by_cases h0:0≤i
 ·have hj:i.toNat=j:=by
   rw [seqIndex_of h0 h5] at h1
   exact Jk h1
  exact item_listR pl.isList h0 (by lia) (by rw [hj];simpa using ew) fin hs
 ·have hj:(i+(its.toArray.size:Int)).toNat=j:=by
   rw [seqIndex_neg (by lia) h4] at h1
   rw [IY,← hl]
   exact Jk h1
  exact subscriptTail_builtinR (x:=w) pl.isList.typeIs slot_list_getitem.lookup
   (wpAny_getItem_list_neg (Q:=fun r s'=>r=w∧EP X pins σ Q r s') pl.isList (by lia) (by rw [IY] <;> lia) (by lia) (by rw [hj];simpa using ew) ⟨rfl,fin⟩) hs
def eE:GY X (HH X.K):=by
 intro value slice pins s σ H x y v u Q I rx ry h hs
 obtain⟨p,xs,i,z,rfl,rfl,hq,he,q⟩:=h
 cases rx
 obtain⟨t,rfl⟩:=ry
 obtain⟨its,r,pl,hz⟩:=I.tuple hq
 obtain⟨j,h1,h2,h3,h4,h5⟩:=qA he
 obtain⟨w,ew,rw'⟩:=r.get h2
 have hl:=r.length
 have hn:=kI
 have fin:EP X pins σ Q w s:=⟨z,H,I,rw',q⟩
 exact subscriptTail_builtinR (x:=w) pl.typeIs slot_tuple_getitem.lookup
  (getItem_tuple (j:=j) (Q:=fun r s'=>r=w∧EP X pins σ Q r s') pl (by lia) (by lia) (by rw [IY,← hl];exact h1) (by simpa using ew) ⟨rfl,fin⟩) hs
def AI:GY X HG:=by
 intro value slice pins s σ H x y v u Q I rx ry h hs
 obtain⟨z,i,c,rfl,rfl,hz,he,q⟩:=h
 obtain⟨t,rfl⟩:=rx
 obtain⟨t',rfl⟩:=ry
 obtain⟨j,h1,h2,h3,h4,h5⟩:=qA he
 have hl:z.cps.toList.length=z.length:=by simp [Str.length]
 rw [hl] at h1 h4 h5
 have hn:=kI
 exact tail_any (Nv s z t) slot_str_getitem.lookup (getItem_str (c:=c) (by
  have e1:decide (i < -(2 ^ 63:Int))=false:=decide_eq_false (by lia)
  have e2:decide (i≥2 ^ 63)=false:=decide_eq_false (by lia)
  rw [e1,e2,LB]) (by rw [h1];simpa using h2) ⟨.str ⟨#[c]⟩,H,I.tok _,⟨_,rfl⟩,q⟩) hs
def uI(its:List Value)(n j:Nat)(u:Value):Obj.mapSeq (·.setIfInBounds j u) { cls:=.type "list",data:=.seq its.toArray n }={ cls:=.type "list",data:=.seq (its.set j u).toArray n }:=by
 simp [Obj.mapSeq]
theorem Inv.lst{pins:List (Addr × Obj)}{σ:St}{H:Hp}{s:Shared}{p:Addr}{xs:List V}(I:Inv X pins σ H s)(h:H p=some (.lst xs)) :
  ∃ (its:List Value) (n:Nat),Vals xs its∧s.heap.get? p=some { cls:=.type "list",data:=.seq its.toArray n }∧xs.length≤sizeLine:=by
 obtain⟨z,its,n,r,e⟩:=I.hok p _ h
 exact⟨its,n,r,e,z⟩
def Inv.Eb{pins:List (Addr × Obj)}{σ:St}{H:Hp}{s:Shared}{p:Addr}{xs ys:List V}{its its':List Value}{n n':Nat}{f:Obj→Obj}(I:Inv X pins σ H s)(h:H p=some (.lst xs))
  (ho:s.heap.get? p=some { cls:=.type "list",data:=.seq its.toArray n }) (hf:f { cls:=.type "list",data:=.seq its.toArray n }={ cls:=.type "list",data:=.seq its'.toArray n' }) (r:Vals ys its') (hz:ys.length≤sizeLine) (t:Nat) :
  Inv X pins σ (upd H p (.lst ys)) { s with heap:=s.heap.update p f,toks:=t }:=by
 have e:(s.heap.update p f).get? p=some { cls:=.type "list",data:=.seq its'.toArray n' }:=by
  rw [JL f ho (by rw [hf] <;> rfl),hf]
 refine I.write (x:=p) (e:=p) (by rw [h];trivial) (.inl rfl) (fun b u hb q=>(Ju _ _ (Jg hb)).trans q) ⟨_,e⟩ ?_
 exact⟨hz,its',n',r,e⟩
def Ge:V→V→V→Hp→(Hp→Prop)→Prop:=fun o i v H Q=>∃ p xs k j,o=.ref p∧i=.int k∧H p=some (.lst xs)∧yk xs.length k=some j∧Q (upd H p (.lst (xs.set j v)))
def set_list:Gd X Ge:=by
 intro pins s σ H o i v ov iv u Q I ro ri rv h
 obtain⟨p,xs,k,j,rfl,rfl,hp,hj,q⟩:=h
 cases ro
 obtain⟨t,rfl⟩:=ri
 obtain⟨its,n,r,ho,hz⟩:=I.lst hp
 obtain⟨h1,h2,h3,h4⟩:=vz hj
 have hl:=r.length
 have hn:=kI
 have I':Inv X pins σ (upd H p (.lst (xs.set j v))) { s with heap:=s.heap.update p (Obj.mapSeq (·.setIfInBounds j u)) } :=
  I.Eb hp ho (uI its n j u) (r.set rv j) (by rw [List.length_set];exact hz) s.toks
 by_cases h0:0≤k
 ·have hk:k.toNat=j:=by
   rw [seqIndex_of h0 h4] at h1
   exact Jk h1
  exact PySem.W.ki_setAt ho h0 (by lia) (by rw [IY,← hl];exact h4) (by rw [hk];exact⟨_,I',q⟩)
 ·have hk:(k+(its.toArray.size:Int)).toNat=j:=by
   rw [seqIndex_neg (by lia) h3] at h1
   rw [IY,← hl]
   exact Jk h1
  exact PySem.W.ki_setBack ho (by lia) (by rw [IY,← hl];exact h3) (by lia) (by rw [hk];exact⟨_,I',q⟩)
def qx(lo hi:Option Int)(n:Nat):(sliceBounds lo hi none n).1=((HT.mF n 0 lo:Nat):Int)∧(sliceBounds lo hi none n).2.1=((HT.mF n n hi:Nat):Int)∧(sliceBounds lo hi none n).2.2=1:=by
 refine⟨?_,?_,rfl⟩
 ·cases lo with
  | none=>simp [sliceBounds,HT.mF]
  | some i =>
   simp only [sliceBounds,HT.mF,Option.getD_none,show(1:Int) > 0 by decide,L0]
   by_cases h:i<0
   ·simp only [h,L0] <;> lia
   ·simp only [h,Km] <;> lia
 ·cases hi with
  | none=>simp [sliceBounds,HT.mF]
  | some i =>
   simp only [sliceBounds,HT.mF,Option.getD_none,show(1:Int) > 0 by decide,L0]
   by_cases h:i<0
   ·simp only [h,L0] <;> lia
   ·simp only [h,Km] <;> lia
def nK(its:List Value)(lo hi:Option Int):slicePick its.toArray lo hi none=((its.drop (HT.mF its.length 0 lo)).take (HT.mF its.length its.length hi-HT.mF its.length 0 lo)).toArray:=by
 obtain⟨h1,h2,h3⟩:=qx lo hi its.toArray.size
 unfold slicePick
 rw [h1,h2,h3]
 simp only [sliceRange_one,pick_run,IY] <;> rfl
def HB(K:PySem.W.Frag):V→Option Int→Option Int→Hp→VK→Prop:=fun x lo hi H Q=>∃ a xs,x=.ref a∧aA K H a xs∧∀ p,H p=none→Q (.ref p) (upd H p (.lst (ix xs lo hi)))
def fZ:Iw X (HB X.K):=by
 intro pins s σ H x v vl vu lo hi sl Q I rx hs pl pu h
 obtain⟨a,xs,rfl,hx,q⟩:=h
 cases rx
 obtain⟨its,r,ht,hz⟩:=I.list hx
 have hlen:=r.length
 refine⟨"list",_,slot_list_getitem.lookup,ht.isList.typeIs,?_⟩
 refine wpAny_getItem_list_slice ht.isList hs pl pu .none (by simp) ?_ (by rw [IY] <;> lia)
 rw [nK,← hlen]
 refine⟨.ref s.heap.objs.size,_,I.laid (t':=s.toks) (o:=.lst (ix xs lo hi)) (fun b ob q=>IF _ q) (II _) ?_,rfl,q _ (I.hok.fresh (II _))⟩
 exact⟨Jf (qE xs lo hi) hz,_,0,(r.drop (HT.mF xs.length 0 lo)).take (HT.mF xs.length xs.length hi-HT.mF xs.length 0 lo),IQ _ rfl⟩
def eX:V→Bool
 | .non=>true
 | .bl _=>true
 | .int _=>true
 | .str _=>true
 | _=>false
def rn:V→V→Bool
 | .non,.non=>true
 | .bl a,.bl b=>a==b
 | .bl a,.int b=>(if a then 1 else 0)==b
 | .int a,.bl b=>a==(if b then 1 else 0)
 | .int a,.int b=>a==b
 | .str a,.str b=>a==b
 | _,_=>false
def iy{A:Around}{s:Shared}{y x:V}{u v:Value}(ry:RelV y u)(rx:RelV x v)(fy:eX y=true)(fx:eX x=true):SeqAt.EqAt A s u v (rn y x):=by
 cases y with
 | non =>
  cases ry
  cases x with
  | non=>cases rx;exact KW _
  | bl b=>cases rx;exact SeqAt.EqAt.none_bool b
  | int b=>obtain⟨t,rfl⟩:=rx;exact SeqAt.EqAt.none_int b t
  | str b=>obtain⟨t,rfl⟩:=rx;exact SeqAt.EqAt.none_str b t
  | _=>exact absurd (show false=true from fx) Je
 | bl a =>
  cases ry
  cases x with
  | non=>cases rx;exact SeqAt.EqAt.bool_none a
  | bl b=>cases rx;exact SeqAt.EqAt.bool_bool a b
  | int b=>obtain⟨t,rfl⟩:=rx;exact SeqAt.EqAt.bool_int a b t
  | str b=>obtain⟨t,rfl⟩:=rx;exact SeqAt.EqAt.bool_str a b t
  | _=>exact absurd (show false=true from fx) Je
 | int a =>
  obtain⟨t',rfl⟩:=ry
  cases x with
  | non=>cases rx;exact SeqAt.EqAt.int_none a t'
  | bl b=>cases rx;exact SeqAt.EqAt.int_bool a t' b
  | int b=>obtain⟨t,rfl⟩:=rx;exact SeqAt.EqAt.int_int a t' b t
  | str b=>obtain⟨t,rfl⟩:=rx;exact SeqAt.EqAt.int_str a t' b t
  | _=>exact absurd (show false=true from fx) Je
 | str a =>
  obtain⟨t',rfl⟩:=ry
  cases x with
  | non=>cases rx;exact SeqAt.EqAt.str_none a t'
  | bl b=>cases rx;exact SeqAt.EqAt.str_bool a t' b
  | int b=>obtain⟨t,rfl⟩:=rx;exact SeqAt.EqAt.str_int a t' b t
  | str b=>obtain⟨t,rfl⟩:=rx;exact SeqAt.EqAt.str_str a t' b t
  | _=>exact absurd (show false=true from fx) Je
 | _=>exact absurd (show false=true from fy) Je
def uq(x:V)(u:Value):Bool:=match u with
 | .none=>rn .non x
 | .bool b=>rn (.bl b) x
 | .int i _=>rn (.int i) x
 | .str z _=>rn (.str z) x
 | _=>false
def zp{x y:V}{u:Value}(r:RelV y u)(f:eX y=true):uq x u=rn y x:=by
 cases y with
 | non=>cases r;rfl
 | bl b=>cases r;rfl
 | int i=>obtain⟨t,rfl⟩:=r;rfl
 | str z=>obtain⟨t,rfl⟩:=r;rfl
 | _=>exact absurd (show false=true from f) Je
theorem jQ{x:V}:∀ {xs:List V} {us:List Value},Vals xs us→xs.all eX=true→us.any (uq x)=xs.any fun y=>rn y x
 | _,_,.nil,_=>rfl
 | y::xs,u::us,.cons r t,f=>by
  rw [Ma,Ka] at f
  rw [K0,K0,zp r f.1,jQ t f.2]
theorem iB{A:Around}{s:Shared}{x:V}{v:Value}(rx:RelV x v)(fx:eX x=true):∀ {xs:List V} {us:List Value},Vals xs us→xs.all eX=true→∀ u∈us,SeqAt.EqAt A s u v (uq x u)
 | _,_,.nil,_=>fun u hu=>by cases hu
 | y::xs,u::us,.cons r t,f=>fun u' hu=>by
  rw [Ma,Ka] at f
  rcases IP.mp hu with rfl | hu
  ·rw [zp r f.1];exact iy r rx f.1 fx
  ·exact iB rx fx t f.2 u' hu
def Cd(x:V)(xs:List V):Bool:=xs.any fun y=>rn y x
def rIn(K:PySem.W.Frag)(neg:Bool):R2:=fun x y H Q=>∃ p xs,y=.ref p∧(aA K H p xs∨bO K H p xs)∧eX x=true∧xs.all eX=true∧Q (.bl (if neg then !Cd x xs else Cd x xs)) H
def j7:gr X (compareOp .In) (rIn X.K false):=by
 intro pins s σ H x y v u Q I rx ry h
 obtain⟨p,xs,rfl,hq,fx,fs,q⟩:=h
 cases ry
 rcases hq with hq | hq
 ·obtain⟨its,r,pl,hz⟩:=I.list hq
  refine SeqAt.in_listAt (uq x) pl.isList (fun w hw=>iB rx fx r fs w (by simpa using hw)) ⟨.bl _,H,I,rfl,?_⟩
  rw [show its.toArray.any (uq x)=its.any (uq x) by simp,jQ r fs]
  exact q
 ·obtain⟨its,r,pl,hz⟩:=I.tuple hq
  refine SeqAt.in_tupleAt (uq x) pl (fun w hw=>iB rx fx r fs w (by simpa using hw)) ⟨.bl _,H,I,rfl,?_⟩
  rw [show its.toArray.any (uq x)=its.any (uq x) by simp,jQ r fs]
  exact q
def dQ:gr X (compareOp .NotIn) (rIn X.K true):=by
 intro pins s σ H x y v u Q I rx ry h
 obtain⟨p,xs,rfl,hq,fx,fs,q⟩:=h
 cases ry
 rcases hq with hq | hq
 ·obtain⟨its,r,pl,hz⟩:=I.list hq
  refine SeqAt.notIn_listAt (uq x) pl.isList (fun w hw=>iB rx fx r fs w (by simpa using hw)) ⟨.bl _,H,I,rfl,?_⟩
  rw [show its.toArray.any (uq x)=its.any (uq x) by simp,jQ r fs]
  exact q
 ·obtain⟨its,r,pl,hz⟩:=I.tuple hq
  refine SeqAt.notIn_tupleAt (uq x) pl (fun w hw=>iB rx fx r fs w (by simpa using hw)) ⟨.bl _,H,I,rfl,?_⟩
  rw [show its.toArray.any (uq x)=its.any (uq x) by simp,jQ r fs]
  exact q
def bU:dM X (.type "list") (fun xs H Q=>∃ p ys,xs=[.ref p]∧(aA X.K H p ys∨bO X.K H p ys)∧∀ l,H l=none→Q (.ref l) (upd H l (.lst ys))):=by
 intro pins s σ H xs us Q I r h
 obtain⟨p,ys,rfl,hq,q⟩:=h
 obtain⟨u,rfl,rx⟩:=vals1 r
 cases rx
 have fin:∀ (its:List Value),Vals ys its→ys.length≤sizeLine→∀ (h':Heap) (c':Nat),(∀ b o',s.heap.get? b=some o'→h'.get? b=some o') →
   h'.get? s.heap.objs.size=some { cls:=.type "list",dict:=none,data:=.seq its.toArray c',slots:=#[] }→EP X pins σ Q (.ref s.heap.objs.size) { s with heap:=h' }:=fun its r' hz h' c' kp e =>
  ⟨.ref s.heap.objs.size,_,I.laid (t':=s.toks) kp (II _) (show bJ X.prog X.w _ h' _ (.lst ys) from⟨hz,its,c',r',e⟩),rfl,q _ (I.hok.fresh (II _))⟩
 rcases hq with hq | hq
 ·obtain⟨its,r',pl,hz⟩:=I.list hq
  have hlen:=r'.length
  obtain⟨o,ho,hc,n,hd⟩:=pl.isList
  exact call_list_seq p (.inl rfl) ho hc hd (fun h' c' kp e=>fin its r' hz h' c' kp e) (by simp only [IY] <;> lia)
 ·obtain⟨its,r',pl,hz⟩:=I.tuple hq
  have hlen:=r'.length
  obtain⟨o,ho,hc,n,hd⟩:=pl
  exact call_list_seq p (.inr rfl) ho hc hd (fun h' c' kp e=>fin its r' hz h' c' kp e) (by simp only [IY] <;> lia)
def bK:dM X (.type "tuple") (fun xs H Q=>∃ p ys,xs=[.ref p]∧((aA X.K H p ys∧∀ l,H l=none→Q (.ref l) (upd H l (.tup ys)))∨(bO X.K H p ys∧Q (.ref p) H))):=by
 intro pins s σ H xs us Q I r h
 obtain⟨p,ys,rfl,h⟩:=h
 obtain⟨u,rfl,rx⟩:=vals1 r
 cases rx
 rcases h with⟨hq,q⟩ | ⟨hq,q⟩
 ·obtain⟨its,r',pl,hz⟩:=I.list hq
  have hlen:=r'.length
  refine call_tuple_list pl.isList (fun h' kp=>?_) (by simp only [IY] <;> lia)
  have I1:Inv X pins σ H { s with heap:=h' }:=I.kept (t':=s.toks) kp
  have I2:Inv X pins σ (upd H h'.objs.size (.tup ys)) { s with heap:=h'.push { cls:=.type "tuple",data:=.seq its.toArray } } :=
   I1.laid (t':=s.toks) (fun b o e=>IF _ e) (II _) (show bJ X.prog X.w _ _ _ (.tup ys) from⟨hz,its,r',IsTup.new _ _⟩)
  exact⟨.ref h'.objs.size,_,I2,rfl,q _ (I1.hok.fresh (II _))⟩
 ·obtain⟨its,r',pl,hz⟩:=I.tuple hq
  exact call_tuple_same pl ⟨.ref p,H,I,rfl,q⟩
def Im(K:PySem.W.Frag)(T:String)(x:V)(H:Hp):Prop:=match x with
 | .str _=>T="str"
 | .int _=>T="int"
 | .ref p=>(T="list"∧∃ xs,aA K H p xs)∨(T="tuple"∧∃ o,K.lookup p=some o∧o.cls=.type "tuple"∧o.dict=none) ∨
   (T="dict"∧((∃ kvs,H p=some (.dK kvs))∨∃ kvs,H p=some (.dT kvs)))∨(T="set"∧∃ S n,H p=some (.set S n))
 | _=>False
def yX{pins:List (Addr × Obj)}{σ:St}{H:Hp}{s:Shared}{T:String}{x:V}{v:Value}(I:Inv X pins σ H s)(r:RelV x v)(ty:Im X.K T x H) :
  s.TypeIs v T∧∀ a,v=.ref a→∃ ob,s.heap.get? a=some ob∧ob.dict=none:=by
 cases x with
 | str z =>
  obtain⟨t,rfl⟩:=r
  cases (show T="str" from ty)
  exact⟨Nv s z t,fun _ e=>nomatch e⟩
 | int i =>
  obtain⟨t,rfl⟩:=r
  cases (show T="int" from ty)
  exact⟨typeIs_int s i t,fun _ e=>nomatch e⟩
 | ref p =>
  cases r
  rcases ty with⟨rfl,xs,hq⟩ | ⟨rfl,o,hk,hc,hd⟩ | ⟨rfl,hk⟩ | ⟨rfl,S,n,hk⟩
  ·obtain⟨its,_,pl,_⟩:=I.list hq
   refine⟨pl.isList.typeIs,fun a e=>?_⟩
   cases e
   obtain⟨o,n,e,c,hd,_⟩:=pl
   exact⟨o,e,hd⟩
  ·refine⟨⟨o,I.kR p o hk,hc⟩,fun a e=>?_⟩
   cases e
   exact⟨o,I.kR _ o hk,hd⟩
  ·have z:∃ o,s.heap.get? p=some o∧o.ExactDict:=by
    rcases hk with⟨kvs,hk⟩ | ⟨kvs,hk⟩
    ·obtain⟨_,_,_,_,o,_,_,e,ex,_⟩:=I.hok p _ hk
     exact⟨o,e,ex⟩
    ·obtain⟨_,_,_,_,o,_,_,e,ex,_⟩:=I.hok p _ hk
     exact⟨o,e,ex⟩
   obtain⟨o,e,ex⟩:=z
   refine⟨⟨o,e,ex.1⟩,fun a e2=>?_⟩
   cases e2
   exact⟨o,e,ex.2.1⟩
  ·obtain⟨o,_,_,_,e,ex,_⟩:=I.hok p _ hk
   refine⟨⟨o,e,ex.1⟩,fun a e2=>?_⟩
   cases e2
   exact⟨o,e,ex.2.1⟩
 | _=>exact False.elim ty
def Hs(K:PySem.W.Frag)(T:String)(r:V→List V→Hp→VK→Prop)(to:TE):TE:=fun σ H Q=>to σ H fun x H1=>Im K T x H1∧r x [] H1 Q
def tBM(K:PySem.W.Frag)(T:String)(r:V→List V→Hp→VK→Prop)(to:TE)(t:TA):TE:=fun σ H Q=>to σ H fun x H1=>Im K T x H1∧t σ H1 fun xs H2=>r x xs H2 Q
variable {o e:Expr}{es:List Expr}{to:TE}{t:TA}{name:Str}{apos cpos:Pos}{T id:String}{r:V→List V→Hp→VK→Prop}
def E4(pa:PlainAttrs T)(slot:Slot T name id)(hty:typeOf (.builtin id)=pure (.type "method_descriptor"))(hm:MtR X id r)(ho:PE X o to)
  (hbase:attributeBase o name X.env (eval o X.env)=eval o X.env:=by rfl) (hline:(apos.endLine==cpos.line)=true:=by rfl):PE X (.Call (.Attribute o name apos) [] [] cpos) (Hs X.K T r to):=by
 intro pins s σ H Q I h
 refine wpAny_Call_method0_late hbase hline (bM (ho pins s σ H _ I h) fun v s1 ⟨x,H1,I1,r1,ty,q1⟩=>?_)
 obtain⟨h1,h2⟩:=yX I1 r1 ty
 exact⟨T,id,pa,slot,hty,h1,h2,Calls.callWith_builtin rfl (PySem.evalArgs_none (hm pins s1 σ H1 x [] v [] Q I1 r1 .nil q1))⟩
def cR(pa:PlainAttrs T)(slot:Slot T name id)(hty:typeOf (.builtin id)=pure (.type "method_descriptor"))(hm:MtR X id r)(ho:PE X o to)(ha:PA X (e::es) t)
  (hbase:attributeBase o name X.env (eval o X.env)=eval o X.env:=by rfl)
  (hfew:((backTo cpos (starEach (e :: es) X.env)).all (fun x=>!x.1) && (backToKw cpos (keywordEach [] X.env)).all (fun x=>x.1.isSome)
   && decide ((e::es).length+([]:List Keyword).length+(if ([]:List Keyword).isEmpty then 0 else 1)<30))=true:=by rfl)
  (hline:(apos.endLine==cpos.line)=true:=by rfl) (hs:starEach (e::es) X.env=(false,eval e X.env)::starEach es X.env:=by rfl) (hplain:(backTo cpos (starEach es X.env)).any (·.1)=false:=by rfl) :
  PE X (.Call (.Attribute o name apos) (e::es) [] cpos) (tBM X.K T r to t):=by
 intro pins s σ H Q I h
 refine wpAny_Call_method_late hbase hfew hline rfl (bM (ho pins s σ H _ I h) fun v s1 ⟨x,H1,I1,r1,ty,q1⟩=>?_)
 obtain⟨h1,h2⟩:=yX I1 r1 ty
 refine⟨T,id,pa,slot,hty,h1,h2,?_⟩
 have hA:=ha cpos pins s1 σ H1 _ I1 q1
 rw [hs] at hA ⊢
 refine Calls.callWith_builtin (by show(false || (backTo cpos (starEach es X.env)).any (·.1))=false;rw [hplain] <;> rfl) (Calls.evalArgs_plain ?_)
 exact bM hA fun us s2 ⟨vs,H2,I2,r2,q2⟩=>hm pins s2 σ H2 x vs v us Q I2 r1 r2 q2
end
end L2
namespace L2
open PySem PySem.Spec PyProof.Rows
def MtM(X:Cx)(id:String)(r:V→List V→Hp→VK→Prop):Prop :=
 ∀ (pins:List (Addr × Obj)) (s:Shared) (σ:St) (H:Hp) (x:V) (xs:List V) (v:Value) (us:List Value) (Q:VK),Inv X pins σ H s→RelV x v→Vals xs us→r x xs H Q →
  wpAny (model X.prog X.w) X.A (call (.builtin id) (v::us)) (EP X pins σ Q) X.xe s
def Vals.one:∀ {x:V} {us:List Value},Vals [x] us→∃ u,us=[u]∧RelV x u
 | _,_,.cons r .nil=>⟨_,rfl,r⟩
def Vals.two:∀ {x y:V} {us:List Value},Vals [x,y] us→∃ u v,us=[u,v]∧RelV x u∧RelV y v
 | _,_,_,.cons r (.cons q .nil)=>⟨_,_,rfl,r,q⟩
def Vals.zero:∀ {us:List Value},Vals [] us→us=[]
 | _,.nil=>rfl
theorem Vals.reverse{xs:List V}{us:List Value}(h:Vals xs us):Vals xs.reverse us.reverse:=by
 induction h with
 | nil=>exact .nil
 | cons r t ih=>rw [List.reverse_cons,List.reverse_cons];exact Vals.append ih (.cons r .nil)
section
variable {X:Cx}{pins:List (Addr × Obj)}{σ:St}{H:Hp}{s:Shared}{l b:Addr}{xs ys zs:List V}
def Inv.HW{its its':List Value}{n:Nat}{f:Array Value→Array Value}{t':Nat}(I:Inv X pins σ H s)(hH:H l=some (.lst xs))
  (e:s.heap.get? l=some { cls:=.type "list",data:=.seq its.toArray n }) (hf:f its.toArray=its'.toArray) (hv:Vals ys its') (hz:ys.length≤sizeLine) :
  Inv X pins σ (upd H l (.lst ys)) { s with heap:=s.heap.update l (Obj.mapSeq f),toks:=t' }:=by
 have q:=PySem.IsL.update e f
 rw [hf] at q
 refine I.write (x:=l) (e:=l) (by rw [hH];exact trivial) (.inl rfl) (fun b' u hb hu=>(Ju s.heap (Obj.mapSeq f) (Jg hb)).trans hu) ⟨_,q⟩ ?_
 exact⟨hz,its',_,hv,q⟩
def Inv.Eh{its:List Value}{t':Nat}(I:Inv X pins σ H s)(hv:Vals ys its)(hz:ys.length≤sizeLine) :
  Inv X pins σ (upd H s.heap.objs.size (.lst ys)) { s with heap:=s.heap.push { cls:=.type "list",data:=.seq its.toArray },toks:=t' } :=
 I.laid (fun _ _ q=>IF _ q) (II _) ⟨hz,its,0,hv,IQ _ rfl⟩
theorem Inv.fresh(I:Inv X pins σ H s):H s.heap.objs.size=none:=I.hok.fresh (II _)
def Inv.BO(I:Inv X pins σ H s)(hH:H l=some (.lst xs)):xs.length≤sizeLine∧∃ (its:List Value) (n:Nat),Vals xs its∧xs.length=its.length∧s.heap.get? l=some { cls:=.type "list",data:=.seq its.toArray n }:=by
 obtain⟨z,its,n,r,e⟩:=I.hok l _ hH
 exact⟨z,its,n,r,r.length,e⟩
end
section
variable {X:Cx}
def B2:V→List V→Hp→VK→Prop:=fun x vs H Q=>∃ l xs y,x=.ref l∧vs=[y]∧H l=some (.lst xs)∧xs.length<sizeLine∧Q .non (upd H l (.lst (xs++[y])))
def aV:MtM X "list.append" B2:=by
 intro pins s σ H x vs v us Q I rx rv h
 obtain⟨l,xs,y,rfl,rfl,hH,hz,q⟩:=h
 cases rx
 obtain⟨u,rfl,ru⟩:=rv.one
 obtain⟨z,its,n,r,hl,e⟩:=I.BO hH
 refine call_meets F.slot_list_append ⟨_,e,rfl⟩ F.entry_list_append (F.args_list_append_2 _ _) (PySem.list_append l its.toArray n u (by rw [IY];lia)) ⟨e,?_⟩
 refine⟨.non,_,I.HW (its':=its++[u]) hH e (by simp) (r.append (.cons ru .nil)) ?_,rfl,q⟩
 rw [List.length_append,J5]
 lia
def HZ:R2:=fun x y H Q=>∃ l b xs zs,x=.ref l∧y=.ref b∧H l=some (.lst xs)∧H b=some (.lst zs)∧xs.length+zs.length≤sizeLine∧∀ p,H p=none→Q (.ref p) (upd H p (.lst (xs++zs)))
def jj:gr X (binaryOp .Add) HZ:=by
 intro pins s σ H x y v u Q I rx ry h
 obtain⟨l,b,xs,zs,rfl,rfl,hH,hB,hz,q⟩:=h
 cases rx
 cases ry
 obtain⟨z,its,n,r,hl,e⟩:=I.BO hH
 obtain⟨z2,its2,n2,r2,hl2,e2⟩:=I.BO hB
 refine PySem.P.add_list e e2 ?_ (by rw [IY,IY];lia)
 have ea:its.toArray++its2.toArray=(its++its2).toArray:=by simp
 rw [ea]
 exact⟨.ref _,_,I.Eh (t':=s.toks) (r.append r2) (by rw [List.length_append];lia),rfl,q _ I.fresh⟩
end
section
variable {X:Cx}
end
end L2
namespace L2
open PySem PySem.Spec PyProof.Rows
section
variable {κ:Type}[DecidableEq κ]
def de(kvs:List (κ × V))(k:κ):Option V:=(kvs.find? fun kv=>decide (kv.1=k)).map (·.2)
def putK(kvs:List (κ × V))(k:κ)(v:V):List (κ × V) :=
 if (kvs.any fun kv=>decide (kv.1=k))=true then kvs.map (fun kv=>if kv.1=k then(kv.1,v) else kv) else kvs++[(k,v)]
def cx{p:κ × V}{r:List (κ × V)}{k:κ}(e:p.1=k):de (p::r) k=some p.2:=by simp [de,KY,e]
def cj{p:κ × V}{r:List (κ × V)}{k:κ}(e:¬ p.1=k):de (p::r) k=de r k:=by simp [de,KY,e]
theorem gD(k:κ):∀ kvs:List (κ × V),(kvs.any fun kv=>decide (kv.1=k))=(de kvs k).isSome
 | []=>rfl
 | p::r=>by
  rw [K0]
  by_cases e:p.1=k
  ·simp only [cx e,IL e,Bool.true_or,Option.isSome_some]
  ·rw [cj e,decide_eq_false e,ND];exact gD k r
theorem oB(k j:κ)(y:V):∀ kvs:List (κ × V),de kvs k=none→de (kvs++[(k,y)]) j=if j=k then some y else de kvs j
 | [],_=>by
  by_cases e:k=j
  ·rw [if_pos e.symm];exact cx (p:=(k,y)) e
  ·rw [if_neg (fun z=>e z.symm)];exact cj (p:=(k,y)) e
 | p::r,hn=>by
  rw [List.cons_append]
  have hk:¬ p.1=k:=fun z=>by rw [cx z] at hn;cases hn
  rw [cj hk] at hn
  have ih:=oB k j y r hn
  by_cases e:p.1=j
  ·rw [cx e,cx e,if_neg (fun z=>hk (e.trans z))]
  ·rw [cj e,cj e,ih]
def kP(kvs:List (κ × V))(k:κ)(v:V):(putK kvs k v).length≤kvs.length+1:=by
 unfold putK
 split
 ·rw [List.length_map];lia
 ·rw [List.length_append,Jh,LJ];lia
def jA{kvs:List (κ × V)}{k:κ}(v:V)(h:de kvs k=none):putK kvs k v=kvs++[(k,v)]:=by
 unfold putK
 rw [gD,h]
 exact if_neg (by decide)
def iW.gu{o:Option V}{u:Option Value}(r:iW o u):o.isSome=u.isSome:=by
 cases o with
 | none=>cases u with
  | none=>rfl
  | some _=>exact(show False from r).elim
 | some _=>cases u with
  | none=>exact(show False from r).elim
  | some _=>rfl
def KV.val{kvs:List (κ × V)}{vs:List (κ × Value)}(r:KV kvs vs)(k:κ):iW (de kvs k) (valueAt vs k):=by
 unfold KV at r
 induction r with
 | nil=>exact True.intro
 | @cons p q ps qs h t ih =>
  obtain⟨h1,h2⟩:=h
  by_cases e:p.1=k
  ·have e':q.1=k:=h1.symm.trans e
   have b:valueAt (q::qs) k=some q.2:=by simp [valueAt,KY,e']
   rw [cx e,b];exact h2
  ·have e':¬ q.1=k:=fun z=>e (h1.trans z)
   have b:valueAt (q::qs) k=valueAt qs k:=by simp [valueAt,KY,e']
   rw [cj e,b];exact ih
theorem KV.any{kvs:List (κ × V)}{vs:List (κ × Value)}(r:KV kvs vs)(k:κ):(kvs.any fun kv=>decide (kv.1=k))=vs.any fun kv=>decide (kv.1=k):=by
 unfold KV at r
 induction r with
 | nil=>rfl
 | cons h t ih=>rw [K0,K0,ih,h.1]
def KV.Ea{kvs:List (κ × V)}{vs:List (κ × Value)}(r:KV kvs vs)(k:κ){y:V}{u:Value}(ry:RelV y u) :
  KV (kvs.map fun kv=>if kv.1=k then(kv.1,y) else kv) (vs.map fun kv=>if kv.1=k then(kv.1,u) else kv):=by
 unfold KV at r ⊢
 induction r with
 | nil=>exact .nil
 | @cons p q ps qs h t ih =>
  rw [JG,JG]
  refine .cons ?_ ih
  obtain⟨h1,h2⟩:=h
  by_cases e:p.1=k
  ·rw [if_pos e,if_pos (h1.symm.trans e)];exact⟨h1,ry⟩
  ·rw [if_neg e,if_neg (fun z=>e (h1.trans z))];exact⟨h1,h2⟩
def KV.put{kvs:List (κ × V)}{vs:List (κ × Value)}(r:KV kvs vs)(k:κ){y:V}{u:Value}(ry:RelV y u):KV (putK kvs k y) (stored vs k u):=by
 unfold putK stored
 rw [r.any k]
 by_cases e:(vs.any fun kv=>decide (kv.1=k))=true
 ·rw [if_pos e,if_pos e];exact r.Ea k ry
 ·rw [if_neg e,if_neg e];exact JZ r ⟨rfl,ry⟩
def KV.keys{kvs:List (κ × V)}{vs:List (κ × Value)}(r:KV kvs vs):kvs.map (·.1)=vs.map (·.1):=by
 unfold KV at r
 induction r with
 | nil=>rfl
 | cons h t ih=>rw [JG,JG,ih,h.1]
theorem KV.length{kvs:List (κ × V)}{vs:List (κ × Value)}(r:KV kvs vs):kvs.length=vs.length:=IX r
end
def mU{P:Program}{w:World}{k:Key}{u:Value}(r:RelV (kV k) u):(aQ P w).is k u=true:=by
 cases k with
 | inl i=>obtain⟨t,e⟩:=(show ∃ t,u=Value.int i t from r);subst e;exact rW P w i t
 | inr x=>obtain⟨t,e⟩:=(show ∃ t,u=Value.str x t from r);subst e;exact rF P w x t
theorem oC{P:Program}{w:World}:∀ {ks:List Key} {us:List Value},Vals (ks.map kV) us→ItemsAre (aQ P w) ks us
 | [],_,r=>by rw [MV] at r;cases r;exact .nil
 | k::ks,_,r=>by
  rw [JG] at r
  cases r with
  | cons h t=>exact .cons (mU h) (oC t)
abbrev KT(H:Hp):List (List Key × V)→List (List Key × Addr × Value)→Prop:=Paired fun p q=>p.1=q.1∧H q.2.1=some (.tup (p.1.map kV))∧RelV p.2 q.2.2
def KT.val{H:Hp}{kvs:List (List Key × V)}{xs:List (List Key × Addr × Value)}(r:KT H kvs xs)(k:List Key):iW (de kvs k) ((atKey xs k).map (·.2)):=by
 induction r with
 | nil=>exact True.intro
 | @cons p q ps qs h t ih =>
  obtain⟨h1,_,h2⟩:=h
  by_cases e:p.1=k
  ·have e':q.1=k:=h1.symm.trans e
   have b:atKey (q::qs) k=some q.2:=by simp [atKey,KY,e']
   rw [cx e,b];exact h2
  ·have e':¬ q.1=k:=fun z=>e (h1.trans z)
   have b:atKey (q::qs) k=atKey qs k:=by simp [atKey,KY,e']
   rw [cj e,b];exact ih
def KT.Ea{H:Hp}{kvs:List (List Key × V)}{xs:List (List Key × Addr × Value)}(r:KT H kvs xs)(k:List Key){y:V}{u:Value}(ry:RelV y u) :
  KT H (kvs.map fun kv=>if kv.1=k then(kv.1,y) else kv) (xs.map (putAt k u)):=by
 induction r with
 | nil=>exact .nil
 | @cons p q ps qs h t ih =>
  rw [JG,JG]
  refine .cons ?_ ih
  obtain⟨h1,h2,h3⟩:=h
  unfold putAt
  by_cases e:p.1=k
  ·rw [if_pos e,if_pos (h1.symm.trans e)];exact⟨h1,h2,ry⟩
  ·rw [if_neg e,if_neg (fun z=>e (h1.trans z))];exact⟨h1,h2,h3⟩
def KT.put{H:Hp}{kvs:List (List Key × V)}{xs:List (List Key × Addr × Value)}(r:KT H kvs xs)(k:List Key){b:Addr}{y:V}{u:Value}(hb:H b=some (.tup (k.map kV)))(ry:RelV y u) :
  KT H (putK kvs k y) (storedH xs k b u):=by
 have e:(kvs.any fun kv=>decide (kv.1=k))=(atKey xs k).isSome:=by
  rw [gD,(r.val k).gu,L4]
 unfold putK storedH
 rw [e]
 by_cases q:(atKey xs k).isSome=true
 ·rw [if_pos q,if_pos q];exact r.Ea k ry
 ·rw [if_neg q,if_neg q];exact JZ r ⟨rfl,hb,ry⟩
def KT.keeps{H H':Hp}{kvs:List (List Key × V)}{xs:List (List Key × Addr × Value)}(r:KT H kvs xs)(ht:∀ b ys,H b=some (.tup ys)→H' b=some (.tup ys)):KT H' kvs xs :=
 Paired.cu r fun _ _ z=>⟨z.1,ht _ _ z.2.1,z.2.2⟩
section
variable {P:Program}{w:World}{H:Hp}{h:Heap}{a:Addr}
def CY{u:HO}(ok:jt P w H h)(e:Rd H a u):bJ P w H h a u:=e.ok ok
def ox{kvs:List (Key × V)}(ok:jt P w H h)(e:Rd H a (.dK kvs)):kvs.length≤sizeLine∧(a==sysModules)=false∧∃ vs,KV kvs vs∧h.DictOf (aQ P w) a vs :=
 show bJ P w H h a (.dK kvs) from CY ok e
def CU{kvs:List (Key × V)}(ok:jt P w H h)(e:H a=some (.dK kvs)):kvs.length≤sizeLine∧(a==sysModules)=false∧∃ vs,KV kvs vs∧h.DictOf (aQ P w) a vs:=ox ok (.inl e)
def kj{ks:List Key}(ok:jt P w H h)(e:H a=some (.tup (ks.map kV))):(tupleKind (aQ P w)).is h ks a:=by
 obtain⟨_,its,r,o,h1,h2,n,h3⟩:=(show bJ P w H h a (.tup (ks.map kV)) from ok a _ e)
 exact⟨o,its.toArray,n,h1,h2,h3,by simpa using oC r⟩
def qT{kvs:List (List Key × V)}(ok:jt P w H h)(e:Rd H a (.dT kvs)):kvs.length≤sizeLine∧(a==sysModules)=false ∧
  ∃ xs,KT H kvs xs∧h.DictOfH (tupleKind (aQ P w)) a xs:=by
 obtain⟨z,y,xs,r,o,es,ep,h1,h2,h3,h4,h5⟩:=(show bJ P w H h a (.dT kvs) from CY ok e)
 refine⟨z,y,xs,r,o,es,ep,h1,h2,h3,h4,fun x hx=>?_,h5⟩
 have all:∀ {l:List (List Key × V)} {m:List (List Key × Addr × Value)},KT H l m→∀ x∈m,(tupleKind (aQ P w)).is h x.1 x.2.1:=by
  intro l m q
  induction q with
  | nil=>intro x hx;exact nomatch hx
  | @cons p q ps qs hq t ih =>
   intro x hx
   rcases IP.mp hx with e | hx
   ·subst e
    exact kj ok (by rw [← hq.1];exact hq.2.1)
   ·exact ih x hx
 exact all r x hx
def De{kvs:List (List Key × V)}(ok:jt P w H h)(e:H a=some (.dT kvs)):kvs.length≤sizeLine∧(a==sysModules)=false ∧
  ∃ xs,KT H kvs xs∧h.DictOfH (tupleKind (aQ P w)) a xs:=qT ok (.inl e)
end
def fz(H:Hp)(a:Addr)(y:V)(r:Option V):Prop :=
 (∃ kvs k,Rd H a (.dK kvs)∧y=kV k∧r=de kvs k)∨∃ kvs k b,Rd H a (.dT kvs)∧y=.ref b∧H b=some (.tup (k.map kV))∧r=de kvs k
def jN(H:Hp)(a:Addr)(y v:V)(H':Hp):Prop :=
 (∃ kvs k,H a=some (.dK kvs)∧y=kV k∧kvs.length<sizeLine∧H'=upd H a (.dK (putK kvs k v))) ∨
 ∃ kvs k b,H a=some (.dT kvs)∧y=.ref b∧H b=some (.tup (k.map kV))∧kvs.length<sizeLine∧H'=upd H a (.dT (putK kvs k v))
theorem fz.k{H:Hp}{a:Addr}{kvs:List (Key × V)}{k:Key}(e:H a=some (.dK kvs)):fz H a (kV k) (de kvs k):=.inl ⟨kvs,k,.inl e,rfl,rfl⟩
def fz.t{H:Hp}{a b:Addr}{kvs:List (List Key × V)}{k:List Key}(e:H a=some (.dT kvs))(eb:H b=some (.tup (k.map kV))):fz H a (.ref b) (de kvs k):=.inr ⟨kvs,k,b,.inl e,rfl,eb,rfl⟩
theorem jN.k{H:Hp}{a:Addr}{kvs:List (Key × V)}{k:Key}{v:V}(e:H a=some (.dK kvs))(hl:kvs.length<sizeLine):jN H a (kV k) v (upd H a (.dK (putK kvs k v))):=.inl ⟨kvs,k,e,rfl,hl,rfl⟩
def jN.t{H:Hp}{a b:Addr}{kvs:List (List Key × V)}{k:List Key}{v:V}(e:H a=some (.dT kvs))(eb:H b=some (.tup (k.map kV)))(hl:kvs.length<sizeLine) :
  jN H a (.ref b) v (upd H a (.dT (putK kvs k v))):=.inr ⟨kvs,k,b,e,rfl,eb,hl,rfl⟩
section
variable {X:Cx}{pins:List (Addr × Obj)}{σ:St}{H:Hp}{s:Shared}{a:Addr}{y v:V}{u r:Value}{o:Option V}{A:Around}{E:Value→Shared→Prop}
def Inv.big(I:Inv X pins σ H s):sysModules<s.heap.objs.size:=by
 have h:mainGlobals<s.heap.objs.size:=(I.mod.glob.keeps I.bk).lt
 exact Nat.lt_trans (by decide) h
def wY{Q:Value→Shared→Prop}(hu:A.units+1<cLine)(I:Inv X pins σ H s)(g:fz H a y (some v))(ry:RelV y u)(h:∀ w' s',Inv X pins σ H s'→RelV v w'→Q w' s') :
  wpAny (model X.prog X.w) A (getItem (.ref a) u) Q E s:=by
 rcases g with⟨kvs,k,e,ey,l⟩ | ⟨kvs,k,b,e,ey,eb,l⟩
 ·subst ey
  obtain⟨z,hd,vs,rel,dd⟩:=ox I.hok e
  obtain⟨w',hw,rw'⟩:=iW.some_of (v:=v) (o:=valueAt vs k) (by rw [l];exact rel.val k)
  exact wpAny_getItem_of (mU ry) dd.mapOf hw (h w' _ (I.tok _) rw')
 ·subst ey
  cases (show u=Value.ref b from ry)
  obtain⟨z,hd,xs,rel,dd⟩:=qT I.hok e
  obtain⟨w',hw,rw'⟩:=iW.some_of (v:=v) (o:=(atKey xs k).map (·.2)) (by rw [l];exact rel.val k)
  obtain⟨p,hp,hp2⟩:=JJ.mp hw
  refine wpAny_getItem_heap (LR hu) (kj I.hok eb) dd hp ?_
  rw [hp2]
  exact h w' _ (I.tok _) rw'
def IA{Q:Value→Shared→Prop}(hu:A.units+1<cLine)(I:Inv X pins σ H s)(g:fz H a y o)(ry:RelV y u)(h:∀ s',Inv X pins σ H s'→Q (.bool o.isSome) s') :
  wpAny (model X.prog X.w) A (compareOp .In u (.ref a)) Q E s:=by
 rcases g with⟨kvs,k,e,ey,l⟩ | ⟨kvs,k,b,e,ey,eb,l⟩
 ·subst ey
  obtain⟨z,hd,vs,rel,dd⟩:=ox I.hok e
  refine wpAny_in_of (mU ry) hd dd.mapOf ?_
  rw [← (rel.val k).gu,← l]
  exact h _ (I.tok _)
 ·subst ey
  cases (show u=Value.ref b from ry)
  obtain⟨z,hd,xs,rel,dd⟩:=qT I.hok e
  refine wpAny_in_heap (LR hu) (kj I.hok eb) hd dd ?_
  have q:=(rel.val k).gu
  rw [L4] at q
  rw [← q,← l]
  exact h _ (I.tok _)
def Cj{Q:Value→Shared→Prop}(hu:A.units+1<cLine)(I:Inv X pins σ H s)(g:fz H a y o)(ry:RelV y u)(h:∀ s',Inv X pins σ H s'→Q (.bool (!o.isSome)) s') :
  wpAny (model X.prog X.w) A (compareOp .NotIn u (.ref a)) Q E s:=by
 rcases g with⟨kvs,k,e,ey,l⟩ | ⟨kvs,k,b,e,ey,eb,l⟩
 ·subst ey
  obtain⟨z,hd,vs,rel,dd⟩:=ox I.hok e
  refine wpAny_notIn_of (mU ry) hd dd.mapOf ?_
  rw [← (rel.val k).gu,← l]
  exact h _ (I.tok _)
 ·subst ey
  cases (show u=Value.ref b from ry)
  obtain⟨z,hd,xs,rel,dd⟩:=qT I.hok e
  refine wpAny_notIn_heap (LR hu) (kj I.hok eb) hd dd ?_
  have q:=(rel.val k).gu
  rw [L4] at q
  rw [← q,← l]
  exact h _ (I.tok _)
def kU{h':Heap}{t':Nat}{ob:HO}(I:Inv X pins σ H s)(mu:Gg (H a))(hs:Heap.SameBut a s.heap h')(he:∃ q,h'.get? a=some q)(new:bJ X.prog X.w (upd H a ob) h' a ob) :
  Inv X pins σ (upd H a ob) { s with heap:=h',toks:=t' } :=
 I.write (x:=a) (e:=a) mu (.inl rfl) (fun b q hb z=>(hs.2 b hb).trans z) he new
def EX{P:Program}{w:World}{H':Hp}{h':Heap}{kvs:List (Key × V)}{vs:List (Key × Value)}(z:kvs.length≤sizeLine)(hd:(a==sysModules)=false)(rel:KV kvs vs)(dd:h'.DictOf (aQ P w) a vs) :
  bJ P w H' h' a (.dK kvs):=⟨z,hd,vs,rel,dd⟩
def xb{H':Hp}{Q:Unit→Shared→Prop}(hu:A.units+1<cLine)(I:Inv X pins σ H s)(g:jN H a y v H')(ry:RelV y u)(rv:RelV v r)(h:∀ s',Inv X pins σ H' s'→Q () s') :
  wpAny (model X.prog X.w) A (setItem (.ref a) u r) Q E s:=by
 rcases g with⟨kvs,k,e,ey,l,eH⟩ | ⟨kvs,k,b,e,ey,eb,l,eH⟩
 ·subst ey eH
  obtain⟨z,hd,vs,rel,dd⟩:=CU I.hok e
  have hz:vs.length≤sizeLine:=by rw [← rel.length];exact z
  have hl:(putK kvs k v).length≤sizeLine:=by have:=kP kvs k v;lia
  refine wpAny_setItem_pairs (hsz:=hz) (mU ry) dd fun h' dd' hs=>h _ ?_
  have he:∃ q,h'.get? a=some q:=let ⟨q,_,_,hq,_⟩:=dd';⟨q,hq⟩
  exact kU I (by rw [e];exact True.intro) hs he (EX hl hd (rel.put k rv) dd')
 ·subst ey eH
  cases (show u=Value.ref b from ry)
  obtain⟨z,hd,xs,rel,dd⟩:=De I.hok e
  have hz:xs.length≤sizeLine:=by rw [← IX rel];exact z
  have hl:(putK kvs k v).length≤sizeLine:=by have:=kP kvs k v;lia
  refine wpAny_setItem_heap (hsz:=hz) (LR hu) (kj I.hok eb) dd fun h' dd' hs=>h _ ?_
  obtain⟨q,es,ep,hq,h2,h3,h4,_,h5⟩:=dd'
  refine kU I (by rw [e];exact True.intro) hs ⟨q,hq⟩ ⟨hl,hd,_,(rel.put k eb rv).keeps fun c ys ec=>?_,q,es,ep,hq,h2,h3,h4,h5⟩
  rw [ah (aJ ec e (fun z=>nomatch z))]
  exact ec
end
section
variable {X:Cx}{pins:List (Addr × Obj)}{σ:St}{H:Hp}{s:Shared}{a:Addr}{kvs:List (Key × V)}{k:Key}{u:Value}{A:Around}{E:Value→Shared→Prop}
end
def GO(i:Expr):Prop:=∀ ov iv,subscripted i false ov iv=operate [ov,iv] (getItem ov iv)
def Cz{prog:Program}{w:World}{A:Around}{E:Value→Shared→Prop}{s:Shared}{env:Env}{value slice:Expr}{pos:Pos}{T id:String}{Q:Value→Shared→Prop}
  (hl:typeLookup (.type T) "__getitem__"=pure (some (.builtin id))) (hs:GO slice)
  (h:wpAny (model prog w) A (eval value env) (fun o s₁=>wpAny (model prog w) A (eval slice env) (fun i s₂=>s₂.TypeIs o T∧wpAny (model prog w) A (getItem o i) Q E s₂) E s₁) E s) :
  wpAny (model prog w) A (eval (.Subscript value slice pos) env) Q E s:=by
 refine Subscript_ (Kf h (fun o s₁ h₁=>Kf h₁ (fun i s₂ h₂=>?_) fun _ _ x=>x) fun _ _ x=>x)
 obtain⟨hT,h₂⟩:=h₂
 unfold subscriptTail
 refine IE ?_
 rw [getitemInPython_of_ne hT.not_modules]
 refine IE (Kx hT hl ?_)
 have fin:wpAny (model prog w) A (subscripted slice false o i) (fun r s₃=>wpAny (model prog w) A (letTemporaryGo value o r >>= fun _=>pure r) Q E s₃) E s₂:=by
  rw [hs o i]
  exact wpAny_operating (Kf h₂ (fun r s₃ h₃=>IE (wpAny_letTemporaryGo (wpAny_pure h₃))) fun _ _ x=>x)
 first
  | exact wpAny_pure (IE fin)
  | exact IE (wpAny_pure (IE fin))
  | exact IE fin
def rG{X:Cx}{pins:List (Addr × Obj)}{σ:St}{H:Hp}{s:Shared}{a:Addr}{y:V}{o:Option V}(I:Inv X pins σ H s)(g:fz H a y o):s.TypeIs (.ref a) "dict":=by
 rcases g with⟨kvs,k,e,_,_⟩ | ⟨kvs,k,b,e,_,_,_⟩
 ·obtain⟨_,_,vs,_,dd⟩:=ox I.hok e
  exact dd.typeIs
 ·obtain⟨_,_,xs,_,dd⟩:=qT I.hok e
  exact dd.typeIs
def Fs(td ty:TE):TE:=fun σ H Q=>td σ H fun x H1=>ty σ H1 fun y H2=>∃ a v,x=.ref a∧fz H2 a y (some v)∧Q v H2
def Ip(ty td:TE):TE:=fun σ H Q=>ty σ H fun y H1=>td σ H1 fun x H2=>∃ a o,x=.ref a∧fz H2 a y o∧Q (.bl o.isSome) H2
def Bl(ty td:TE):TE:=fun σ H Q=>ty σ H fun y H1=>td σ H1 fun x H2=>∃ a o,x=.ref a∧fz H2 a y o∧Q (.bl (!o.isSome)) H2
def Fl(td ty tv:TE):TS:=fun D σ H=>tv σ H fun v H1=>td σ H1 fun x H2=>ty σ H2 fun y H3=>∃ a H4,x=.ref a∧jN H3 a y v H4∧D.nx σ H4
section
variable {X:Cx}{o i e value:Expr}{pos pos' tpos:Pos}{td ty tv:TE}
def fh(hu:X.A.units+1<cLine)(ho:PE X o td)(hi:PE X i ty)(hs:GO i):PE X (.Subscript o i pos) (Fs td ty):=by
 intro pins s σ H Q I h
 refine Cz PySem.F.slot_dict_getitem.lookup hs (bM (ho pins s σ H _ I h) fun u s1 ⟨x,H1,I1,rx,q1⟩=>bM (hi pins s1 σ H1 _ I1 q1) fun iv s2 ⟨y,H2,I2,ry,a,v,ex,g,q2⟩=>?_)
 subst ex
 obtain rfl:u=Value.ref a:=rx
 exact⟨rG I2 g,wY hu I2 g ry fun w' s3 I3 rw'=>⟨v,H2,I3,rw',q2⟩⟩
def Dv(hu:X.A.units+1<cLine)(hi:PE X i ty)(ho:PE X o td):PC X .In i o (Ip ty td):=by
 intro pins s σ H Q I h
 refine bM (hi pins s σ H _ I h) fun iv s1 ⟨y,H1,I1,ry,q1⟩=>bM (ho pins s1 σ H1 _ I1 q1) fun u s2 ⟨x,H2,I2,rx,a,ov,ex,g,q2⟩=>?_
 subst ex
 obtain rfl:u=Value.ref a:=rx
 exact IA hu I2 g ry fun s3 I3=>⟨.bl ov.isSome,H2,I3,rfl,q2⟩
def oE(hu:X.A.units+1<cLine)(hi:PE X i ty)(ho:PE X o td):PC X .NotIn i o (Bl ty td):=by
 intro pins s σ H Q I h
 refine bM (hi pins s σ H _ I h) fun iv s1 ⟨y,H1,I1,ry,q1⟩=>bM (ho pins s1 σ H1 _ I1 q1) fun u s2 ⟨x,H2,I2,rx,a,ov,ex,g,q2⟩=>?_
 subst ex
 obtain rfl:u=Value.ref a:=rx
 exact Cj hu I2 g ry fun s3 I3=>⟨.bl (!ov.isSome),H2,I3,rfl,q2⟩
def fX(hu:X.A.units+1<cLine)(ho:PE X o td)(hi:PE X i ty)(hv:PE X value tv)(hs:swapsWith value (some (.Subscript o i pos')) pos.line X.env=pure false) :
  PS X (.Assign [.Subscript o i pos'] value pos) (Fl td ty tv):=by
 intro pins s σ H D I h
 refine wpAny_Assign_Subscript (bM (hv pins s σ H _ I h) fun r s1 ⟨v,H1,I1,rv,q1⟩=>bM (ho pins s1 σ H1 _ I1 q1) fun u s2 ⟨x,H2,I2,rx,q2⟩=>bM (hi pins s2 σ H2 _ I2 q2) fun iv s3 ⟨y,H3,I3,ry,a,H4,ex,g,q3⟩=>?_) hs
 subst ex
 obtain rfl:u=Value.ref a:=rx
 exact xb hu I3 g ry rv fun s4 I4=>⟨σ,H4,I4,q3⟩
end
def Ai{P:Program}{w:World}{H:Hp}(h:Heap)(hb:sysModules<h.objs.size):bJ P w H (h.push { cls:=.type "dict",data:=.dict #[] }) h.objs.size (.dK []) :=
 ⟨IU _,J0.mpr (Jg (IS hb)),[],.nil,Heap.DictOf.new h⟩
def zA{P:Program}{w:World}{H:Hp}(h:Heap)(hb:sysModules<h.objs.size):bJ P w H (h.push { cls:=.type "dict",data:=.dict #[] }) h.objs.size (.dT []) :=
 ⟨IU _,J0.mpr (Jg (IS hb)),[],.nil,_,#[],0,IQ _ rfl,⟨rfl,rfl,rfl⟩,rfl,rfl,List.nodup_nil⟩
def Et:TE:=fun _ H Q=>∀ p,H p=none→Q (.ref p) (upd H p (.dK []))
section
variable {X:Cx}{pos:Pos}
def gx:PE X (.Dict [] [] pos) Et:=fun pins s σ H Q I h =>
 wpAny_Dict_empty ⟨.ref s.heap.objs.size,_,I.laid (a:=s.heap.objs.size) (o:=.dK []) (t':=s.toks) (fun _ _ q=>IF _ q) (II _) (Ai s.heap I.big),rfl,h _ (I.hok.fresh (II _))⟩
end
structure M1(X:Cx)(o:Expr)(m:Str)(apos:Pos)(e:Expr)(cpos:Pos):Prop where
 base:attributeBase o m X.env (eval o X.env)=eval o X.env
 i9:((backTo cpos (starEach [e] X.env)).all (fun x=>!x.1)&&(backToKw cpos (keywordEach [] X.env)).all (fun x=>x.1.isSome)
  && decide (([e]:List Expr).length+([]:List Keyword).length+(if ([]:List Keyword).isEmpty then 0 else 1)<30))=true
 line:(apos.endLine==cpos.line)=true
 trees:backTo cpos (starEach [e] X.env)=[(false,eval e X.env)]
structure M2(X:Cx)(o:Expr)(m:Str)(apos:Pos)(e f:Expr)(cpos:Pos):Prop where
 base:attributeBase o m X.env (eval o X.env)=eval o X.env
 i9:((backTo cpos (starEach [e,f] X.env)).all (fun x=>!x.1)&&(backToKw cpos (keywordEach [] X.env)).all (fun x=>x.1.isSome)
  && decide (([e,f]:List Expr).length+([]:List Keyword).length+(if ([]:List Keyword).isEmpty then 0 else 1)<30))=true
 line:(apos.endLine==cpos.line)=true
 trees:backTo cpos (starEach [e,f] X.env)=[(false,eval e X.env),(false,eval f X.env)]
section
variable {X:Cx}{pins:List (Addr × Obj)}{σ:St}{H:Hp}{s:Shared}{a:Addr}{y d:V}{u r:Value}{o:Option V}{A:Around}{E:Value→Shared→Prop}
end
section
variable {X:Cx}{o e f:Expr}{apos cpos:Pos}{td ty tx:TE}
end
section
variable {X:Cx}{pins:List (Addr × Obj)}{σ:St}{H:Hp}{s:Shared}{a:Addr}{kvs:List (Key × V)}{A:Around}{E:Value→Shared→Prop}
end
section
variable {X:Cx}{pins:List (Addr × Obj)}{σ:St}{H:Hp}{s:Shared}{a:Addr}{y:V}{u:Value}{A:Around}{E:Value→Shared→Prop}
end
end L2
namespace Att
open PySem PySem.W PySem.Calls PyProof.Rows
def kQ{P:Params}{h:Heap}:∀ (ns:List Int) (vs:List Value),WellAll P h vs (ns.map WData.int)→IntsAre vs ns:=by
 intro ns
 induction ns with
 | nil =>
  intro vs w
  rw [MV] at w
  cases w
  exact .nil
 | cons n ns ih =>
  intro vs w
  rw [JG] at w
  cases w with
  | cons a b =>
   cases a
   exact .cons _ _ (ih _ b)
def xj{l:OpenLaw}{n:Nat}(hn:l.most=some n){P:Params}{h:Heap}{args:List WData}{vals:List Value}
  (hpre:l.row.toRowW.claim.pre args=true) (hwl:WellAll P h vals args) :
  ∃ a vs ns,vals=[Value.ref a]∧args=[WData.list (ns.map WData.int)]∧h.get? a=some { cls:=.type "list",data:=.seq vs.toArray }∧IntsAre vs ns∧ns.length≤n:=by
 have hsh:WShape.hasAll [] args [.list .int]=true:=(pre_splitW hpre).1
 have hc:l.pre.holds [] { args:=args }=true:=(pre_splitW hpre).2
 obtain⟨d,r,rfl,h1,h2⟩:=hasAllW_cons hsh
 obtain rfl:=hasAllW_nil h2
 obtain⟨xs,rfl,h3⟩:=hasW_list h1
 obtain⟨ns,rfl⟩:=items_int h3
 have hlen:ns.length≤n:=by
  unfold OpenLaw.pre at hc
  have h4:(WTm.not (.lt (.lit (.int (n:Int))) (.len (.arg 0)))).holds [] { args:=[.list (ns.map .int)] }=true:=by
   have h4:=(holds_andW hc).1
   rw [hn] at h4
   exact h4
  have h5:=condW_of h4 (w_not (w_lt w_lit (w_len_list (w_arg rfl))))
  rw [List.length_map] at h5
  refine Nat.le_of_not_lt fun q=>?_
  have q':(n:Int)<((ns.length:Nat):Int):=by lia
  first
   | (rw [IL q'] at h5;exact absurd h5 (by decide))
   | (simp at h5;lia)
 cases hwl with
 | cons w1 w2 =>
  cases w2
  cases w1 with
  | list ho hall=>exact⟨_,_,ns,rfl,rfl,ho,kQ ns _ hall,hlen⟩
def xk(l:OpenLaw)(args:List WData):l.row.toRowW.claim.post args (.bool true) args=true :=
 postW_of (r:=l.row.toRowW) (X:=(true==true))
  (show WShape.has [] (.bool true) .bool=true by first | rfl | decide | simp [WShape.has,WShape.arms,WShape.armsAll])
  (show(WTm.eq .res (.lit (.bool true))).value [] { args:=args,res:=some (.bool true),after:=args }=some (.bool (true==true)) from w_eq_bool (w_res rfl) w_lit) rfl
def rH{l:OpenLaw}{n:Nat}{q:Program}{loose:List Str}{XP:(Str→Option Value)→Heap→Prop}{YP:World→Heap→Prop}{d:DefRec}
  (hn:l.most=some n) (hdf:d.params.defaults=[])
  (call:∀ (w:World) (s₀ s₁:Shared) (mg mb:Str→Option Value) (fa:Addr) (o:Obj) (pm cd doc:Value) (a:Addr) (vs:List Value) (ns:List Int),
   Ground q loose [] XP w s₀ mg mb s₁.heap→YP w s₁.heap →
   s₁.heap.get? fa=some o→o.data=.func (docDef d.name d.params d.body d.scope pm cd doc)→s₁.heap.CodeRec cd d.name→mg d.name=some (.ref fa) →
   s₁.heap.get? a=some { cls:=.type "list",data:=.seq vs.toArray }→IntsAre vs ns→ns.length≤n→s₁.gens = #[] →
   codeAny (model l.prog w) callerA (.call (.ref fa) ⟨[.ref a],[]⟩) (fun r s'=>r=.ok (.ret (.bool true))∧OldK s₁.heap s'.heap∧s'.os=s₁.os∧AllBare s'.gens) s₁) :
  WalkO q loose XP YP l.row.toRowW d [] (fun f vs=>PySem.call f vs):=by
 intro w s₀ s₁ mg mb G Y fa o pm cd doc dV kV ho hd hcd hD hmg hg args vals as hpre hlay hrd hwl hlo
 obtain rfl:dV=.none:=Dflts.none hD hdf
 obtain rfl:kV=.none:=Dflts.noKw hD
 obtain⟨a,vs,ns,rfl,rfl,hobj,hints,hlen⟩:=xj hn hpre hwl
 refine enter_call (LP (call w s₀ s₁ mg mb fa o pm cd doc a vs ns G Y ho (fd_plain hd) hcd hmg hobj hints hlen hg) fun r s' hq=>?_)
 obtain⟨rfl,h2,h3,h4⟩:=hq
 exact⟨.inl ⟨.bool true,.bool true,[],rfl,fun _=>rfl,.bool true,xk l _,fun _=>⟨List.Pairwise.nil,fun _ hm=>(nomatch hm)⟩⟩,h2,h3,h4⟩
section
variable {prog:Program}{w:World}{A:Around}{E:Value→Shared→Prop}{s:Shared}{K:Frag}
end
end Att
namespace L2
open PySem PySem.Spec PyProof.Rows
theorem oY:∀ {vs:List Value} {ns:List Int},IntsAre vs ns→Vals (ns.map V.int) vs
 | _,_,.nil=>.nil
 | _,_,.cons n t h=>.cons ⟨t,rfl⟩ (oY h)
def Ef(H:Hp):Prop:=∀ b,H b=none∨∃ o xs,H b=some (.frz o (.lst xs))
def AF{P:Program}{w:World}{K:PySem.W.Frag}{mg mb:Str→Option Value}{CX:Ab}{k:Nat}{fa a:Addr}{fd:FuncData}{x:Str}{sp:Sp}{s₁:Shared}{vs:List Value}{ns:List Int}
  (KX:K.In s₁.heap) (hns:s₁.heap.Ns mainGlobals mg) (hb:s₁.heap.Ns builtinsNs mb) (hbb:∀ x:Str,x≠"__name__"→mb x=bootBuiltins x) (hlim:s₁.heap.NoLimit) (hg:s₁.gens = #[])
  (ha:s₁.heap.get? a=some { cls:=.type "list",data:=.seq vs.toArray }) (hi:IntsAre vs ns) (hl:ns.length≤sizeLine) (hr:cw k callerA)
  (F:∀ base:Heap,K.In base→base.Ns mainGlobals mg→bo P w K mg base CX k fa fd [x] sp) (hbind:∀ (s:Shared) (u:Value),BindsTo s fd ⟨[u],[]⟩ [(x,u)])
  (hsp:∀ H:Hp,Ef H→aA K H a (ns.map V.int)→sp [.ref a] H (fun v _=>v=.bl true) fun _ _ _=>False)
  (hCX:∀ H e s',CX [] H s₁ (fun _ _ _=>False) e s'→False) :
  codeAny (model P w) callerA (.call (.ref fa) ⟨[.ref a],[]⟩) (fun r s'=>r=.ok (.ret (.bool true))∧OldK s₁.heap s'.heap∧s'.os=s₁.os∧AllBare s'.gens) s₁:=by
 have rv:=oY hi
 have lenV:=hi.length
 have core:∀ H:Hp,Ef H→aA K H a (ns.map V.int)→jt P w H s₁.heap→(∀ b,H b≠none→b=a)→(H a≠none→K.lookup a=none) →
   codeAny (model P w) callerA (.call (.ref fa) ⟨[.ref a],[]⟩) (fun r s'=>r=.ok (.ret (.bool true))∧OldK s₁.heap s'.heap∧s'.os=s₁.os∧AllBare s'.gens) s₁:=by
  intro H hO hS hok hA hK
  have base_of:∀ {b:Addr} {o:Obj},s₁.heap.get? b=some o→H b=none→(ql s₁.heap H).get? b=some o:=fun e n=>zZ e n
  have noA:∀ {b:Addr} {o:Obj} {es:Array DictEntry} {ep:Nat},s₁.heap.get? b=some o→o.data=.dict es ep→H b=none:=fun {b o es ep} e d=>by
   cases q:H b with
   | none=>rfl
   | some u =>
    have e':b=a:=hA b (by rw [q];simp)
    subst e'
    rw [ha] at e;cases e
    have d':Data.seq vs.toArray _=Data.dict es ep:=d
    cases d'
  have nsK:∀ {b:Addr} {m:Str→Option Value},s₁.heap.Ns b m→(ql s₁.heap H).Ns b m:=fun {b m} ⟨o,es,ep,e,d,r⟩=>⟨o,es,ep,base_of e (noA e d),d,r⟩
  have hKb:K.In (ql s₁.heap H):=fun b o e=>base_of (KX b o e) (by
   cases q:H b with
   | none=>rfl
   | some u =>
    have e':b=a:=hA b (by rw [q];simp)
    subst e'
    rw [hK (by rw [q];simp)] at e;cases e)
  have hM:Mod K mg (ql s₁.heap H):=⟨hKb,nsK hns,⟨mb,nsK hb,hbb⟩,let ⟨mc,h1,h2⟩:=hlim;⟨mc,nsK h1,h2⟩⟩
  have e0:tN P w K mg (ql s₁.heap H) callerA [] s₁ H:=⟨rfl,hM,fun b o e=>BE e,MT (xD _ _),trivial,fun b hb=>absurd (show b∈([]:List Addr) from hb) (by simp),hok,.of_eq hg⟩
  refine LP ((F _ hKb (nsK hns)).run callerA [] s₁ H ⟨[.ref a],[]⟩ [.ref a] [.ref a] _ _ hr e0 (hbind s₁ (.ref a)) (.cons rfl .nil) (hsp H hO hS)) fun r s' h=>?_
  cases r with
  | error e=>exact(hCX H e s' h).elim
  | ok fl =>
   cases fl with
   | next=>exact False.elim h
   | brk=>exact False.elim h
   | cont=>exact False.elim h
   | ret u =>
    obtain⟨v,H',os,bare,un,hok',r',q⟩:=h
    have q':v=.bl true:=q
    subst q'
    obtain rfl:u=Value.bool true:=r'
    refine⟨rfl,OldK.of_keep fun b o e=>?_,os,bare⟩
    cases q:H b with
    | none=>exact un.keep b o e q (by intro z;exact absurd (show b∈([]:List Addr) from z) (by simp)) (by simp)
    | some u =>
     rcases hO b with z | ⟨ob,xs,z⟩
     ·rw [q] at z;cases z
     ·have z2:=un.frzs b ob _ z
      obtain⟨e1,_⟩:=hok b _ z
      obtain⟨e2,_⟩:=hok' b _ z2
      rw [e] at e1;cases e1
      exact e2
 cases hk:K.lookup a with
 | some o =>
  have e:=KX a o hk
  rw [ha] at e
  cases e
  refine core (fun _=>none) (fun _=>.inl rfl) (.inr ⟨_,vs.toArray,_,hk,rfl,rfl,rfl,by rw [IY,lenV];exact hl,by simpa using rv⟩) (fun b u z=>by have z':(none:Option HO)=some u:=z;cases z') (fun b z=>absurd rfl z) fun z=>absurd rfl z
 | none =>
  refine core (fun b=>if b=a then some (.frz { cls:=.type "list",data:=.seq vs.toArray } (.lst (ns.map V.int))) else none) (fun b=>?_) (.inl (.inr ⟨{ cls:=.type "list",data:=.seq vs.toArray },if_pos rfl⟩)) (fun b u z=>?_) (fun b z=>?_) fun _=>hk
  ·by_cases hb:b=a
   ·exact .inr ⟨_,_,if_pos hb⟩
   ·exact .inl (if_neg hb)
  ·by_cases hb:b=a
   ·have z':=(if_pos hb).symm.trans z
    cases z'
    subst hb
    exact⟨ha,by rw [List.length_map];exact hl,vs,_,rv,ha⟩
   ·have z':=(if_neg hb).symm.trans z
    cases z'
  ·by_cases hb:b=a
   ·exact hb
   ·exact absurd (if_neg hb) z
end L2
namespace L2
open PySem PySem.Spec PyProof.Rows
def A1{l:PySem.W.OpenLaw}{n k:Nat}{q:Program}{loose:List Str}{XP:(Str→Option Value)→Heap→Prop}{YP:World→Heap→Prop}{d:DefRec}{K:Params→PySem.W.Frag}{CX:World→Ab}{sp:World→Sp}{x:Str}
  (hn:l.most=some n) (hn2:n≤sizeLine) (hdf:d.params.defaults=[]) (hr:cw k callerA)
  (hY:∀ (w:World) (h:Heap),YP w h→(K w.params).In h)
  (F:∀ (w:World) (mg:Str→Option Value) (fa:Addr) (h:Heap),(K w.params).In h→h.Ns mainGlobals mg→mg d.name = some (.ref fa) →
   ∃ fd:FuncData,(∀ (s:Shared) (u:Value),BindsTo s fd ⟨[u],[]⟩ [(x,u)]) ∧
    ∀ base:Heap,(K w.params).In base→base.Ns mainGlobals mg→bo l.prog w (K w.params) mg base (CX w) k fa fd [x] (sp w))
  (hsp:∀ (w:World) (H:Hp) (a:Addr) (ns:List Int),ns.length≤n→Ef H→aA (K w.params) H a (ns.map V.int)→sp w [.ref a] H (fun v _=>v=.bl true) fun _ _ _=>False)
  (hCX:∀ (w:World) (H:Hp) (s:Shared) (e:Value) (s':Shared),CX w [] H s (fun _ _ _=>False) e s'→False) :
  PySem.W.WalkO q loose XP YP l.row.toRowW d [] (fun f vs=>PySem.call f vs):=by
 refine Att.rH hn hdf fun w s₀ s₁ mg mb fa o pm cd doc a vs ns G Y ho hd hcd hmg hobj hints hlen hg=>?_
 have KX:=hY w _ Y
 obtain⟨fd,hb,hF⟩:=F w mg fa _ KX G.T.g hmg
 exact AF KX G.T.g G.T.b G.T.builtins G.T.nolimit hg hobj hints (Jf hlen hn2) hr hF hb (fun H hO hS=>hsp w H a ns hlen hO hS) fun H e s'=>hCX w H s₁ e s'
end L2
namespace L2
open PySem PySem.Spec PyProof.Rows
def inClass(s:Stmt)(j:Nat):Stmt:=match s with
 | .ClassDef _ _ _ body _ _ _ _ _ _ _=>body.getD j (.Pass ⟨0,0,0,0⟩)
 | _=>.Pass ⟨0,0,0,0⟩
def fi(s:Stmt):Arguments:=match s with
 | .FunctionDef _ a _ _ _ _ _ _ _ _=>a
 | _=>{ posonlyargs:=[],args:=[],vararg:=none,kwonlyargs:=[],kw_defaults:=[],kwarg:=none,defaults:=[] }
def dN(s:Stmt):List Stmt:=match s with
 | .FunctionDef _ _ b _ _ _ _ _ _ _=>b
 | _=>[]
def au(s:Stmt):Scope:=match s with
 | .FunctionDef _ _ _ _ _ _ sc _ _ _=>sc
 | _=>{ kind:=.function,names:=[],isGenerator:=false,isCoroutine:=false }
abbrev cS:Ab:=fun _ _ _ _ _ _=>False
abbrev E0:XK:=fun _ _ _=>False
def bz{X:Cx}:Passes cS X E0:=fun _ _ _ _ _ _ _ h=>h.elim
structure dv(K:PySem.W.Frag)(x qual:Str)(st:Stmt)(f:Addr)(fd:FuncData):Prop where
 ex:∃ (oc:Value) (od:Option Addr) (kV doc pm:Value) (an:Option Addr) (cdv ct:Value) (osl:Array (Option Value)),
  fd=PySem.W.fnOf x qual (fi st) (dN st) (au st) .none kV doc pm an cdv ct∧K.lookup f=some ⟨oc,od,.func fd,osl⟩∧PySem.W.codeIn K cdv qual=true
 kp:PySem.W.keepIn K (.ref f)=true
def dv.ok{x qual:Str}{st:Stmt}{f:Addr}{fd:FuncData}{N ps:List Str}{k:Nat}{sp:Sp}(F:dv K x qual st f fd)(S:aD N ps (au st))(len:∀ vs H Q E,sp vs H Q E→vs.length=ps.length)
  (hbody:∀ (cdv:Value) (A:Around) (outer:List Env) (s:Shared) (H:Hp) (vs:List V) (Q:VK) (E:XK),cw k (A.deeper (envOfC qual (au st) s.heap.objs.size f cdv))→sp vs H Q E →
   ∃ t,uE (iR cS P w K mg base N qual (au st) f cdv A outer s H E).vG (dN st) t∧t { nx:=fun _ H'=>Q .non H',rt:=Q } (start N vs) H):bo P w K mg base cS (k+1) f fd ps sp:=by
 obtain⟨oc,od,kV,doc,pm,an,cdv,ct,osl,rfl,lk,hcd⟩:=F.ex
 refine Gr lk hcd S len fun A outer s H vs Q E hr hsp=>?_
 obtain⟨t,h,q⟩:=hbody cdv A outer s H vs Q E hr hsp
 exact⟨t,h.vG,q⟩
def dv.oK{x qual:Str}{st:Stmt}{f:Addr}{fd:FuncData}{N ps:List Str}{k:Nat}{sp:Sp}(F:dv K x qual st f fd)(S:aD N ps (au st))
  (hbody:∀ (cdv:Value) (A:Around) (outer:List Env) (s:Shared) (H:Hp) (vs:List V) (Q:VK) (E:XK),cw k (A.deeper (envOfC qual (au st) s.heap.objs.size f cdv))→sp vs H Q E →
   ∃ t,uE (iR cS P w K mg base N qual (au st) f cdv A outer s H E).vG (dN st) t∧t { nx:=fun _ H'=>Q .non H',rt:=Q } (start N vs) H) (len:∀ vs H Q E,sp vs H Q E→vs.length=ps.length:=by intro vs H Q E h;(repeat obtain⟨_,h⟩:=h);subst_vars;rfl):bo P w K mg base cS (k+1) f fd ps sp:=F.ok S len hbody
def dv.binds{x qual:Str}{st:Stmt}{f:Addr}{fd:FuncData}{ps:List Str}(F:dv K x qual st f fd)
  (h:∀ (kV doc pm:Value) (an:Option Addr) (cdv ct:Value) (us:List Value),us.length=ps.length→bindArgs (PySem.W.fnOf x qual (fi st) (dN st) (au st) .none kV doc pm an cdv ct) ⟨us,[]⟩=pure (ps.zip us)):Binds K fd ps []:=by
 obtain⟨oc,od,kV,doc,pm,an,cdv,ct,osl,rfl,lk,hcd⟩:=F.ex
 exact .all (h kV doc pm an cdv ct)
def qr{x qual:Str}{st:Stmt}{f:Addr}{oc:Value}{od an:Option Addr}{osl:Array (Option Value)}{kV doc pm cdv ct:Value}(l:K.lookup f=some ⟨oc,od,.func (PySem.W.fnOf x qual (fi st) (dN st) (au st) .none kV doc pm an cdv ct),osl⟩)
  (c:PySem.W.codeIn K cdv qual=true) (k:PySem.W.keepIn K (.ref f)=true):dv K x qual st f (PySem.W.fnOf x qual (fi st) (dN st) (au st) .none kV doc pm an cdv ct):=⟨⟨oc,od,kV,doc,pm,an,cdv,ct,osl,rfl,l,c⟩,k⟩
def dY{A:Around}{k:Nat}(hr:cw k A):A.units+1<cLine:=Jt (NJ (by decide:1≤64) _) hr.units
def oM{n:Nat}(h:n≤1000):n<sizeLine:=Jt h (by decide)
section
variable {X:Cx}
def pv(i:Nat){x:Str}{pos:Pos}(hN:X.N[i]?=some x:=by rfl)(hv:GX X.env.scope x:=by first | exact Or.inl rfl | exact Or.inr (Or.inl rfl) | exact Or.inr (Or.inr rfl))(hd:(x==("__debug__":Str))=false:=by decide)
  (hcd:(x==("__classdict__":Str))=false:=by decide):PE X (.Name x pos) (GA i):=ED hN hv hd hcd
end
def bB{A B:Prop}(h:B):if false=true then A else B:=by
 rw [if_neg Je]
 exact h
def bF{A B:Prop}(h:A):if true=true then A else B:=by
 rw [if_pos rfl]
 exact h
def AB{c A B:Prop}[Decidable c](h1:c→A)(h2:¬ c→B):if c then A else B:=by
 by_cases h:c
 ·rw [if_pos h]
  exact h1 h
 ·rw [if_neg h]
  exact h2 h
def aq(H H':Hp):Prop:=∀ b o,H b=some o→H' b=some o
def aq.refl(H:Hp):aq H H:=fun _ _ h=>h
def aq.trans{H H1 H2:Hp}(a:aq H H1)(b:aq H1 H2):aq H H2:=fun c o h=>b c o (a c o h)
def aq.free{H H':Hp}(e:aq H H'){l:Addr}(h:H' l=Option.none):H l=Option.none:=by
 cases q:H l with
 | none=>rfl
 | some o =>
  rw [e l o q] at h
  cases h
def aq.seq{K:PySem.W.Frag}{H H':Hp}{a:Addr}{xs:List V}(e:aq H H')(h:aA K H a xs):aA K H' a xs:=by
 rcases h with(h | ⟨o,h⟩) | h
 ·exact .inl (.inl (e _ _ h))
 ·exact .inl (.inr ⟨o,e _ _ h⟩)
 ·exact .inr h
end L2
namespace L2
open PySem PySem.Spec PyProof.Rows
section
variable {X:Cx}
end
section
variable {κ:Type}[DecidableEq κ]
def AS{kvs:List (κ × V)}{k:κ}{v:V}(h:de kvs k=some v):k∈kvs.map (·.1):=by
 have q:(kvs.any fun kv=>decide (kv.1=k))=true:=by
  rw [gD,h]
  all_goals rfl
 obtain⟨p,hp,e⟩:=Kr.mp q
 exact IV.mpr ⟨p,hp,JF e⟩
end
def cB(i:Nat){X:Cx}{N M:List Str}{so:Scope}{x:Str}{e:Expr}{te:TE}{pos pos':Pos}(S:aD N M so)(he:PE X e te)(hN:X.N=N:=by rfl)(hi:X.N[i]?=some x:=by rfl)(hx:Loc X.env.scope x:=by first | exact Or.inl rfl | exact Or.inr rfl)(hs:swapsWith e (some (.Name x pos')) pos.line X.env=pure false:=by rfl)(hf:X.fn x=true∨X.env.scope.names.lookup x=some .local:=by first | exact .inl rfl | exact .inr rfl | assumption) :
  PS X (.Assign [.Name x pos'] e pos) (B1 te (ij i)):=EO (by rw [hN];exact S.nd) hi hx he hs hf
def dX(i:Nat){X:Cx}{N M:List Str}{so:Scope}{x:Str}{p:Pos}(S:aD N M so)(hN:X.N=N:=by rfl)(hi:X.N[i]?=some x:=by rfl)(hx:Loc X.env.scope x:=by first | exact Or.inl rfl | exact Or.inr rfl)(hf:X.fn x=true∨X.env.scope.names.lookup x=some .local:=by first | exact .inl rfl | exact .inr rfl | assumption):PG X (.Name x p) (ij i):=ve (by rw [hN];exact S.nd) hi hx hf
end L2
end
section
namespace L2
open PySem PySem.Spec PyProof.Rows
def iQ(env:Env):List (Str × NameKind)→List (Str × Addr)→List (Str × Addr)
 | [],cs=>cs
 | (n,k)::r,cs=>iQ env r (if k==.free then(n,(env.cells.lookup n).getD 0)::cs else cs)
theorem lY{env:Env}:∀ (names:List (Str × NameKind)) (cs:List (Str × Addr)),(∀ x∈names,x.2=.free→∃ c,env.cells.lookup x.1=some c) →
  (forIn (m:=Sem) names cs fun x r=>if (x.2==NameKind.free)=true then do let a ← cellOf env x.1;pure (ForInStep.yield ((x.1,a)::r)) else pure (ForInStep.yield r))=pure (iQ env names cs)
 | [],cs,_=>rfl
 | (n,k)::r,cs,h=>by
  have hr:=fun cs'=>lY (env:=env) r cs' fun x hx=>h x (List.mem_cons_of_mem _ hx)
  rw [Ky]
  by_cases hk:k=.free
  ·subst hk
   obtain⟨c,hc⟩:=h (n,.free) List.mem_cons_self rfl
   have e1:cellOf env n=pure c:=by unfold cellOf;rw [hc]
   simp only [beq_self_eq_true,L0,e1,pure_bind,hr,iQ,hc,Option.getD_some]
  ·have hb:(k==NameKind.free)=false:=by simpa using hk
   simp only [hb,Jy,Km,pure_bind,hr,iQ]
def my{env:Env}{sc:Scope}(h:∀ x∈sc.names,x.2=.free→∃ c,env.cells.lookup x.1=some c):closureFor sc env=pure (iQ env sc.names []):=by
 unfold closureFor
 have e:=lY (env:=env) sc.names [] h
 simp only [bind_pure]
 exact e
theorem cI{env:Env}:∀ (names:List (Str × NameKind)) (cs:List (Str × Addr)),(∀ x∈names,x.2=.free→∃ c,env.cells.lookup x.1=some c) →
  (∀ x c,cs.lookup x=some c→env.cells.lookup x=some c)→∀ x c,(iQ env names cs).lookup x=some c→env.cells.lookup x=some c
 | [],cs,_,h=>h
 | (n,k)::r,cs,hf,h=>by
  intro x c e
  unfold iQ at e
  refine cI r _ (fun y hy=>hf y (List.mem_cons_of_mem _ hy)) ?_ x c e
  intro y d q
  by_cases hk:(k==NameKind.free)=true
  ·rw [if_pos hk] at q
   obtain⟨c',hc'⟩:=hf (n,k) List.mem_cons_self (by simpa using hk)
   have hc':env.cells.lookup n=some c':=hc'
   rw [Ks] at q
   by_cases hy:y=n
   ·subst hy
    simp only [beq_self_eq_true] at q
    rw [hc'] at q ⊢
    exact q
   ·have:(y==n)=false:=by simpa using hy
    rw [this] at q
    exact h y d q
  ·rw [if_neg hk] at q
   exact h y d q
theorem m8{env:Env}{x:Str}:∀ (names:List (Str × NameKind)) (cs:List (Str × Addr)),(∃ c,cs.lookup x=some c)→∃ c,(iQ env names cs).lookup x=some c
 | [],cs,h=>h
 | (n,k)::r,cs,h=>by
  unfold iQ
  refine m8 r _ ?_
  by_cases hk:(k==NameKind.free)=true
  ·rw [if_pos hk,Ks]
   cases hy:x==n with
   | true=>exact⟨_,rfl⟩
   | false=>exact h
  ·rw [if_neg hk];exact h
theorem nk{env:Env}{x:Str}:∀ (names:List (Str × NameKind)) (cs:List (Str × Addr)),(x,NameKind.free)∈names→∃ c,(iQ env names cs).lookup x=some c
 | [],cs,h=>by simp at h
 | (n,k)::r,cs,h=>by
  unfold iQ
  rcases IP.mp h with e | h
  ·cases e
   refine m8 r _ ?_
   rw [if_pos (by rfl),Ks]
   simp
  ·exact nk r _ h
theorem fu{env:Env}:∀ {names:List (Str × NameKind)} {x:Str} {k:NameKind},
  (names.map fun (n,k)=>if (k == NameKind.free && env.scope.kind == .function && env.kindOf n == some .cell) then (n,NameKind.cell) else (n,k)).lookup x = some k →
   ∃ k',(x,k')∈names∧(k=k'∨(k=.cell∧k'=.free))
 | [],_,_,h=>by simp at h
 | (n,k₀)::r,x,k,h=>by
  rw [JG] at h
  by_cases hc:(k₀==NameKind.free&&env.scope.kind==.function&&env.kindOf n==some .cell)=true
  ·simp only [hc,L0,Ks] at h
   cases hx:x==n with
   | true =>
    rw [hx] at h
    have:x=n:=by simpa using hx
    subst this
    have hf:k₀=.free:=by
     have h1:=(Jn.mp (Jn.mp hc).1).1
     simpa using h1
    subst hf
    cases h
    exact⟨_,List.mem_cons_self,.inr ⟨rfl,rfl⟩⟩
   | false =>
    rw [hx] at h
    obtain⟨k',m,q⟩:=fu (env:=env) h
    exact⟨k',List.mem_cons_of_mem _ m,q⟩
  ·simp only [if_neg hc,Ks] at h
   cases hx:x==n with
   | true =>
    rw [hx] at h
    have:x=n:=by simpa using hx
    subst this
    cases h
    exact⟨_,List.mem_cons_self,.inl rfl⟩
   | false =>
    rw [hx] at h
    obtain⟨k',m,q⟩:=fu (env:=env) h
    exact⟨k',List.mem_cons_of_mem _ m,q⟩
theorem da{env:Env}:∀ {names:List (Str × NameKind)} {x:Str},names.lookup x=some .free →
  (names.map fun(n,k)=>if (k==NameKind.free&&env.scope.kind==.function&&env.kindOf n==some .cell) then(n,NameKind.cell) else(n,k)).lookup x=some .cell ∨
  (names.map fun(n,k)=>if (k==NameKind.free&&env.scope.kind==.function&&env.kindOf n==some .cell) then(n,NameKind.cell) else(n,k)).lookup x=some .free
 | [],_,h=>by simp at h
 | (n,k₀)::r,x,h=>by
  rw [JG]
  rw [Ks] at h
  by_cases hc:(k₀==NameKind.free&&env.scope.kind==.function&&env.kindOf n==some .cell)=true
  ·simp only [hc,L0,Ks]
   cases hx:x==n with
   | true=>exact .inl rfl
   | false=>rw [hx] at h;exact da (env:=env) h
  ·simp only [if_neg hc,Ks]
   cases hx:x==n with
   | true=>rw [hx] at h;exact .inr h
   | false=>rw [hx] at h;exact da (env:=env) h
structure BX where
 C:Addr
 s:Shared
 H:Hp
 fp:List Addr
abbrev iK(X:Cx)(sc:Scope)(N:List Str)(z:BX):Cx :=
  { prog:=X.prog,w:=X.w,K:=X.K,mg:=X.mg,base:=X.base,A:=X.A,N:=N,s₀:=z.s,H₀:=z.H,env:=compEnvC sc (iQ X.env sc.names []) z.C X.env,outer:=X.stack,stack:=X.stack,ex:=z.fp,fn:=fun _=>false,
    calm:=X.calm,pn:=[],xe:=fun _ _=>False }
structure cM(X:Cx)(N:List Str)(n:Nat)(ci:List Nat)(sc:Scope):Prop where
 kind:sc.kind=.function
 nocell:∀ y∈sc.names,y.2≠.cell
 loc:∀ y∈sc.names,y.2=.local→sc.names.lookup y.1=some .local
 fr:∀ y∈sc.names,y.2=.free→X.env.scope.names.lookup y.1=some .cell∨X.env.scope.names.lookup y.1=some .free
 len:N.length=n+ci.length
 caps:∀ (j i:Nat),ci[j]?=some i→∃ x,N[n+j]?=some x∧X.N[i]?=some x∧sc.names.lookup x=some NameKind.free
def sR(n:Nat)(ci:List Nat)(σ:St):St:=List.replicate n none++ci.map fun i=>(σ[i]?).getD none
def va(n:Nat)(ci:List Nat)(σ:St):(sR n ci σ).length=n+ci.length:=by simp [sR]
section
variable {X:Cx}{N:List Str}{n:Nat}{ci:List Nat}{sc:Scope}{pins:List (Addr × Obj)}{σ:St}{H:Hp}{s:Shared}{fp:List Addr}
def cM.nV(S:cM X N n ci sc)(ok:X.Ok):∀ x∈sc.names,x.2=.free→∃ c,X.env.cells.lookup x.1=some c:=fun x hx hf=>ok.has x.1 (S.fr x hx hf)
def tL(S:cM X N n ci sc)(I:Inv X pins σ H s)(hf:∀ b∈fp,iE X pins H b)(ho:∀ b∈fp,∃ o,s.heap.get? b=some o):(iK X sc N ⟨s.heap.objs.size,s,H,fp⟩).Ok where
 mod:=I.ok.mod
 kind:=S.kind
 glob:=I.ok.glob
 blt:=I.ok.blt
 above:=II _
 inj:=fun x y c h1 h2=>I.ok.inj x y c (cI _ _ (S.nV I.ok) (by simp) x c h1) (cI _ _ (S.nV I.ok) (by simp) y c h2)
 has:=fun x hx=>by
  have key:∀ k,(relabel sc X.env).names.lookup x=some k→(k=.cell∨k=.free)→∃ c,(iQ X.env sc.names []).lookup x=some c:=fun k hk hkk=>by
   obtain⟨k',m,q⟩:=fu hk
   have hfree:k'=.free:=by
    rcases q with rfl | ⟨_,q⟩
    ·rcases hkk with e | e
     ·exact absurd e (S.nocell _ m)
     ·exact e
    ·exact q
   subst hfree
   exact nk _ _ m
  rcases hx with hx | hx
  ·exact key _ hx (.inl rfl)
  ·exact key _ hx (.inr rfl)
 cab:=fun x c h=>by cases h
 hd:=fun h=>I.ok.hd h
 frames:=I.ok.frames
 stk:=.inl rfl
 exf:=fun b hb=>by
  obtain⟨o,e⟩:=ho b hb
  refine⟨IS (IJ e),fun x c h=>?_⟩
  exact(hf b hb).2.2.2.2.1 x c (cI _ _ (S.nV I.ok) (by simp) x c h)
 bs:=I.bs
 bsz:=Jf I.ok.bsz I.sz
 noex:=fun b o e hb=>by
  rcases(hf b hb).2.2.2.1 with z | z
  ·exact I.ok.noex b o e z
  ·exact absurd (IW (IJ e) (Jf I.ok.bsz z)) (JC _)
 exfs:=fun b hb z=>by
  obtain⟨_,f1,f2,_⟩:=hf b hb
  rcases IP.mp (I.tZ b z) with e | e
  ·exact f1 e
  ·exact f2 e
 j9:=I.stack
 frf:=I.wj
def rZ{h':Heap}{m:Str→Option Value}{C:Addr}(S:cM X N n ci sc)(I:Inv X pins σ H s)(hk:∀ x c v,X.env.cells.lookup x=some c→s.heap.IsCell c v→h'.IsCell c v)
  (i:Nat) (x:Str) (v:V) (e1:N[i]?=some x) (e2:(sR n ci σ)[i]?=some (some v)):∃ u,RelV v u∧Look (compEnvC sc (iQ X.env sc.names []) C X.env) h' m x u:=by
 have hi:n≤i:=by
  by_cases hi:i<n
  ·unfold sR at e2
   rw [Jx (by simpa using hi),Ld,if_pos hi] at e2
   cases e2
  ·lia
 obtain⟨j,rfl⟩:=L3 hi
 have e2':(ci.map fun i=>(σ[i]?).getD none)[j]?=some (some v):=by
  unfold sR at e2
  rw [JW (by simp)] at e2
  simpa using e2
 rw [List.getElem?_map] at e2'
 cases ej:ci[j]? with
 | none=>rw [ej] at e2';cases e2'
 | some k =>
  rw [ej] at e2'
  obtain⟨y,c1,c2,c3⟩:=S.caps j k ej
  rw [c1] at e1
  cases e1
  have ev:σ[k]?=some (some v):=by
   cases q:σ[k]? with
   | none=>simp [q] at e2'
   | some w=>simp [q] at e2';rw [e2']
  obtain⟨m0,_,hl⟩:=I.loc
  have c4:(x,NameKind.free)∈sc.names:=Kz c3
  have kf:=S.fr _ c4 rfl
  have vis:GX X.env.scope x:=.inr kf
  obtain⟨u,ru,lk⟩:=hl k x v c2 ev vis
  refine⟨u,ru,.inr ⟨da (env:=X.env) c3,?_⟩⟩
  rcases lk with⟨l1,_⟩ | ⟨_,c,hc,hcell⟩
  ·rcases kf with kf | kf <;> (rw [show X.env.kindOf x=_ from kf] at l1;cases l1)
  ·obtain⟨c',hc'⟩:=nk (env:=X.env) sc.names [] c4
   have:=cI _ _ (S.nV I.ok) (by simp) x c' hc'
   rw [hc] at this
   cases this
   exact⟨c,hc',hk x c _ hc hcell⟩
def oA{h':Heap}{t':Nat}{m:Str→Option Value}(S:cM X N n ci sc)(I:Inv X pins σ H s)(hf:∀ b∈fp,iE X pins H b)(ho:∀ b∈fp,∃ o,s.heap.get? b=some o)
  (hk:∀ b o,s.heap.get? b=some o→h'.get? b=some o) (hn:h'.Ns s.heap.objs.size m):Inv (iK X sc N ⟨s.heap.objs.size,s,H,fp⟩) [] (sR n ci σ) H { s with heap:=h',toks:=t' } where
 ok:=tL S I hf ho
 os:=rfl
 bare:=I.bare
 base:=Un.kept hk
 loc:=⟨m,hn,fun i x v e1 e2 _=>rZ S I (fun x c v _ ⟨o,e,d⟩=>⟨o,hk _ _ e,d⟩) i x v e1 e2⟩
 cell:=fun x c e=>by
  obtain⟨v,o,e1,d⟩:=I.cell x c (cI _ _ (S.nV I.ok) (by simp) x c e)
  exact⟨v,o,hk _ _ e1,d⟩
 free:=I.hok.fresh (II _)
 freeC:=fun x c e=>I.freeC x c (cI _ _ (S.nV I.ok) (by simp) x c e)
 pin:=fun p hp=>absurd hp (by simp)
 hok:=I.hok.kept hk
 len:=by rw [va];exact S.len.symm
def qG{H':Hp}{s':Shared}{σ':St}{pins':List (Addr × Obj)}(S:cM X N n ci sc)(I:Inv X pins σ H s)(hf:∀ b∈fp,iE X pins H b)
  (J:Inv (iK X sc N ⟨s.heap.objs.size,s,H,fp⟩) pins' σ' H' s'):Inv (iK X sc N ⟨s.heap.objs.size,s,H,fp⟩) pins' (sR n ci σ) H' s' where
 ok:=J.ok
 os:=J.os
 bare:=J.bare
 base:=J.base
 loc:=by
  obtain⟨m,hn,_⟩:=J.loc
  refine⟨m,hn,fun i x v e1 e2 _=>rZ S I (fun x c v e ⟨o,ho,d⟩=>?_) i x v e1 e2⟩
  have nf:c∉fp:=fun z=>(hf c z).2.2.2.2.1 x c e rfl
  obtain⟨sl,q⟩:=J.base.any ho (I.freeC x c e) nf
  exact⟨_,q,d⟩
 cell:=J.cell
 free:=J.free
 freeC:=J.freeC
 pin:=J.pin
 hok:=J.hok
 len:=by rw [va];exact S.len.symm
end
section
variable {prog:Program}{w:World}{A:Around}{R:Result→Shared→Prop}{s:Shared}
def nZ{elt target iter:Expr}{ifs:List Expr}{scope:Scope}{pos:Pos}{it acc:Value}{env:Env}(I:Nat→Shared→Prop)
  (turn:∀ n s,I n s→wpAny (model prog w) A (pyNext it) (fun r s₁=>match r with
   | none=>R (.ok .next) s₁
   | some v=>wpAny (model prog w) A (letOwnedTupleGo target it v) (fun _ s₀=>wpAny (model prog w) A (assign target env v) (fun _ s₂ =>
     wpAny (model prog w) A (forIn ifs true fun c r=>if r=true then do let ok ← isTrue c env (eval c env);pure (ForInStep.yield ok) else pure (ForInStep.yield r)) (fun ok s₃ =>
      if ok=true then wpAny (model prog w) A (eval elt env) (fun x s₄ =>
       wpAny (model prog w) A (call (.builtin "list.append") [acc,x]) (fun _ s₅=>∃ m,m<n∧I m s₅) (fun _ _=>False) s₄) (fun _ _=>False) s₃
      else ∃ m,m<n∧I m s₃) (fun _ _=>False) s₂) (fun _ _=>False) s₀) (fun _ _=>False) s₁) (fun _ _=>False) s)
  (n:Nat) (h:I n s) :
  codeAny (model prog w) A (.compLoop (.ListComp elt [⟨target,iter,ifs,0⟩] scope pos) 0 it acc env) R s:=by
 refine codeAny_loop rfl I (fun n s hI=>?_) n h
 show wpAny _ A ((compTurn (.ListComp elt [⟨target,iter,ifs,0⟩] scope pos) 0 it acc env).onRaise (fun x=>do noteFrame x env;theTreesLotGoes x)) _ _ s
 refine wpAny_noted ?_
 rw [compTurn_list]
 refine IE (ML (IE (Kf (turn n s hI) (fun r s₁ h₁=>?_) fun _ _ h'=>h'.elim)))
 cases r with
 | none=>exact wpAny_pure h₁
 | some v =>
  refine IE (Kf h₁ (fun _ s₀ h₀=>?_) fun _ _ h'=>h'.elim)
  refine IE (Kf h₀ (fun _ s₂ h₂=>IE (Kf h₂ (fun ok s₃ h₃=>?_) fun _ _ h'=>h'.elim)) fun _ _ h'=>h'.elim)
  cases ok with
  | false=>exact wpAny_pure ⟨rfl,h₃⟩
  | true =>
   exact IE (IE (Kf h₃ (fun x s₄ h₄=>IE (Kf h₄ (fun _ s₅ h₅=>wpAny_pure (wpAny_pure ⟨rfl,h₅⟩)) fun _ _ h'=>h'.elim)) fun _ _ h'=>h'.elim))
end
def FD(X:Cx)(ifs:List Expr)(t:TT):Prop :=
 ∀ (pins:List (Addr × Obj)) (s:Shared) (σ:St) (H:Hp) (Q:Bool→Hp→Prop),Inv X pins σ H s→t σ H Q →
  wpAny (model X.prog X.w) X.A (forIn ifs true fun c r=>if r=true then do let ok ← isTrue c X.env (eval c X.env);pure (ForInStep.yield ok) else pure (ForInStep.yield r)) (TP X pins σ Q) X.xe s
def HA:TT:=fun _ H Q=>Q true H
def bV{X:Cx}:FD X [] HA:=fun pins s σ H Q I h=>wpAny_tests_nil ⟨H,I,h⟩
def fg{X:Cx}{c:Expr}{t:TT}(h:PT X c t):FD X [c] t:=fun pins s σ H Q I hq=>wpAny_tests_one (h pins s σ H Q I hq)
def gY(n:Nat)(ci:List Nat)(J:It)(g:TG)(tt:TT)(te:TE)(σ:St)(H1:Hp)(D:Addr)(Q:VK):Prop :=
 ∃ (M:Nat) (W:Nat→List V→Hp→Prop),W 0 [] (upd H1 D (.lst []))∧∀ i ys H,i≤M→W i ys H →
  (J.stop i H∧Q (.ref D) H)∨(i < M∧J.go i H∧∀ x H',J.yld i H x H'→g x (sR n ci σ) H' fun σ2 H2=>tt σ2 H2 fun b H3 =>
   if b=true then te σ2 H3 fun y H4=>H4 D=some (.lst ys)∧ys.length<sizeLine∧W (i+1) (ys++[y]) (upd H4 D (.lst (ys++[y])))
   else W (i+1) ys H3)
def CO(n:Nat)(ci:List Nat)(wi:TI)(g:BX→TG)(tt:BX→TT)(te:BX→TE):TE:=fun σ H Q=>wi σ H fun J H1=>∀ (z:BX) (D:Addr),H1 D=none→gY n ci J (g z) (tt z) (te z) σ H1 D Q
section
variable {X:Cx}{N:List Str}{n:Nat}{ci:List Nat}{sc:Scope}
def m5{pins:List (Addr × Obj)}{σ σ':St}{H H':Hp}{s s':Shared}{fp:List Addr}{h':Heap}(I:Inv X pins σ H s)(hf:∀ b∈fp,iE X pins H b)
  (J:Inv (iK X sc N ⟨s.heap.objs.size,s,H,fp⟩) [] σ' H' s') (hs:Heap.SameBut s.heap.objs.size s'.heap h'):Inv X pins σ H' { s' with heap:=h' }:=by
 have up:∀ b o,b≠s.heap.objs.size→s'.heap.get? b=some o→h'.get? b=some o:=fun b o hb e=>(hs.2 b hb).trans e
 have lt:∀ b o,s.heap.get? b=some o→b≠s.heap.objs.size:=fun b o e=>IS (IJ e)
 have u0:=J.base
 have un:Un (kL X.stack) fp H H' s.heap h':=by
  refine⟨fun b o e n hb hx=>up b o (lt b o e) (u0.keep b o e n hb hx),fun b o e n hb hx=>?_,fun b o e n hx=>u0.free b o e n hx,fun b o e hx=>?_,u0.dh,u0.frzs,u0.tbls⟩
  ·obtain⟨sl,q⟩:=u0.slot b o e n hb hx
   exact⟨sl,up b _ (lt b o e) q⟩
  ·obtain⟨o',q⟩:=u0.there b o e hx
   exact⟨o',up b _ (lt b o e) q⟩
 have fr:H' s.heap.objs.size=none:=J.free
 have hok:jt X.prog X.w H' h':=fun b u e=>by
  refine(J.hok b u e).pX (fun c v hc q=>up c v ?_ q) (fun _ q=>q) fun _ _ q=>q
  rintro rfl
  rcases hc with hc | hc
  ·rw [← hc,fr] at e;cases e
  ·rw [fr] at hc;cases hc
 refine I.Fj (s':={ s' with heap:=h' }) (ch:=fp) J.os un hok J.bare fun b hb=>?_
 obtain⟨_,f1,_,f3,f4,f5⟩:=hf b hb
 exact⟨f3,f1,f4,f5⟩
def sQ{elt tg iter:Expr}{ifs:List Expr}{pos:Pos}{g:BX→TG}{tt:BX→TT}{te:BX→TE}{z:BX}{it D:Addr}{fp:List Addr}{tn:Nat→Heap→Prop}{J:It}{σ0:St}{H4:Hp}{s4:Shared}{Q:VK}{R:Result→Shared→Prop}{W:Nat→List V→Hp→Prop}{M:Nat}
  (hc:X.calm=true) (T:Turn X.prog X.w X.K tg J fp it tn) (bg:PG (iK X sc N z) tg (g z)) (bt:FD (iK X sc N z) ifs (tt z)) (be:PE (iK X sc N z) elt (te z))
  (keep:∀ {pins:List (Addr × Obj)} {σ':St} {H':Hp} {s':Shared},Inv (iK X sc N z) pins σ' H' s'→Inv (iK X sc N z) pins σ0 H' s')
  (stat:∀ {H':Hp},(∀ b∈fp,H' b=none)→∀ b∈fp,iE (iK X sc N z) [] H' b)
  (I4:Inv (iK X sc N z) [] σ0 H4 s4) (st4:tn 0 s4.heap) (fr4:∀ b∈fp,H4 b=none) (w0:W 0 [] H4)
  (turn:∀ i ys H,i≤M→W i ys H→(J.stop i H∧Q (.ref D) H)∨(i < M∧J.go i H∧∀ x H',J.yld i H x H'→g z x σ0 H' fun σ2 H2=>tt z σ2 H2 fun b H3 =>
   if b=true then te z σ2 H3 fun y H4=>H4 D=some (.lst ys)∧ys.length<sizeLine∧W (i+1) (ys++[y]) (upd H4 D (.lst (ys++[y])))
   else W (i+1) ys H3))
  (hR:∀ σ' H' s',Inv (iK X sc N z) [] σ' H' s'→Q (.ref D) H'→R (.ok .next) s') :
  codeAny (model X.prog X.w) X.A (.compLoop (.ListComp elt [⟨tg,iter,ifs,0⟩] sc pos) 0 (.ref it) (.ref D) (iK X sc N z).env) R s4:=by
 refine nZ (fun n s'=>∃ i ys H',n=M-i∧i≤M∧Inv (iK X sc N z) [] σ0 H' s'∧tn i s'.heap∧(∀ b∈fp,H' b=none)∧W i ys H') ?_ M ⟨0,[],H4,rfl,IU _,I4,st4,fr4,w0⟩
 rintro n s3 ⟨i,ys,H3,rfl,hiM,I3,st3,fr3,w3⟩
 rcases turn i ys H3 hiM w3 with⟨stop,qn⟩ | ⟨hlt,go,step⟩
 ·refine bM (T.done (iK X sc N z) rfl rfl rfl hc i [] s3 σ0 H3 (fun _ _=>False) I3 (stat fr3) st3 stop) fun r s4 ⟨hr,I4⟩=>?_
  subst hr
  exact hR σ0 H3 s4 I4 qn
 ·refine bM (T.item (iK X sc N z) rfl rfl rfl hc i [] s3 σ0 H3 (fun _ _=>False) I3 (stat fr3) st3 go) fun r s4 ⟨u,hr,h4⟩=>?_
  subst hr
  refine bM h4 fun _ s5 ⟨x,H5,I5,r5,y5,st5,fr5⟩=>?_
  have I5':=I5.pinned (stat fr5) (T.obj _ _ st5)
  refine bM (bg _ s5 σ0 H5 x u _ I5' r5 (step x H5 y5)) fun _ s6 ⟨σ6,H6,I6,q6⟩=>?_
  refine bM (bt _ s6 σ6 H6 _ I6 q6) fun b s7 ⟨H7,I7,q7⟩=>?_
  have again:∀ {ys':List V} {H8:Hp} {s8:Shared},Inv (iK X sc N z) ([]++mC fp s5.heap) σ6 H8 s8→W (i+1) ys' H8→∃ m,m<M-i∧∃ i ys H',m=M-i∧i≤M∧Inv (iK X sc N z) [] σ0 H' s8∧tn i s8.heap∧(∀ b∈fp,H' b=none)∧W i ys H':=fun {ys' H8 s8} I8 w8=>by
   refine⟨M-(i+1),by lia,i+1,ys',H8,rfl,hlt,keep I8.jO,T.keep _ _ _ st5 fun b hb o e=>(I8.pin (b,o) (Js _ (Js _ (gS hb e)))).1,fun b hb=>?_,w8⟩
   obtain⟨o,e,d⟩:=T.obj _ _ st5 b hb
   exact(I8.pin (b,o) (Js _ (Js _ (gS hb e)))).2.1
  cases b with
  | false =>
   rw [if_neg (by decide)]
   rw [if_neg (by decide)] at q7
   exact again I7 q7
  | true =>
   rw [if_pos rfl]
   rw [if_pos rfl] at q7
   refine bM (be _ s7 σ6 H7 _ I7 q7) fun yu s8 ⟨y,H8,I8,r8,hD,hz,q8⟩=>?_
   exact bM (aV _ s8 σ6 H8 (.ref D) [y] (.ref D) [yu] (fun _ H9=>H9=upd H8 D (.lst (ys++[y]))) I8 rfl (.cons r8 .nil) ⟨D,ys,y,rfl,rfl,hD,hz,rfl⟩) fun _ s9 ⟨_,H9,I9,_,e9⟩=>by
    subst e9
    exact again I9 q8
def bN{elt tg iter:Expr}{ifs:List Expr}{pos:Pos}{wi:TI}{g:BX→TG}{tt:BX→TT}{te:BX→TE}(hc:X.calm=true)(hi:PI X tg iter wi)(S:cM X N n ci sc)
  (hb:∀ z:BX,PG (iK X sc N z) tg (g z)∧FD (iK X sc N z) ifs (tt z)∧PE (iK X sc N z) elt (te z))
  (hs:∀ x,foldedSetIterable iter X.env x=pure x:=by intro _;rfl):PE X (.ListComp elt [⟨tg,iter,ifs,0⟩] sc pos) (CO n ci wi g tt te):=by
 intro pins s σ H Q I h
 rw [eval_ListComp]
 refine MW (use:=none) rfl hs (my (S.nV I.ok)) S.kind S.loc (bM (hi pins s σ H _ I h) fun v s1 h1=>bM h1 fun itv s2 h2=>?_)
 obtain⟨it,fp,tn,J,H2,e,I2,T,st2,f2,rd⟩:=h2
 subst e
 refine Kd (wpAny_newFunctionEnv S.nocell (by intro y hy;simp at hy) (fun h₁ hns₁ hsb₁=>?_) S.kind)
 dsimp only at hns₁ hsb₁ ⊢
 have hD:H2 s2.heap.objs.size=none:=I2.hok.fresh (II _)
 have I3:Inv X pins σ (upd H2 s2.heap.objs.size (.lst [])) { s2 with heap:=s2.heap.push { cls:=.type "list",data:=.seq ([]:List Value).toArray } }:=I2.Eh (t':=s2.toks) (ys:=[]) (its:=[]) .nil (IU _)
 have ob2:∀ b∈fp,∃ o,s2.heap.get? b=some o:=fun b hb=>let ⟨o,e,_⟩:=T.obj _ _ st2 b hb;⟨o,e⟩
 have neD:∀ b∈fp,b≠s2.heap.objs.size:=fun b hb=>let ⟨o,e⟩:=ob2 b hb;IS (IJ e)
 have f3:∀ b∈fp,iE X pins (upd H2 s2.heap.objs.size (.lst [])) b:=fun b hb=>⟨by rw [ah (neD b hb)];exact(f2 b hb).1,(f2 b hb).2⟩
 have ob3:∀ b∈fp,∃ o,(s2.heap.push { cls:=.type "list",data:=.seq ([]:List Value).toArray }).get? b=some o:=fun b hb=>let ⟨o,e⟩:=ob2 b hb;⟨o,IF _ e⟩
 have k3:∀ b o,(s2.heap.push { cls:=.type "list",data:=.seq ([]:List Value).toArray }).get? b=some o→h₁.get? b=some o:=fun b o e =>
  hsb₁.extBut b o (IS (IJ e)) (IF _ e)
 have I4:Inv (iK X sc N ⟨_,{ s2 with heap:=s2.heap.push { cls:=.type "list",data:=.seq ([]:List Value).toArray } },upd H2 s2.heap.objs.size (.lst []),fp⟩) [] (sR n ci σ) (upd H2 s2.heap.objs.size (.lst []))
   { s2 with heap:=h₁,toks:=s2.toks+([]:List (Str × Value)).length }:=oA (s:={ s2 with heap:=s2.heap.push { cls:=.type "list",data:=.seq ([]:List Value).toArray } }) S I3 f3 ob3 k3 hns₁
 have st4:tn 0 h₁:=T.keep _ _ _ st2 fun b hb o e=>k3 b o (IF _ e)
 obtain⟨M,W,w0,turn⟩:=rd ⟨_,{ s2 with heap:=s2.heap.push { cls:=.type "list",data:=.seq ([]:List Value).toArray } },upd H2 s2.heap.objs.size (.lst []),fp⟩ s2.heap.objs.size hD
 obtain⟨bg,bt,be⟩:=hb ⟨_,{ s2 with heap:=s2.heap.push { cls:=.type "list",data:=.seq ([]:List Value).toArray } },upd H2 s2.heap.objs.size (.lst []),fp⟩
 have ok3:=tL S I3 f3 ob3
 have stat:∀ {H':Hp},(∀ b∈fp,H' b=none)→∀ b∈fp,iE (iK X sc N ⟨_,{ s2 with heap:=s2.heap.push { cls:=.type "list",data:=.seq ([]:List Value).toArray } },upd H2 s2.heap.objs.size (.lst []),fp⟩) [] H' b:=fun hn b hb=>by
  obtain⟨_,f1,f2',_,f4,_⟩:=f3 b hb
  refine⟨hn b hb,?_,ok3.exfs b hb,.inl hb,fun x c e=>?_,fun p hp=>absurd hp (by simp)⟩
  ·exact IS (let ⟨o,e⟩:=ob3 b hb;IJ e)
  ·exact f4 x c (cI _ _ (S.nV I3.ok) (by simp) x c e)
 have loop:codeAny (model X.prog X.w) X.A (.compLoop (.ListComp elt [⟨tg,iter,ifs,0⟩] sc pos) 0 (.ref it) (.ref s2.heap.objs.size) (compEnvC sc (iQ X.env sc.names []) (s2.heap.push { cls:=.type "list",data:=.seq ([]:List Value).toArray }).objs.size X.env))
   (compPost (model X.prog X.w) X.A X.xe none (EP X pins σ Q) (.ref s2.heap.objs.size) (s2.heap.push { cls:=.type "list",data:=.seq ([]:List Value).toArray }).objs.size) { s2 with heap:=h₁,toks:=s2.toks+([]:List (Str × Value)).length }:=by
  refine sQ (W:=W) (M:=M) (σ0:=sR n ci σ) (Q:=Q) hc T bg bt be (fun {pins' σ' H' s'} J'=>?_) stat I4 st4 (fun b hb=>(f3 b hb).1) w0 turn fun σ' H' s' J' q=>?_
  ·exact qG S I3 f3 J'
  ·obtain⟨m',hn',_⟩:=J'.loc
   refine⟨m',hn',fun h' hs'=>?_⟩
   exact⟨.ref s2.heap.objs.size,H',m5 (s:={ s2 with heap:=s2.heap.push { cls:=.type "list",data:=.seq ([]:List Value).toArray } }) I3 f3 J' hs',rfl,q⟩
 exact codeAny_compStart_list loop (T.self _ 0 _ _ _ st4 loop)
end
structure HM(so:Scope)(N0 N:List Str)(n:Nat)(ci:List Nat)(sc:Scope):Prop where
 kind:sc.kind=.function
 nocell:∀ y∈sc.names,y.2≠.cell
 loc:∀ y∈sc.names,y.2=.local→sc.names.lookup y.1=some .local
 fr:∀ y∈sc.names,y.2=.free→so.names.lookup y.1=some .cell∨so.names.lookup y.1=some .free
 len:N.length=n+ci.length
 caps:N.drop n=ci.map fun i=>N0.getD i ⟨#[]⟩
 ins:∀ i∈ci,i<N0.length
 kL:∀ x∈N.drop n,sc.names.lookup x=some .free
def HM.of{X:Cx}{so sc:Scope}{N0 N:List Str}{n:Nat}{ci:List Nat}(h:HM so N0 N n ci sc)(e1:X.env.scope=so:=by rfl)(e2:X.N=N0:=by rfl):cM X N n ci sc where
 kind:=h.kind
 nocell:=h.nocell
 loc:=h.loc
 fr:=fun y hy hf=>by rw [e1];exact h.fr y hy hf
 len:=h.len
 caps:=fun j i e=>by
  have hm:i∈ci:=IK e
  have hi:=h.ins i hm
  have q:(N.drop n)[j]?=some (N0.getD i ⟨#[]⟩):=by rw [h.caps,List.getElem?_map,e];rfl
  refine⟨N0.getD i ⟨#[]⟩,?_,?_,?_⟩
  ·rw [List.getElem?_drop] at q;exact q
  ·rw [e2,List.getD_eq_getElem?_getD,IG hi];rfl
  ·exact h.kL _ (IK q)
def j6{X:Cx}{so sc:Scope}{N0 N M:List Str}{n:Nat}{ci:List Nat}(S:aD N0 M so)(h:HM so N0 N n ci sc:=by exact⟨rfl,by decide +kernel,by decide +kernel,by decide +kernel,rfl,rfl,by decide +kernel,by decide +kernel⟩)(e1:X.env.scope=so:=by rfl)(e2:X.N=N0:=by rfl):cM X N n ci sc:=h.of e1 e2
def jg(i:Nat){X:Cx}{sc:Scope}{N:List Str}{z:BX}{x:Str}{p:Pos}(hn:N.Nodup:=by decide +kernel)(hi:N[i]?=some x:=by rfl)(hx:Loc (iK X sc N z).env.scope x:=by exact Or.inl rfl)(hf:(iK X sc N z).fn x=true∨(iK X sc N z).env.scope.names.lookup x=some .local:=by first | exact .inl rfl | exact .inr rfl | assumption):PG (iK X sc N z) (.Name x p) (ij i):=ve (X:=iK X sc N z) (i:=i) hn hi hx hf
end L2
end
section
namespace UfSet
open PySem
def dO(w:World):Bool:=w.params.followText "set-order"
abbrev eQ(w:World):List Str→List (Int × Value)→Prop:=Paired fun k e=>e.1=hashStr w k∧∃ tk,e.2=.str k tk
def c9(w:World)(h:Heap)(a:Addr)(ks:List Str):Prop :=
 ∃ o es ep t ks',h.get? a=some o∧o.ExactSet∧o.data=.set es ep t∧eQ w ks' es.toList∧ks'.Perm ks∧ks.Nodup ∧
  es.size<scanBound∧t.fits es.size=true∧(t.plain=true→es.size=0)∧t.led = !dO w
theorem eQ.elems{prog:Program}{w:World}:∀ {ks:List Str} {es:List (Int × Value)},eQ w ks es→ElemsOf (strKind prog w) es
 | _,_,.nil=>fun e he=>by simp at he
 | _,_,.cons (a:=k) (b:=e) h t=>fun x hx=>by
  rcases IP.mp hx with rfl | hx
  ·obtain⟨h1,tk,h2⟩:=h
   refine⟨⟨k,?_,h1⟩,?_⟩
   ·show Value.isStrOf k x.2=true
    rw [h2];simp [Value.isStrOf]
   ·rw [h2];rfl
  ·exact eQ.elems (prog:=prog) t x hx
theorem eQ.mem{w:World}{k:Str}:∀ {ks:List Str} {es:List (Int × Value)},eQ w ks es→(k∈ks↔∃ e∈es,Value.isStrOf k e.2=true)
 | _,_,.nil=>by simp
 | _,_,.cons (a:=j) (b:=e) h t=>by
  obtain⟨h1,tk,h2⟩:=h
  have ih:=eQ.mem (k:=k) t
  have hd:Value.isStrOf k e.2=true↔k=j:=by
   rw [h2]
   constructor
   ·intro q
    obtain⟨u,hu⟩:=Value.isStrOf_shape q
    injection hu with hx _
    exact hx.symm
   ·rintro rfl;simp [Value.isStrOf]
  rw [IP,ih]
  constructor
  ·rintro(q | ⟨x,hx,q⟩)
   ·exact⟨e,List.mem_cons_self,hd.mpr q⟩
   ·exact⟨x,List.mem_cons_of_mem _ hx,q⟩
  ·rintro⟨x,hx,q⟩
   rcases IP.mp hx with rfl | hx
   ·exact .inl (hd.mp q)
   ·exact .inr ⟨x,hx,q⟩
def eQ.perm{w:World}{es es':List (Int × Value)}(p:List.Perm es' es):∀ {ks:List Str},eQ w ks es→∃ ks',eQ w ks' es'∧ks'.Perm ks:=by
 have back:∀ {es es':List (Int × Value)},List.Perm es es'→∀ {ks:List Str},eQ w ks es→∃ ks',eQ w ks' es'∧ks'.Perm ks:=by
  intro es es' p
  induction p with
  | nil=>intro ks h;exact⟨ks,h,.refl _⟩
  | cons x _ ih =>
   intro ks h
   cases h with
   | cons h t =>
    obtain⟨ks',h',q⟩:=ih t
    exact⟨_::ks',.cons h h',q.cons _⟩
  | swap x y l =>
   intro ks h
   cases h with
   | cons h t =>
    cases t with
    | cons h2 t=>exact⟨_,.cons h2 (.cons h t),.swap _ _ _⟩
  | trans _ _ ih1 ih2 =>
   intro ks h
   obtain⟨k1,h1,q1⟩:=ih1 h
   obtain⟨k2,h2,q2⟩:=ih2 h1
   exact⟨k2,h2,q2.trans q1⟩
 intro ks h
 exact back p.symm h
theorem eQ.snoc{w:World}{k:Str}{tk:Tok}:∀ {ks:List Str} {es:List (Int × Value)},eQ w ks es→eQ w (ks++[k]) (es++[(hashStr w k,Value.str k tk)])
 | _,_,.nil=>.cons ⟨rfl,tk,rfl⟩ .nil
 | _,_,.cons h t=>.cons h (eQ.snoc t)
def eQ.len{w:World}{ks:List Str}{es:List (Int × Value)}(h:eQ w ks es):ks.length=es.length:=IX h
def tS(t:SetTable)(es:Array (Int × Value))(h:Int)(x:Value):(layNew t es h x).2.1.led=t.led:=by
 unfold layNew
 split
 ·show(SetTable.orStandIn _ _).led=_
  unfold SetTable.orStandIn
  split <;> rfl
 ·rfl
def qB(t:SetTable)(es:Array (Int × Value))(h:Int)(x:Value):(layNew t es h x).2.1.plain=true→t.plain=true:=by
 unfold layNew
 split
 ·show(SetTable.orStandIn _ _).plain=true→_
  unfold SetTable.orStandIn
  split
  ·exact id
  ·intro q;cases q
 ·intro q;cases q
def qh(t:SetTable)(es:Array (Int × Value))(n:Nat):(relayAll t es n).2.1.led=t.led:=by
 unfold relayAll
 split
 ·rename_i t' order hr
  dsimp only
  split
  ·unfold SetTable.relaid SetTable.laid at hr
   simp only [NK,Na] at hr
   obtain⟨ow,_,hr⟩:=hr
   cases hr
   rfl
  ·rfl
 ·rfl
def mG(t:SetTable)(es:Array (Int × Value))(n:Nat):(relayAll t es n).2.1.plain=true→t.plain=true:=by
 unfold relayAll
 split
 ·rename_i t' order hr
  dsimp only
  split
  ·unfold SetTable.relaid SetTable.laid at hr
   simp only [NK,Na] at hr
   obtain⟨ow,_,hr⟩:=hr
   cases hr
   exact id
  ·intro q;cases q
 ·intro q;cases q
def yN{h:Heap}{a:Addr}{o:Obj}{es es':Array (Int × Value)}{ep:Nat}{t t':SetTable}(ho:h.get? a=some o)(hd:o.data=.set es ep t) :
  (h.update a (Obj.putSet es' t')).get? a=some { o with data:=.set es' (ep+1) t' }:=by
 have q:=JL (Obj.putSet es' t') ho (by rw [putSet_of es' t' hd];rfl)
 rw [putSet_of es' t' hd] at q
 exact q
def vA{g:Bool→Sem Unit}(hg:∀ (b:Bool) (s₁:Shared) (Q':Unit→Shared→Prop),Q' () s₁→wpAny (model prog w) A (g b) Q' E s₁){a:Addr}{o:Obj}{es es1:Array (Int × Value)}{ep:Nat}{t t2:SetTable}
  {ks ks1:List Str} {dm:Bool} {R:Option Bool→Shared→Prop} (ho:s.heap.get? a=some o) (hex:o.ExactSet) (hd:o.data=.set es ep t) (he:eQ w ks1 es1.toList) (hp:ks1.Perm ks) (hn:ks.Nodup)
  (hb:es1.size<scanBound) (hf:t2.fits es1.size=true) (hpl:t2.plain=false) (hle:t2.led = !dO w)
  (h:∀ h',Heap.SameBut a s.heap h'→c9 w h' a ks→R (some true) { s with heap:=h' }) :
  wpAny (model prog w) A (do
    storeSet a es1 t2
    if (!dm&&t2.tooFull)=true then do
      g (relayAll t2 es1 (SetTable.grown es1.size)).2.2
      storeSet a (relayAll t2 es1 (SetTable.grown es1.size)).1 (relayAll t2 es1 (SetTable.grown es1.size)).2.1
      pure (some true)
     else pure (some true)) R E s:=by
 refine IE (wpAny_storeSet_of ho hd ?_ (L5 hb))
 have ho1:=yN (es':=es1) (t':=t2) ho hd
 have sb1:=JN s.heap a (Obj.putSet es1 t2)
 by_cases hc:(!dm&&t2.tooFull)=true
 ·rw [if_pos hc]
  have q1:=relayAll_perm t2 es1 (SetTable.grown es1.size)
  have q2:=relayAll_fits t2 es1 (SetTable.grown es1.size)
  have q3:=qh t2 es1 (SetTable.grown es1.size)
  have q4:=mG t2 es1 (SetTable.grown es1.size)
  generalize relayAll t2 es1 (SetTable.grown es1.size)=L at q1 q2 q3 q4 ⊢
  obtain⟨es2,t3,gave⟩:=L
  dsimp only at q1 q2 q3 q4 ⊢
  have zs:es2.size=es1.size:=by rw [← JR,q1.length_eq,JR]
  refine IE (hg _ _ _ ?_)
  refine IE (wpAny_storeSet_of ho1 rfl ?_ (L5 (by rw [zs];exact hb)))
  have ho2:=yN (es':=es2) (t':=t3) ho1 rfl
  obtain⟨ks2,e2,p2⟩:=he.perm q1
  refine wpAny_pure (h _ (sb1.trans (JN _ a _)) ⟨_,es2,ep+1+1,t3,ks2,ho2,hex,rfl,e2,p2.trans hp,hn,by rw [zs];exact hb,q2,fun z=>?_,q3.trans hle⟩)
  rw [hpl] at q4
  exact absurd (q4 z) Je
 ·rw [if_neg hc]
  exact wpAny_pure (h _ sb1 ⟨_,es1,ep+1,t2,ks1,ho1,hex,rfl,he,hp,hn,hb,hf,fun z=>(by rw [hpl] at z;cases z),hle⟩)
def dZ(ks:List Str)(k:Str):List Str:=if k∈ks then ks else ks++[k]
def gN{ks:List Str}{k:Str}(h:ks.Nodup):(dZ ks k).Nodup:=by
 unfold dZ
 split
 ·exact h
 ·rename_i q
  refine JT.mpr ⟨h,by simp,fun a ha b hb=>?_⟩
  have:b=k:=by simpa using hb
  subst this
  rintro rfl
  exact q ha
def kO(ks:List Str)(k:Str):(dZ ks k).length≤ks.length+1:=by
 unfold dZ
 split
 ·lia
 ·simp
def uJ{a:Addr}{ks:List Str}{k:Str}{tk:Tok}{Q:Bool→Shared→Prop}(hS:c9 w s.heap a ks)(hroom:ks.length+1<scanBound)
  (h:∀ (h':Heap) (b:Bool),Heap.SameBut a s.heap h'→c9 w h' a (dZ ks k)→Q b { s with heap:=h' }):wpAny (model prog w) A (setAddHashed a (.str k tk) (hashStr w k)) Q E s:=by
 obtain⟨o,es,ep,t,ks',ho,hex,hd,he,hp,hn,hb,hf,hpl,hle⟩:=hS
 have hel:ElemsOf (strKind prog w) es.toList:=he.elems
 have hkey:(strKind prog w).is k (.str k tk)=true:=by simp [strKind,Value.isStrOf]
 have hsc:(Value.str k tk).scannable=true:=rfl
 have szl:es.size=ks.length:=by rw [← hp.length_eq,he.len,JR]
 unfold setAddHashed setAddHashedIn
 refine JI (IE (K2 ho hd hf ?_))
 dsimp only
 rw [byScan_of hsc hb hel]
 simp only [↓reduceIte]
 unfold setAddByScan
 refine IE ?_
 refine IE (Kl ?_)
 refine IE (wpAny_setScan_of (knd:=strKind prog w) hkey ho hd hf hel ?_)
 cases hr:List.findIdx? (fun e=>(strKind prog w).is k e.2) es.toList with
 | some j =>
  dsimp only
  obtain⟨hj,hpj,_⟩:=List.findIdx?_eq_some_iff_getElem.mp hr
  have hin:k∈ks:=hp.mem_iff.mp (he.mem.mpr ⟨es.toList[j],KC hj,hpj⟩)
  refine wpAny_pure (wpAny_pure ?_)
  have e:s={ s with heap:=s.heap }:=by cases s;rfl
  rw [e]
  refine h s.heap _ (Heap.SameBut.refl a s.heap) ?_
  unfold dZ
  rw [if_pos hin]
  exact⟨o,es,ep,t,ks',ho,hex,hd,he,hp,hn,hb,hf,hpl,hle⟩
 | none =>
  dsimp only
  have hout:¬ k∈ks:=fun z=>by
   obtain⟨e,he',q⟩:=he.mem.mp (hp.mem_iff.mpr z)
   have:=List.findIdx?_eq_none_iff.mp hr e he'
   rw [show(strKind prog w).is k e.2=Value.isStrOf k e.2 from rfl,q] at this
   cases this
  have gw:∀ (b:Bool) {s₁:Shared} {Q':Unit→Shared→Prop},Q' () s₁→wpAny (model prog w) A (match b with | true=>rule "set.scan.the-table-gave-way" | false=>pure ()) Q' E s₁:=fun b s₁ Q' hq=>by
   cases b with
   | true=>exact Kl hq
   | false=>exact wpAny_pure hq
  have q1:=layNew_perm t es (hashStr w k) (.str k tk)
  have q2:=layNew_fits t es (hashStr w k) (.str k tk)
  have q3:=tS t es (hashStr w k) (.str k tk)
  have q4:=qB t es (hashStr w k) (.str k tk)
  have hsame:(strKind prog w).hash k=hashStr w k:=rfl
  generalize layNew t es (hashStr w k) (.str k tk)=L at q1 q2 q3 q4 ⊢
  obtain⟨es1,t1,dm,gave⟩:=L
  dsimp only at q1 q2 q3 q4 ⊢
  rw [K3] at q1
  obtain⟨ks1,e1,p1⟩:=(he.snoc (k:=k) (tk:=tk)).perm q1
  have p2:ks1.Perm (dZ ks k):=by
   unfold dZ
   rw [if_neg hout]
   exact p1.trans (hp.append_right _)
  have z1:es1.size=ks.length+1:=by rw [← JR,← e1.len,p1.length_eq,List.length_append,hp.length_eq];rfl
  have b1:es1.size<scanBound:=by rw [z1];exact hroom
  refine IE (gw _ ?_)
  by_cases hpt:t1.plain=true
  ·rw [if_pos hpt]
   refine IE ?_
   rw [hashByValue_scannable 8 hsc]
   refine wpAny_pure ?_
   refine vA (o:=o) (ks:=dZ ks k) ?_ ho hex hd e1 p2 (gN hn) b1 ?_ ?_ ?_ ?_
   ·intro b s₁ Q' hq;exact gw b hq
   ·exact SetTable.fits_plain_off q2
   ·rfl
   ·exact q3.trans hle
   ·intro h' sb hS';dsimp only;exact wpAny_pure (h h' _ sb hS')
  ·rw [if_neg hpt]
   refine IE (wpAny_pure ?_)
   simp only [↓reduceIte]
   refine vA (o:=o) (ks:=dZ ks k) ?_ ho hex hd e1 p2 (gN hn) b1 q2 (by simpa using hpt) (q3.trans hle) ?_
   ·intro b s₁ Q' hq;exact gw b hq
   ·intro h' sb hS';dsimp only;exact wpAny_pure (h h' _ sb hS')
end UfSet
end
section
namespace UfSet
open PySem
def cJ:Slot "set_iterator" "__next__" "set_iterator.__next__" :=
 .of (owner:="set_iterator") (n:="__next__") (by rw [Lh,Ku];kernel_rfl) (by decide +kernel) (by decide +kernel) (by decide +kernel)
  (by first | exact .inl (by decide +kernel) | exact .inr (by decide +kernel)) (by rw [Mw];kernel_rfl)
def jz:Slot "set_iterator" "__iter__" "set_iterator.__iter__" :=
 .of (owner:="set_iterator") (n:="__iter__") (by rw [Lh,Ku];kernel_rfl) (by decide +kernel) (by decide +kernel) (by decide +kernel)
  (by first | exact .inl (by decide +kernel) | exact .inr (by decide +kernel)) (by rw [Mw];kernel_rfl)
def iY:entryFor table "set_iterator.__next__"=some Builtin.«set_iterator.__next__»:=entryFor_of_fast (by kernel_rfl)
def nY:entryFor table "set_iterator.__iter__"=some Builtin.«dict_keyiterator.__iter__» :=
 entryFor_alias (id' := "dict_keyiterator.__iter__") (by kernel_rfl) rfl (by decide +kernel) (by kernel_rfl)
def jJ(a:Value):argsOk "set_iterator.__next__" ⟨[a],[]⟩:=by unfold argsOk;kernel_rfl
def pN(a:Value):argsOk "set_iterator.__iter__" ⟨[a],[]⟩:=by unfold argsOk;kernel_rfl
def qi:entryFor table "set.__iter__"=some Builtin.«frozenset.__iter__» :=
 entryFor_alias (id' := "frozenset.__iter__") (by kernel_rfl) rfl (by decide +kernel) (by kernel_rfl)
end UfSet
end
section
namespace UfSet
open PySem
theorem jk{α:Type}:∀ (xs:List α) (i:Nat) (h:i<xs.length),(xs[i]::xs.eraseIdx i).Perm xs
 | [],i,h=>absurd h (by simp)
 | x::xs,0,h=>.refl _
 | x::xs,i+1,h=>by
  have ih:=jk xs i (by simpa using h)
  show((xs[i]'(by simpa using h))::x::xs.eraseIdx i).Perm (x::xs)
  exact(List.Perm.swap _ _ _).trans (ih.cons x)
def dF(a:Addr)(n ep:Nat)(first:Value)(i:Nat):Obj:={ cls:=.type "set_iterator",data:=.fields #[first,.int i 0,.ref a,.int n 0,.int ep 0] }
def sU{src:Source}{n:Nat}{Q:Nat→Shared→Prop}(hn:n≠0)(h:∀ x d,x<n→Q x { s with drawn:=d }):wpAny (model prog w) A (choose src n) Q E s:=by
 intro Γ p _
 show Sem.wp _ Γ (.choose src n .pure) _ _ p s
 rw [Sem.wp_choose]
 refine⟨hn,?_⟩
 simp only [Sem.wp_pure]
 exact h _ _ (Nat.mod_lt _ (Nat.pos_of_ne_zero hn))
theorem sG{α:Type}:∀ (n:Nat) (xs:List α) (s:Shared) {Q:List α→Shared→Prop},xs.length=n→(∀ ys d,ys.Perm xs→Q ys { s with drawn:=d })→wpAny (model prog w) A (drawOrder n xs) Q E s
 | 0,xs,s,Q,hl,h=>by
  have:xs=[]:=Kh hl
  subst this
  exact wpAny_pure (h [] s.drawn (.refl _))
 | n+1,[],s,Q,hl,h=>by simp at hl
 | n+1,x::xs,s,Q,hl,h=>by
  show wpAny _ _ (choose .order (x::xs).length >>= fun i=>match (x::xs)[i]? with | some y=>(do return y::(← drawOrder n ((x::xs).eraseIdx i))) | none=>unsupported "internal:drawOrder") _ _ s
  refine IE (sU (by simp) fun i d hi=>?_)
  have e:(x::xs)[i]?=some (x::xs)[i]:=IG hi
  rw [e]
  dsimp only
  refine IE (sG n _ _ (by rw [Nx,if_pos hi];lia) fun ys d' p=>wpAny_pure ?_)
  exact h _ d' ((p.cons _).trans (jk _ _ hi))
def mf{it a:Addr}{n ep i:Nat}{first:Value}{x:Value}{Q:Option Value→Shared→Prop}(ho:s.heap.get? it=some (dF a n ep first i))
  (h:wpAny (model prog w) A.in1 (Builtin.«set_iterator.__next__» ⟨[.ref it],[]⟩) (fun fin s'=>fin=.done (.ret x)∧Q (some x) s') (fun _ _=>False) s):wpAny (model prog w) A (pyNext (.ref it)) Q E s:=by
 have hT:s.TypeIs (.ref it) "set_iterator":=⟨_,ho,rfl⟩
 unfold pyNext
 refine IE (NF (Nb (name:=Str.ofString "__next__") hT cJ (Kj cJ hT iY ?_ (jJ _))))
 refine Kf h (fun fin s' hq=>?_) fun _ _ z=>z.elim
 obtain⟨rfl,hq⟩:=hq
 exact⟨x,rfl,wpAny_pure hq⟩
def fk{h:Heap}{it a:Addr}{n ep i:Nat}{first:Value}{k:Nat}{x:Value}(ho:h.get? it=some (dF a n ep first i)) :
  (h.update it (Obj.mapFields (·.setIfInBounds k x))).get? it=some { dF a n ep first i with data:=.fields ((#[first,.int i 0,.ref a,.int n 0,.int ep 0]:Array Value).setIfInBounds k x) } :=
 JL _ ho rfl
def pJ{it a:Addr}{n ep i:Nat}{first:Value}{Q:Option Value→Shared→Prop}(hh:A.handled=none)(ho:s.heap.get? it=some (dF a n ep first i))
  (h:∀ {Q' : Fin→Shared→Prop} {E' : Value→Shared→Prop},(∀ h',Heap.SameBut it s.heap h'→wpAny (model prog w) A.in1 (do raiseNew (← newExc (.type "StopIteration") [])) Q' E' { s with heap:=h' }) →
   wpAny (model prog w) A.in1 (Builtin.«set_iterator.__next__» ⟨[.ref it],[]⟩) Q' E' s)
  (hQ:∀ h',Heap.ExtBut it s.heap h'→Q none { s with heap:=h' }):wpAny (model prog w) A (pyNext (.ref it)) Q E s:=by
 have hT:s.TypeIs (.ref it) "set_iterator":=⟨_,ho,rfl⟩
 unfold pyNext
 refine IE (NF (Nb (name:=Str.ofString "__next__") hT cJ (Kj cJ hT iY ?_ (jJ _))))
 refine h fun h1 sb=>?_
 refine IE ?_
 simp only [newExc,newTuple]
 refine IE (Kd ?_ (by size_fits))
 refine IE (m:=firstArgMember _ _) (wpAny_of_eq (a:=Value.none) (by first | rfl | (simp only [firstArgMember];rfl)) ?_)
 refine Kd ?_ (by size_fits)
 simp only [raiseNew]
 refine IE (wpAny_handled ?_)
 have hh1:A.in1.handled=none:=hh
 rw [hh1]
 refine IE (wpAny_pure (wpAny_throw ?_))
 refine IE (Lz (T:="StopIteration") (b:=true) ⟨_,IQ _ rfl,rfl⟩ isSubtype_stop ?_)
 exact wpAny_pure (hQ _ ((sb.extBut.push _).push _))
section
variable {it a T:Addr}{o oT:Obj}{es:Array (Int × Value)}{ep i:Nat}{t:SetTable}{pl:List Nat}{c:Nat}
def tR{p:Nat}{hx:Int}{x:Value}{Q:Option Value→Shared→Prop}(ho:s.heap.get? it=some (dF a es.size ep (.ref T) i))(ha:s.heap.get? a=some o)(hd:o.data=.set es ep t)(hf:t.fits es.size=true)
  (hT:s.heap.get? T=some oT) (hTd:oT.data=.seq (pl.map fun(j:Nat)=>Value.int j 0).toArray c) (hp:pl[i]?=some p) (hx:es[p]?=some (hx,x))
  (h:∀ h',h'.get? it=some (dF a es.size ep (.ref T) (i+1))→Heap.SameBut it s.heap h'→Q (some x) { s with heap:=h' }):wpAny (model prog w) A (pyNext (.ref it)) Q E s:=by
 refine mf (x:=x) ho ?_
 unfold Builtin.«set_iterator.__next__»
 show wpAny _ _ (fieldsOf (.ref it) >>= _) _ _ s
 refine IE (Lv ho rfl ?_)
 dsimp only
 refine IE (Ko ha hd hf ?_)
 rw [if_neg (by simp)]
 show wpAny _ _ (seqItems? (.ref T) >>= _) _ _ s
 refine IE (KD hT hTd ?_)
 dsimp only
 have e1:((pl.map fun(j:Nat)=>Value.int j 0).toArray)[i]?=some (.int p 0):=by simp [hp]
 simp only [JA,e1]
 unfold setNextDrawn
 refine IE (IE (K2 ha hd hf ?_))
 dsimp only
 rw [if_neg (by simp)]
 simp only [hx]
 refine wpAny_pure ?_
 refine IE (Kv ho rfl (by simp) (wpAny_pure ⟨rfl,h _ ?_ (JN ..)⟩))
 rw [fk ho]
 simp [dF,rawInt]
def xH{Q:Option Value→Shared→Prop}(hh:A.handled=none)(ho:s.heap.get? it=some (dF a es.size ep (.ref T) i))(ha:s.heap.get? a=some o)(hd:o.data=.set es ep t)(hf:t.fits es.size=true)
  (hT:s.heap.get? T=some oT) (hTd:oT.data=.seq (pl.map fun(j:Nat)=>Value.int j 0).toArray c) (hp:pl[i]?=none)
  (h:∀ h',Heap.ExtBut it s.heap h'→Q none { s with heap:=h' }):wpAny (model prog w) A (pyNext (.ref it)) Q E s:=by
 refine pJ hh ho (fun {Q' E'} hq=>?_) h
 unfold Builtin.«set_iterator.__next__»
 show wpAny _ _ (fieldsOf (.ref it) >>= _) _ _ s
 refine IE (Lv ho rfl ?_)
 dsimp only
 refine IE (Ko ha hd hf ?_)
 rw [if_neg (by simp)]
 show wpAny _ _ (seqItems? (.ref T) >>= _) _ _ s
 refine IE (KD hT hTd ?_)
 dsimp only
 have e1:((pl.map fun(j:Nat)=>Value.int j 0).toArray)[i]?=none:=by simpa using hp
 simp only [JA,e1]
 refine IE (Kv ho rfl (by simp) ?_)
 refine IE (Kv (fk ho) rfl (by simp) ?_)
 exact hq _ ((JN ..).trans (JN ..))
end
theorem wJ{α:Type}{next:Nat→Nat}:∀ (n k:Nat) (left:List α) (out:Array α),left.length=n→∃ ys:List α,ys.Perm left∧(pickOrder.go next n k left out).toList=out.toList++ys
 | 0,k,left,out,hl=>by
  have:left=[]:=Kh hl
  subst this
  exact⟨[],.refl _,by simp [pickOrder.go]⟩
 | n+1,k,left,out,hl=>by
  have hlt:next k % left.length<left.length:=Nat.mod_lt _ (by lia)
  obtain⟨ys,q1,q2⟩:=wJ (next:=next) n (k+1) (left.eraseIdx (next k % left.length)) (out.push left[next k % left.length]) (by rw [Nx,if_pos hlt];lia)
  refine⟨left[next k % left.length]::ys,(q1.cons _).trans (jk _ _ hlt),?_⟩
  unfold pickOrder.go
  rw [IG hlt]
  dsimp only
  rw [q2,K3,List.append_assoc]
  rfl
def wR{α:Type}(next:Nat→Nat)(xs:Array α):(pickOrder next xs).toList.Perm xs.toList:=by
 obtain⟨ys,q1,q2⟩:=wJ (next:=next) xs.size 0 xs.toList #[] (by simp)
 unfold pickOrder
 rw [q2]
 simpa using q1
section
variable {it a:Addr}{o:Obj}{es:Array (Int × Value)}{ep i:Nat}{t:SetTable}
def i3{Q:Option (Value × Nat)→Shared→Prop}{sl g:Nat}(hb:dO w=true)(ha:s.heap.get? a=some o)(hd:o.data=.set es ep t)(hf:t.fits es.size=true)
  (h:Q (((pickOrder (w.params.setOrder a ep) es)[g]?).map fun e=>(e.2,sl)) s):wpAny (model prog w) A (setNext a sl g ep) Q E s:=by
 unfold setNext
 refine IE (K2 ha hd hf ?_)
 dsimp only
 refine IE ?_
 unfold setsByText
 refine IE (K8 (wpAny_pure ?_))
 have key:∀ {α:Type} (x y:Sem α),(if (⟨(model prog w).prog,(model prog w).w.params⟩:Setting).params.followText "set-order"=true then x else y)=x:=fun x y=>if_pos hb
 rw [key,if_neg (by simp)]
 refine IE ?_
 unfold setWalk
 refine IE (K2 ha hd hf ?_)
 dsimp only
 refine IE ?_
 unfold setsByText
 refine IE (K8 (wpAny_pure ?_))
 rw [key]
 refine IE (K8 (wpAny_pure ?_))
 exact wpAny_pure h
def yb{hx:Int}{x:Value}{Q:Option Value→Shared→Prop}(hb:dO w=true)(ho:s.heap.get? it=some (dF a es.size ep (.int 0 0) i))(ha:s.heap.get? a=some o)(hd:o.data=.set es ep t)(hf:t.fits es.size=true)
  (hp:(pickOrder (w.params.setOrder a ep) es)[i]?=some (hx,x))
  (h:∀ h',h'.get? it=some (dF a es.size ep (.int 0 0) (i+1))→Heap.SameBut it s.heap h'→Q (some x) { s with heap:=h' }):wpAny (model prog w) A (pyNext (.ref it)) Q E s:=by
 refine mf (x:=x) ho ?_
 unfold Builtin.«set_iterator.__next__»
 show wpAny _ _ (fieldsOf (.ref it) >>= _) _ _ s
 refine IE (Lv ho rfl ?_)
 dsimp only
 refine IE (Ko ha hd hf ?_)
 rw [if_neg (by simp)]
 refine IE (i3 (sl:=0) (g:=i) hb ha hd hf ?_)
 rw [JA,hp]
 dsimp only [Option.map]
 refine IE (Kv ho rfl (by simp) ?_)
 refine IE (Kv (fk ho) rfl (by simp) (wpAny_pure ⟨rfl,h _ ?_ ((JN ..).trans (JN ..))⟩))
 rw [JL _ (fk ho) rfl]
 simp [dF,rawInt,Obj.mapFields]
def AE{Q:Option Value→Shared→Prop}(hh:A.handled=none)(hb:dO w=true)(ho:s.heap.get? it=some (dF a es.size ep (.int 0 0) i))(ha:s.heap.get? a=some o)(hd:o.data=.set es ep t)(hf:t.fits es.size=true)
  (hp:(pickOrder (w.params.setOrder a ep) es)[i]?=none)
  (h:∀ h',Heap.ExtBut it s.heap h'→Q none { s with heap:=h' }):wpAny (model prog w) A (pyNext (.ref it)) Q E s:=by
 refine pJ hh ho (fun {Q' E'} hq=>?_) h
 unfold Builtin.«set_iterator.__next__»
 show wpAny _ _ (fieldsOf (.ref it) >>= _) _ _ s
 refine IE (Lv ho rfl ?_)
 dsimp only
 refine IE (Ko ha hd hf ?_)
 rw [if_neg (by simp)]
 refine IE (i3 (sl:=0) (g:=i) hb ha hd hf ?_)
 rw [JA,hp]
 dsimp only [Option.map]
 refine IE (Kv ho rfl (by simp) ?_)
 exact hq _ (JN ..)
end
section
variable {it a:Addr}{o:Obj}{es:Array (Int × Value)}{ep i sl:Nat}{t:SetTable}
def jM{Q:Option (Value × Nat)→Shared→Prop}{g:Nat}(hb:dO w=false)(hl:t.led=true)(h1:es.size≤1)(ha:s.heap.get? a=some o)(hd:o.data=.set es ep t)(hf:t.fits es.size=true)
  (h:Q (match es[SetTable.below t.place sl]?,t.place[SetTable.below t.place sl]? with | some (_,x),some j=>some (x,j+1) | _,_=>none) s):wpAny (model prog w) A (setNext a sl g ep) Q E s:=by
 unfold setNext
 refine IE (K2 ha hd hf ?_)
 dsimp only
 refine IE ?_
 unfold setsByText
 refine IE (K8 (wpAny_pure ?_))
 have hb':w.params.followText "set-order"=false:=hb
 have h2:¬ es.size > 1:=by lia
 simp only [model,hb',Jy,Km]
 rw [if_neg (by show ¬((!t.plain&&decide (es.size > 1))=true);simp [h2])]
 refine IE ?_
 show wpAny _ _ (if (!t.led && !es.isEmpty)=true then unsupported "set:maker-not-led" else pure ()) _ _ s
 rw [hl]
 exact wpAny_pure (wpAny_pure h)
def xI(hf:t.fits es.size=true)(h1:es.size=1):∃ j,t.place = #[j]:=by
 have q:t.place.size=1:=by
  have:=(Jn.mp (show(t.place.size==es.size&&decide (t.fill≤t.mask))=true from hf)).1
  rw [h1] at this
  simpa using this
 generalize t.place=pl at q
 obtain⟨l⟩:=pl
 have q':l.length=1:=q
 match l,q' with
 | [j],_=>exact⟨j,rfl⟩
def qJ(j:Nat):SetTable.below #[j] 0=0:=by
 unfold SetTable.below
 simp [SetTable.below.go]
def uw(j:Nat):SetTable.below #[j] (j+1)=1:=by
 unfold SetTable.below
 simp [SetTable.below.go]
def yH(t:SetTable)(n i sl:Nat):Prop:=(i=0∧sl=0)∨(i=1∧n=1∧∃ j,t.place = #[j]∧sl=j+1)
def yz{hx:Int}{x:Value}{Q:Option Value→Shared→Prop}(hb:dO w=false)(hl:t.led=true)(h1:es.size=1)(ho:s.heap.get? it=some (dF a es.size ep (.int 0 0) 0))(ha:s.heap.get? a=some o)(hd:o.data=.set es ep t)(hf:t.fits es.size=true)
  (hp:es[0]?=some (hx,x))
  (h:∀ h' sl,yH t es.size 1 sl→h'.get? it=some (dF a es.size ep (.int sl 0) 1)→Heap.SameBut it s.heap h'→Q (some x) { s with heap:=h' }):wpAny (model prog w) A (pyNext (.ref it)) Q E s:=by
 obtain⟨j,hj⟩:=xI hf h1
 refine mf (x:=x) ho ?_
 unfold Builtin.«set_iterator.__next__»
 show wpAny _ _ (fieldsOf (.ref it) >>= _) _ _ s
 refine IE (Lv ho rfl ?_)
 dsimp only
 refine IE (Ko ha hd hf ?_)
 rw [if_neg (by simp)]
 refine IE (jM (sl:=0) (g:=0) hb hl (by lia) ha hd hf ?_)
 rw [hj,qJ,hp]
 show wpAny _ _ (setField (.ref it) 0 (rawInt ((j+1:Nat):Int)) >>= fun _=>setField (.ref it) 1 (rawInt (((0:Nat):Int)+1)) >>= fun _=>ret x) _ _ s
 refine IE (Kv ho rfl (by simp) ?_)
 refine IE (Kv (fk ho) rfl (by simp) (wpAny_pure ⟨rfl,h _ (j+1) (.inr ⟨rfl,h1,j,hj,rfl⟩) ?_ ((JN ..).trans (JN ..))⟩))
 rw [JL _ (fk ho) rfl]
 simp [dF,rawInt,Obj.mapFields]
def Bh{Q:Option Value→Shared→Prop}(hh:A.handled=none)(hb:dO w=false)(hl:t.led=true)(h1:es.size≤1)(hat:yH t es.size i sl)(hi:es.size≤i)(ho:s.heap.get? it=some (dF a es.size ep (.int sl 0) i))(ha:s.heap.get? a=some o)(hd:o.data=.set es ep t)
  (hf:t.fits es.size=true) (h:∀ h',Heap.ExtBut it s.heap h'→Q none { s with heap:=h' }):wpAny (model prog w) A (pyNext (.ref it)) Q E s:=by
 refine pJ hh ho (fun {Q' E'} hq=>?_) h
 unfold Builtin.«set_iterator.__next__»
 show wpAny _ _ (fieldsOf (.ref it) >>= _) _ _ s
 refine IE (Lv ho rfl ?_)
 dsimp only
 refine IE (Ko ha hd hf ?_)
 rw [if_neg (by simp)]
 refine IE (jM (sl:=sl) (g:=i) hb hl h1 ha hd hf ?_)
 have key:(match es[SetTable.below t.place sl]?,t.place[SetTable.below t.place sl]? with | some (_,x),some j=>some (x,j+1) | _,_=>none)=(none:Option (Value × Nat)):=by
  rcases hat with⟨rfl,rfl⟩ | ⟨rfl,hn,j,hj,rfl⟩
  ·have e0:es = #[]:=by
    have:es.size=0:=by lia
    exact Array.eq_empty_of_size_eq_zero this
   subst e0
   simp
  ·rw [hj,uw]
   simp
 rw [key]
 dsimp only
 refine IE (Kv ho rfl (by simp) ?_)
 exact hq _ (JN ..)
end
end UfSet
end
section
namespace UfSet
open PySem
theorem eQ.get{w:World}:∀ {ks:List Str} {es:List (Int × Value)} {i:Nat},eQ w ks es→i<es.length→∃ hx k tk,es[i]?=some (hx,Value.str k tk)∧ks[i]?=some k
 | _,_,_,.nil,h=>absurd h (by simp)
 | _,_,0,.cons (a:=k) (b:=e) h t,_=>by
  obtain⟨h1,tk,h2⟩:=h
  obtain⟨e1,e2⟩:=e
  have h2:e2=Value.str k tk:=h2
  subst h2
  exact⟨e1,k,tk,rfl,rfl⟩
 | _,_,i+1,.cons h t,hl=>by
  obtain⟨hx,k,tk,q1,q2⟩:=eQ.get (i:=i) t (by simpa using hl)
  exact⟨hx,k,tk,by simpa using q1,by simpa using q2⟩
def At(ord:List Str)(i:Nat)(v:Value):Prop:=∃ k tk,ord[i]?=some k∧v=Value.str k tk
def pU{it a:Addr}{n ep i:Nat}{first:Value}{Q:Value→Shared→Prop}(ho:s.heap.get? it=some (dF a n ep first i))(h:Q (.ref it) s):wpAny (model prog w) A (pyIter (.ref it)) Q E s:=by
 have hT:s.TypeIs (.ref it) "set_iterator":=⟨_,ho,rfl⟩
 refine wpAny_pyIter_slot hT jz (Kj jz hT nY ?_ (pN _))
 show wpAny _ _ (ret (.ref it)) _ _ s
 exact wpAny_pure ⟨_,rfl, "set_iterator",_,hT,cJ.lookup,h⟩
def r6{it a T:Addr}{o oT:Obj}{es:Array (Int × Value)}{ep c:Nat}{t:SetTable}{pl:List Nat}{ks ord:List Str}(hh:A.handled=none)(ha:a≠it)(hTi:T≠it)(hd:o.data=.set es ep t)(hf:t.fits es.size=true)(he:eQ w ks es.toList)
  (hTd:oT.data=.seq (pl.map fun(j:Nat)=>Value.int j 0).toArray c) (hpl:∀ (i p:Nat),pl[i]?=some p→p<es.size∧ord[i]?=ks[p]?) (hlen:pl.length=ord.length) :
  Walks prog w A it [it,a,T] [it] ord.length (At ord) (fun i h=>h.get? it=some (dF a es.size ep (.ref T) i)∧h.get? a=some o∧h.get? T=some oT) where
 sub:=fun b hb=>by simp at hb;simp [hb]
 frame:=fun i h h' st k=>⟨k it (by simp) _ st.1,k a (by simp) _ st.2.1,k T (by simp) _ st.2.2⟩
 item:=fun i s Q E hi st hQ=>by
  obtain⟨s1,s2,s3⟩:=st
  have hip:i<pl.length:=by lia
  have hp:pl[i]?=some pl[i]:=IG hip
  obtain⟨hlt,hord⟩:=hpl i _ hp
  obtain⟨hx,k,tk,q1,q2⟩:=he.get (i:=pl[i]) (by simpa using hlt)
  refine tR s1 s2 hd hf s3 hTd hp (by rw [← JM];exact q1) fun h' st' sb=>?_
  exact hQ _ h' s.toks ⟨k,tk,hord.trans q2,rfl⟩ ⟨st',sb.extBut _ _ ha s2,sb.extBut _ _ hTi s3⟩ fun b o hb e=>sb.extBut b o (fun z=>hb (by simp [z])) e
 done:=fun s Q E st hQ=>by
  obtain⟨s1,s2,s3⟩:=st
  exact xH hh s1 s2 hd hf s3 hTd (Jm (by lia)) fun h' eb=>hQ h' s.toks fun b o hb e=>eb b o (fun z=>hb (by simp [z])) e
 self:=fun _ _ _ _ st hQ=>pU st.1 hQ
def uG{it a:Addr}{o:Obj}{es:Array (Int × Value)}{ep:Nat}{t:SetTable}{ord:List Str}(hh:A.handled=none)(hb:dO w=true)(ha:a≠it)(hd:o.data=.set es ep t)(hf:t.fits es.size=true)
  (he:eQ w ord (pickOrder (w.params.setOrder a ep) es).toList) :
  Walks prog w A it [it,a] [it] ord.length (At ord) (fun i h=>h.get? it=some (dF a es.size ep (.int 0 0) i)∧h.get? a=some o) where
 sub:=fun b hb=>by simp at hb;simp [hb]
 frame:=fun i h h' st k=>⟨k it (by simp) _ st.1,k a (by simp) _ st.2⟩
 item:=fun i s Q E hi st hQ=>by
  obtain⟨s1,s2⟩:=st
  obtain⟨hx,k,tk,q1,q2⟩:=he.get (i:=i) (by rw [← he.len];exact hi)
  refine yb hb s1 s2 hd hf (by rw [← JM];exact q1) fun h' st' sb=>?_
  exact hQ _ h' s.toks ⟨k,tk,q2,rfl⟩ ⟨st',sb.extBut _ _ ha s2⟩ fun b o hb e=>sb.extBut b o (fun z=>hb (by simp [z])) e
 done:=fun s Q E st hQ=>by
  obtain⟨s1,s2⟩:=st
  refine AE hh hb s1 s2 hd hf ?_ fun h' eb=>hQ h' s.toks fun b o hb e=>eb b o (fun z=>hb (by simp [z])) e
  rw [← JM]
  exact Jm (by rw [← he.len];exact II _)
 self:=fun _ _ _ _ st hQ=>pU st.1 hQ
def wX{it a:Addr}{o:Obj}{es:Array (Int × Value)}{ep:Nat}{t:SetTable}{ord:List Str}(hh:A.handled=none)(hb:dO w=false)(hl:t.led=true)(h1:es.size≤1)(ha:a≠it)(hd:o.data=.set es ep t)(hf:t.fits es.size=true)
  (he:eQ w ord es.toList) :
  Walks prog w A it [it,a] [it] ord.length (At ord) (fun i h=>(∃ sl,yH t es.size i sl∧h.get? it=some (dF a es.size ep (.int sl 0) i))∧h.get? a=some o) where
 sub:=fun b hb=>by simp at hb;simp [hb]
 frame:=fun i h h' st k=>by
  obtain⟨⟨sl,q1,q2⟩,q3⟩:=st
  exact⟨⟨sl,q1,k it (by simp) _ q2⟩,k a (by simp) _ q3⟩
 item:=fun i s Q E hi st hQ=>by
  obtain⟨⟨sl,q1,q2⟩,q3⟩:=st
  have hlen:ord.length=es.size:=by(have:=he.len);(have el:es.toList.length=es.size:=by simp);lia
  have h0:es.size=1:=by lia
  rcases q1 with⟨rfl,rfl⟩ | ⟨rfl,_⟩
  ·obtain⟨hx,k,tk,e1,e2⟩:=he.get (i:=0) (by simp;lia)
   refine yz hb hl h0 q2 q3 hd hf (by rw [← JM];exact e1) fun h' sl' oa st' sb=>?_
   exact hQ _ h' s.toks ⟨k,tk,e2,rfl⟩ ⟨⟨sl',oa,st'⟩,sb.extBut _ _ ha q3⟩ fun b o hb e=>sb.extBut b o (fun z=>hb (by simp [z])) e
  ·lia
 done:=fun s Q E st hQ=>by
  obtain⟨⟨sl,q1,q2⟩,q3⟩:=st
  have hlen:ord.length=es.size:=by(have:=he.len);(have el:es.toList.length=es.size:=by simp);lia
  exact Bh hh hb hl h1 q1 (by lia) q2 q3 hd hf fun h' eb=>hQ h' s.toks fun b o hb e=>eb b o (fun z=>hb (by simp [z])) e
 self:=fun _ _ _ _ st hQ=>by
  obtain⟨⟨sl,q1,q2⟩,q3⟩:=st
  exact pU q2 hQ
def zH{a:Addr}{ks:List Str}{Q:Value→Shared→Prop}(hS:c9 w s.heap a ks)
  (h:∀ (I:Addr) (h' : Heap) (d:Drawn) (ord:List Str) (fp:List Addr) (St:Nat→Heap→Prop),ord.Perm ks→(∀ A' : Around,A'.handled = none→Walks prog w A' I fp [I] ord.length (At ord) St)→St 0 h'→I ∈ fp→s.heap.objs.size≤I →
   (∀ b o,s.heap.get? b=some o→h'.get? b=some o)→(∀ b∈fp,b<h'.objs.size∧(b=a∨s.heap.objs.size≤b))→Q (.ref I) { s with heap:=h',drawn:=d }) :
  wpAny (model prog w) A (pyIter (.ref a)) Q E s:=by
 obtain⟨o,es,ep,t,ks',ho,hex,hd,he,hp,hn,hb,hf,hpl,hle⟩:=hS
 have hT:s.TypeIs (.ref a) "set":=⟨_,ho,hex.1⟩
 have alt:a<s.heap.objs.size:=IJ ho
 refine wpAny_pyIter_slot hT Nq (Kj Nq hT qi ?_ (PySem.F.args_set_iter_1 _))
 show wpAny _ _ (Builtin.Frozenset.sizeOf a >>= _) _ _ s
 refine IE ?_
 unfold Builtin.Frozenset.sizeOf
 refine IE (Ko ho hd hf (wpAny_pure ?_))
 refine IE ?_
 unfold setDrawn
 refine IE (K2 ho hd hf ?_)
 dsimp only
 refine IE ?_
 unfold setsByText
 refine IE (K8 (wpAny_pure (wpAny_pure ?_)))
 have key:(!(⟨(model prog w).prog,(model prog w).w.params⟩:Setting).params.followText "set-order" && (!t.plain&&decide (es.size > 1)))=(!dO w&&(!t.plain&&decide (es.size > 1))):=rfl
 show wpAny _ _ (do
  let first ← if (!(⟨(model prog w).prog,(model prog w).w.params⟩:Setting).params.followText "set-order" && (!t.plain&&decide (es.size > 1)))=true then newTuple ((← drawOrder es.size (List.range es.size)).map fun(i:Nat)=>rawInt i) else pure (rawInt 0)
  ret (← newFields "set_iterator" [first,rawInt 0,.ref a,rawInt es.size,rawInt (← setEpoch a)])) _ _ s
 rw [key]
 by_cases hdr:(!dO w&&(!t.plain&&decide (es.size > 1)))=true
 ·rw [if_pos hdr]
  have zs:es.size≤sizeLine:=L5 hb
  refine IE (sG es.size (List.range es.size) s (by simp) fun pl d hpp=>?_)
  have hl:pl.length=es.size:=by rw [hpp.length_eq];simp
  refine IE (Kd ?_ (by show(pl.map fun(i:Nat)=>rawInt i).toArray.size≤sizeLine;simp;lia))
  refine IE (wpAny_setEpoch_of (o:=o) (es:=es) (t:=t) (ep:=ep) (IF _ ho) hd hf ?_)
  refine IE (Kd (wpAny_pure ⟨_,rfl, "set_iterator",_,⟨_,IQ _ rfl,rfl⟩,cJ.lookup,?_⟩) (by size_fits))
  dsimp only
  have e1:(s.heap.push { cls:=.type "tuple",data:=.seq (pl.map fun(i:Nat)=>rawInt i).toArray }).objs.size=s.heap.objs.size+1:=by rw [JV]
  have f:∀ p,p<es.size→∃ k,ks'[p]?=some k:=fun p hp'=>by
   obtain⟨_,k,_,_,q⟩:=he.get (i:=p) (by simpa using hp')
   exact⟨k,q⟩
  refine h _ _ d (pl.map fun p=>ks'.getD p ⟨#[]⟩) [_,a,s.heap.objs.size] _ ?_ (fun A' hh'=>r6 (T:=s.heap.objs.size) (oT:={ cls:=.type "tuple",data:=.seq (pl.map fun(i:Nat)=>rawInt i).toArray }) (pl:=pl) hh' ?_ ?_ hd hf he rfl (fun i p hip=>?_) (by simp)) ⟨IQ _ rfl,IF _ (IF _ ho),IF _ (IQ _ rfl)⟩ (by simp) (by rw [e1];lia) (fun b ob e=>IF _ (IF _ e)) fun b hb'=>?_
  ·have q:=hpp.map (fun p=>ks'.getD p ⟨#[]⟩)
   have e2:(List.range es.size).map (fun p=>ks'.getD p ⟨#[]⟩)=ks':=by
    have hk:ks'.length=es.size:=by rw [he.len];simp
    rw [← hk]
    refine List.ext_getElem (by simp) fun i h1 h2=>?_
    simp [List.getD_eq_getElem?_getD,IG h2]
   rw [e2] at q
   exact q.trans hp
  ·rw [e1];exact IS (Jp alt)
  ·rw [e1];exact IS (JX _)
  ·have hm:p∈List.range es.size:=hpp.mem_iff.mp (IK hip)
   have hlt:p<es.size:=by simpa using hm
   refine⟨hlt,?_⟩
   obtain⟨k,hk⟩:=f p hlt
   rw [List.getElem?_map,hip,hk]
   simp [List.getD_eq_getElem?_getD,hk]
  ·simp only [IP,Jq,Ke] at hb'
   rw [JV]
   rcases hb' with rfl | rfl | rfl
   ·exact⟨JX _,.inr (by rw [e1];exact JY _)⟩
   ·exact⟨by rw [e1];exact Jp (Jp alt),.inl rfl⟩
   ·exact⟨by rw [e1];exact Jp (JX _),.inr (II _)⟩
 ·rw [if_neg hdr]
  refine IE (wpAny_pure ?_)
  refine IE (wpAny_setEpoch_of (o:=o) (es:=es) (t:=t) (ep:=ep) ho hd hf ?_)
  refine IE (Kd (wpAny_pure ⟨_,rfl, "set_iterator",_,⟨_,IQ _ rfl,rfl⟩,cJ.lookup,?_⟩) (by size_fits))
  have old:∀ b ob,s.heap.get? b=some ob→(s.heap.push { cls:=.type "set_iterator",data:=.fields [rawInt 0,rawInt 0,Value.ref a,rawInt (es.size:Int),rawInt (ep:Int)].toArray }).get? b=some ob:=fun b ob e=>IF _ e
  have own:∀ b∈[s.heap.objs.size,a],b<(s.heap.push { cls:=.type "set_iterator",data:=.fields [rawInt 0,rawInt 0,Value.ref a,rawInt (es.size:Int),rawInt (ep:Int)].toArray }).objs.size∧(b=a∨s.heap.objs.size≤b):=fun b hb'=>by
   simp only [IP,Jq,Ke] at hb'
   rw [JV]
   rcases hb' with rfl | rfl
   ·exact⟨JX _,.inr (II _)⟩
   ·exact⟨Jp alt,.inl rfl⟩
  cases hbt:dO w with
  | true =>
   obtain⟨ord,q1,q2⟩:=he.perm (wR (w.params.setOrder a ep) es)
   exact h _ _ s.drawn ord [s.heap.objs.size,a] _ (q2.trans hp) (fun A' hh'=>uG hh' hbt (IS alt) hd hf q1) ⟨IQ _ rfl,IF _ ho⟩ (by simp) (II _) old own
  | false =>
   have h1:es.size≤1:=by
    rw [hbt] at hdr
    cases hpt:t.plain with
    | true=>have:=hpl hpt;lia
    | false =>
     rw [hpt] at hdr
     by_cases hz:es.size > 1
     ·exact absurd (by simp [hz]) hdr
     ·lia
   rw [hbt] at hle
   exact h _ _ s.drawn ks' [s.heap.objs.size,a] _ hp (fun A' hh'=>wX hh' hbt hle h1 (IS alt) hd hf he) ⟨⟨0,.inl ⟨rfl,rfl⟩,IQ _ rfl⟩,IF _ ho⟩ (by simp) (II _) old own
end UfSet
end
section
namespace UfSet
open PySem
def zN:typeLookup (.type "set") "__len__"=pure (some (.builtin "set.__len__")):=by rw [Lh,Ku];kernel_rfl
def Bc:isSubtype (.type "set") (.type "set")=pure true:=by rw [Mw];kernel_rfl
def yi:splitId "set.__len__"=some ("set", "__len__"):=by decide +kernel
def mV{wr:List Addr}:∀ {s s':Shared},Moved wr (fun a b=>b=a) s s'→s'={ s with heap:=s'.heap,toks:=s'.toks }
 | ⟨h,g,d,t,o⟩,⟨h',g',d',t',o'⟩,hm=>by
  have e1:g'=g:=hm.gens
  have e2:d'=d:=hm.drawn
  have e3:o'=o:=hm.os
  subst e1 e2 e3
  rfl
def yC{r:Addr}{Q:Bool→Shared→Prop}(hT:s.TypeIs (.ref r) "set")(h:Q false s):wpAny (model prog w) A (Builtin.List.listLengthHint (.ref r)) Q E s:=by
 unfold Builtin.List.listLengthHint
 refine IE (Kx hT zN ?_)
 dsimp only
 rw [yi]
 dsimp only
 refine IE (Lz (T:="set") (b:=true) hT Bc ?_)
 refine KZ (fun z=>absurd z (by decide)) (fun _=>?_)
 refine KZ (fun _=>?_) (fun z=>absurd (by decide +kernel) z)
 refine IE (LS hT ?_)
 exact wpAny_pure h
def kK{r:Addr}{T:String}{OK:Heap→Prop}{R:Nat→(Nat→Value→Prop)→Prop}{Q:List Value→Shared→Prop}(hh:A.handled=none)(hok:OK s.heap)
  (keep:∀ h h':Heap,OK h→(∀ b o,h.get? b=some o→h'.get? b=some o)→OK h') (hty:∀ s':Shared,OK s'.heap→s'.TypeIs (.ref r) T) (hlt:∀ h,OK h→r<h.objs.size)
  (nl:(Value.type T==Value.type "list")=false) (nt:(Value.type T==Value.type "tuple")=false)
  (hint:∀ (A':Around) (E':Value→Shared→Prop) (s':Shared) (Q':Bool→Shared→Prop),OK s'.heap→Q' false s'→wpAny (model prog w) A' (Builtin.List.listLengthHint (.ref r)) Q' E' s')
  (iter:∀ (A' : Around) (E' : Value→Shared→Prop) (s' : Shared) (Q' : Value→Shared→Prop),OK s'.heap→(∀ (I:Addr) (h' : Heap) (d:Drawn) (n:Nat) (P:Nat→Value→Prop) (fp:List Addr) (St:Nat→Heap→Prop),R n P→n≤sizeLine →
   (∀ A2:Around,A2.handled=none→Walks prog w A2 I fp [I] n P St)→St 0 h'→s'.heap.objs.size≤I→(∀ b o,s'.heap.get? b=some o→h'.get? b=some o)→(∀ b∈fp,b=r∨s'.heap.objs.size≤b)→Q' (.ref I) { s' with heap:=h',drawn:=d }) →
   wpAny (model prog w) A' (pyIter (.ref r)) Q' E' s')
  (h:∀ (h':Heap) (tk:Nat) (d:Drawn) (n:Nat) (P:Nat→Value→Prop) (vs:List Value),R n P→vs.length=n→(∀ (j:Nat) v,vs[j]?=some v→P j v)→(∀ b o,s.heap.get? b=some o→h'.get? b=some o)→s.heap.objs.size≤h'.objs.size→Q vs { s with heap:=h',toks:=tk,drawn:=d }) :
  wpAny (model prog w) A (collect (.ref r)) Q E s:=by
 unfold collect
 refine IE (wpAny_runValue (J7 PySem.F.entry_proto_collect ?_))
 rw [JP PySem.F.plain_proto_collect _]
 show wpAny _ A.in1 (newList [] >>= fun l=>again (.builtin "list.__iadd__" ⟨[l,.ref r],[]⟩)) _ _ s
 refine IE (Kd ?_)
 refine wpAny_pure ⟨Kc Nc _,J7 PySem.F.entry_list_iadd ?_⟩
 rw [JP Nc _]
 generalize hs1:(s.heap.push { cls:=.type "list",data:=.seq ([]:List Value).toArray })=h1
 have S1:h1.get? s.heap.objs.size=some { cls:=.type "list",data:=.seq #[] }:=by rw [← hs1];exact IQ _ rfl
 have k1:∀ b ob,s.heap.get? b=some ob→h1.get? b=some ob:=fun b ob e=>by rw [← hs1];exact IF _ e
 have z1:h1.objs.size=s.heap.objs.size+1:=by rw [← hs1,JV]
 have alt:r<s.heap.objs.size:=hlt _ hok
 have ok1:OK h1:=keep _ _ hok k1
 show wpAny _ A.in1 (Builtin.List.listExtendWith (.ref s.heap.objs.size) (.ref r) (.ref s.heap.objs.size)) _ _ { s with heap:=h1 }
 unfold Builtin.List.listExtendWith
 refine IE (LS (T:=T) (hty { s with heap:=h1 } ok1) ?_)
 have e1:Builtin.List.listSameRef (.ref s.heap.objs.size) (.ref r)=false:=by simp [Builtin.List.listSameRef,Ki alt]
 simp only [e1,nl,nt,LB,Jy,Km]
 refine IE (iter _ _ { s with heap:=h1 } _ ok1 fun I h2 d n P fp St hR zo W st hIz k2 hfp=>?_)
 have S2:=k2 _ _ S1
 refine IE (JI (hint _ _ _ _ (keep _ _ ok1 k2) ?_))
 have nfp:s.heap.objs.size∉fp:=fun hm=>by
  rcases hfp _ hm with z | z
  ·exact absurd z (Ki alt)
  ·have z':h1.objs.size≤s.heap.objs.size:=z
   rw [z1] at z'
   exact absurd z' (Nat.not_succ_le_self _)
 have key:∀ (h3:Heap) (c tk:Nat),St 0 h3→(∀ b ob,b≠s.heap.objs.size→h2.get? b=some ob→h3.get? b=some ob)→h3.get? s.heap.objs.size=some { cls:=.type "list",data:=.seq #[] c } →
   codeAny (model prog w) A (.builtin "list.extend.loop" ⟨[.ref s.heap.objs.size,.ref I,.ref s.heap.objs.size],[]⟩)
    (fun r s'=>match r with | .ok (.ret v)=>wpAny (model prog w) A (match v with | .ref b=>(load b >>= fun ob=>(match ob.data with | .seq xs _=>pure xs.toList | _=>unsupported "internal:collect")) | _=>unsupported "internal:collect") Q E s' | .ok _=>False | .error e=>E e s') { s with heap:=h3,toks:=tk,drawn:=d }:=by
  intro h3 c tk st3 k3 S3
  refine codeAny_extend_loopS (W A.in1 hh).toS zo s.heap.objs.size nfp _ n 0 _ #[] c rfl (IU _) st3 S3 (ItemsOf.nil _) fun s' acc c' hm S' hacc=>?_
  dsimp only
  refine IE (wpAny_load S' (wpAny_pure ?_))
  rw [mV hm]
  refine h s'.heap s'.toks d n P acc.toList hR (by rw [← hacc.1];simp) (fun j v e=>hacc.2 j v (by rw [← JM];exact e)) (fun b ob e=>?_) (LN (IJ S'))
  have nb:b≠s.heap.objs.size:=IS (IJ e)
  refine hm.heap b ob (fun hmem=>?_) (k3 b ob nb (k2 b ob (k1 b ob e)))
  rcases IP.mp hmem with z | z
  ·exact nb z
  ·have z':b=I:=by simpa using z
   subst z'
   have z2:h1.objs.size≤b:=hIz
   rw [z1] at z2
   exact absurd (IW (IJ e) (Nat.le_of_succ_le z2)) (JC _)
 refine KZ (fun _=>?_) (fun _=>wpAny_pure ⟨Kc LK _,key _ 0 _ st (fun b ob _ e=>e) S2⟩)
 refine IE (Kl ?_)
 refine IE ?_
 show wpAny _ _ (updateSeq s.heap.objs.size (·.push .none) >>= fun _=>updateSeq s.heap.objs.size (·.pop)) _ _ _
 refine IE (Li S2 rfl ?_)
 have S3:=JL (Obj.mapSeq (·.push Value.none)) S2 rfl
 refine Li (hz:=by seq_fits) S3 rfl ?_
 have S4:=JL (Obj.mapSeq (·.pop)) S3 rfl
 have oth:∀ b ob,b≠s.heap.objs.size→h2.get? b=some ob→((h2.update s.heap.objs.size (Obj.mapSeq (·.push Value.none))).update s.heap.objs.size (Obj.mapSeq (·.pop))).get? b=some ob:=fun b ob nb e =>
  (Ju _ _ (Jg nb)).trans ((Ju _ _ (Jg nb)).trans e)
 exact wpAny_pure ⟨Kc LK _,key _ _ _ ((W A.in1 hh).frame 0 _ _ st fun b hb' ob e=>oth b ob (fun z=>nfp (z ▸ hb')) e) oth S4⟩
def rp{a:Addr}{ks:List Str}{Q:List Value→Shared→Prop}(hh:A.handled=none)(hS:c9 w s.heap a ks)
  (h:∀ (h':Heap) (tk:Nat) (d:Drawn) (ord:List Str) (vs:List Value),ord.Perm ks→vs.length=ord.length→(∀ (j:Nat) v,vs[j]?=some v→At ord j v)→(∀ b o,s.heap.get? b=some o→h'.get? b=some o)→s.heap.objs.size≤h'.objs.size→Q vs { s with heap:=h',toks:=tk,drawn:=d }) :
  wpAny (model prog w) A (collect (.ref a)) Q E s:=by
 have kp:∀ h h':Heap,c9 w h a ks→(∀ b o,h.get? b=some o→h'.get? b=some o)→c9 w h' a ks:=fun h1 h2 x k=>by
  obtain⟨o,es,ep,t,ks',ho,r⟩:=x
  exact⟨o,es,ep,t,ks',k _ _ ho,r⟩
 have ty:∀ s':Shared,c9 w s'.heap a ks→s'.TypeIs (.ref a) "set":=fun s' x=>by
  obtain⟨o,es,ep,t,ks',ho,hex,_⟩:=x
  exact⟨o,ho,hex.1⟩
 have zs:ks.length≤sizeLine:=by
  obtain⟨o,es,ep,t,ks',ho,hex,hd,he,hp,hn,hb,_⟩:=hS
  rw [← hp.length_eq,he.len]
  have el:es.toList.length=es.size:=by simp
  rw [el]
  exact L5 hb
 refine kK (T:="set") (OK:=fun h=>c9 w h a ks) (R:=fun n P=>∃ ord:List Str,ord.Perm ks∧n=ord.length∧P=At ord) hh hS kp ty (fun h1 x=>?_) (by decide) (by decide) (fun A' E' s' Q' x q=>yC (ty s' x) q) (fun A' E' s' Q' x q=>?_) ?_
 ·obtain⟨o,_,_,_,_,ho,_⟩:=x
  exact IJ ho
 ·exact zH x fun I h' d ord fp St hp W st hI hIz k2 hfp=>q I h' d ord.length (At ord) fp St ⟨ord,hp,rfl,rfl⟩ (by rw [hp.length_eq];exact zs) W st hIz k2 fun b hb=>(hfp b hb).2
 ·rintro h' tk d n P vs ⟨ord,hp,rfl,rfl⟩ hl hat hk hz
  exact h h' tk d ord vs hp hl hat hk hz
end UfSet
end
section
namespace UfSrt
open PySem PySem.Spec PyProof.Rows
def le(a b:Str):Prop:=a.cps.toList≤b.cps.toList
def leB(a b:Str):Bool:=decide (a.cps.toList≤b.cps.toList)
def leB_iff{a b:Str}:leB a b=true↔le a b:=by simp [leB,le]
def Bo{a b:Str}(h:a.cps.toList=b.cps.toList):a=b:=by
 obtain⟨x⟩:=a
 obtain⟨y⟩:=b
 have:x=y:=Array.toList_inj.mp h
 rw [this]
def Cb{a b:Str}(h1:le a b)(h2:le b a):a=b:=Bo (List.le_antisymm h1 h2)
def C1{a b c:Str}(h1:le a b)(h2:le b c):le a c:=List.le_trans h1 h2
def Ex(a b:Str):le a b∨le b a:=List.le_total _ _
def aH(xs:List Str):List Str:=xs.mergeSort leB
def df(xs:List Str):(aH xs).Perm xs:=NL _ _
def uy(xs:List Str):(aH xs).Pairwise le:=by
 have h:=Nd (le:=leB) (fun a b c h1 h2=>leB_iff.mpr (C1 (leB_iff.mp h1) (leB_iff.mp h2))) (fun a b=>by
  rcases Ex a b with h | h
  ·rw [leB_iff.mpr h];rfl
  ·rw [leB_iff.mpr h,Bool.or_true]) xs
 exact h.imp fun h=>leB_iff.mp h
def pw_unique{xs ys:List Str}(h1:xs.Pairwise le)(h2:ys.Pairwise le)(p:xs.Perm ys):xs=ys :=
 K9 (fun a b _ _=>Cb) h1 h2 p
def zc{xs ys:List Str}(h:xs.Pairwise le)(p:xs.Perm ys):xs=aH ys:=pw_unique h (uy ys) (p.trans (df ys).symm)
def ka{xs ys:List Str}(p:xs.Perm ys):aH xs=aH ys:=zc (uy xs) ((df xs).trans p)
def bE{xs:List Str}{x:Str}:x∈aH xs↔x∈xs:=(df xs).mem_iff
def bW(xs:List Str):(aH xs).length=xs.length:=(df xs).length_eq
def kE{xs:List Str}:(aH xs).Nodup↔xs.Nodup:=(df xs).nodup_iff
def B9(xs:List Str):aH (aH xs)=aH xs:=ka (df xs)
theorem ou:∀ {p:Str} {l:List Str},risingS p l=true→(p::l).Pairwise le
 | p,[],_=>by simp
 | p,x::r,h=>by
  have h':(!ltCps x.cps.toList p.cps.toList&&risingS x r)=true:=h
  obtain⟨h1,h2⟩:=Jn.mp h'
  have ih:=ou h2
  have hpx:le p x:=by
   rw [ltCps_eq] at h1
   exact List.not_lt.mp (by simpa using h1)
  refine MH.mpr ⟨fun b hb=>?_,ih⟩
  rcases IP.mp hb with rfl | hb
  ·exact hpx
  ·exact C1 hpx ((MH.mp ih).1 b hb)
def x6:∀ {l:List Str},sortedS l=true→l.Pairwise le
 | [],_=>.nil
 | x::r,h=>ou h
end UfSrt
end
section
namespace UfSort
open PySem PySem.Spec PyProof.Rows UfSrt
theorem gA:∀ {vs:List Value} {ss:List Str},StrsAre vs ss→vs.length=ss.length
 | _,_,.nil=>rfl
 | _,_,.cons _ _ h=>by rw [Jh,Jh,gA h]
structure Left(h h':Heap)(D:Addr)(ss:List Str):Prop where
 keep:∀ b o,h.get? b=some o→h'.get? b=some o
 new:h.objs.size≤D
 at':∃ vs n,h'.get? D=some { cls:=.type "list",data:=.seq (List.toArray vs) n }∧StrsAre vs (aH ss)
def j8{r:Value}{ss:List Str}{Q:Value→Shared→Prop}
  (hc:∀ {Q':List Value→Shared→Prop},(∀ h' tk d vs ss',(∀ b o,s.heap.get? b=some o→h'.get? b=some o)→s.heap.objs.size≤h'.objs.size→StrsAre vs ss'→ss'.Perm ss→Q' vs { s with heap:=h',toks:=tk,drawn:=d })→wpAny (model prog w) A.in1 (collect r) Q' E s)
  (h64:ss.length<64) (h:∀ h' tk d D,Left s.heap h' D ss→Q (.ref D) { s with heap:=h',toks:=tk,drawn:=d }):wpAny (model prog w) A (call (.builtin "sorted") [r]) Q E s:=by
 refine K4 kind_sorted MY MZ (M0 _) ?_
 unfold Builtin.«sorted»
 refine IE (m:=checkCount "sorted" 1 1 _) (wpAny_pure ?_)
 refine IE (hc fun h1 tk d vs ss1 k1 z1 hS hp=>?_)
 have hl:vs.length=ss.length:=by rw [gA hS,hp.length_eq]
 refine IE (Mb ?_ (by rw [sizeLine_eq];lia))
 have hoL:(h1.push (seqObj "list" vs.toArray 0)).get? h1.objs.size=some (seqObj "list" vs.toArray 0):=IQ _ rfl
 refine IE (JI (Kj Mx ⟨_,hoL,rfl⟩ Mj (list_sort_treeK strKind_oneLt hoL hS.keysOf (fun v₁ v₂ rest e=>keyKind_strs (by rw [← e];exact hS)) (by lia) fun st' a1 a2=>⟨_,rfl,?_⟩) (My _)))
 obtain⟨ss',q1,q2,q3⟩:=sorted_out_str hS a1 a2
 obtain⟨e,he⟩:=MN (h:=h1.push (seqObj "list" vs.toArray 0)) (a:=h1.objs.size) (vs:=vs) (n:=0) (out:=(arrOf st').map (·.2)) hoL
 refine wpAny_pure ⟨_,rfl,h _ tk d _ ⟨fun b o hb=>?_,?_,((arrOf st').map (·.2)).toList,e,by rw [LA];exact he,?_⟩⟩
 ·have hb1:=k1 b o hb
  rw [Mz (IS (IJ hb1)) (by rw [Lj];exact Jp (IJ hb1))]
  exact IF _ hb1
 ·exact z1
 ·have:ss'=aH ss:=zc (x6 q3) (q2.trans hp)
  rw [← this]
  exact q1
theorem vS{ord:List Str}:∀ {vs:List Value} {j:Nat},vs.length+j=ord.length→(∀ (i:Nat) v,vs[i]?=some v→UfSet.At ord (j+i) v)→StrsAre vs (ord.drop j)
 | [],j,hl,_=>by
  rw [KL (by simp at hl;lia)]
  exact .nil
 | v::vs,j,hl,h=>by
  obtain⟨k,tk,e,hv⟩:=h 0 v rfl
  subst hv
  have hj:j<ord.length:=by simp at hl;lia
  have ej:ord[j]=k:=by
   rw [NR,IG hj] at e
   exact Jk e
  rw [K5 hj,ej]
  exact .cons k tk (vS (j:=j+1) (by simp at hl;lia) fun i v e=>by
   have:=h (i+1) v (by simpa using e)
   rw [show j+1+i=j+(i+1) by lia]
   exact this)
def tm{a:Addr}{ks:List Str}{Q:Value→Shared→Prop}(hh:A.handled=none)(hS:UfSet.c9 w s.heap a ks)(h64:ks.length<64)
  (h:∀ h' tk d D,Left s.heap h' D ks→Q (.ref D) { s with heap:=h',toks:=tk,drawn:=d }):wpAny (model prog w) A (call (.builtin "sorted") [.ref a]) Q E s :=
 j8 (fun {Q'} hq=>UfSet.rp (A:=A.in1) hh hS fun h' tk d ord vs hp hl hat hk hz=>hq h' tk d vs ord hk hz (by
  have:=vS (ord:=ord) (vs:=vs) (j:=0) (by lia) (fun i v e=>by rw [Ml];exact hat i v e)
  simpa using this) hp) h64 h
def rY{l:Addr}{vs:List Value}{ss:List Str}{Q:Value→Shared→Prop}(hl:s.heap.IsList l vs.toArray)(hS:StrsAre vs ss)(h64:ss.length<64)
  (h:∀ h' tk d D,Left s.heap h' D ss→Q (.ref D) { s with heap:=h',toks:=tk,drawn:=d }):wpAny (model prog w) A (call (.builtin "sorted") [.ref l]) Q E s :=
 j8 (fun {Q'} hq=>collect_list (A:=A.in1) hl (hq _ s.toks s.drawn vs ss (fun b o e=>by
  rw [Ju _ _ (Ki (IJ e))]
  exact IF _ e) (by rw [KG,Lj];exact JY _) hS (.refl _)) (by rw [sizeLine_eq,gA hS];lia)) h64 h
end UfSort
end
section
namespace UfSet
open PySem PyProof.Rows
def dd(xs:List Str):List Str:=xs.foldl dZ []
def yx{ks:List Str}{k x:Str}:x∈dZ ks k↔x∈ks∨x=k:=by
 unfold dZ
 split
 ·rename_i h
  constructor
  ·exact .inl
  ·rintro(q | rfl)
   ·exact q
   ·exact h
 ·simp
theorem qQ{x:Str}:∀ {xs acc:List Str},x∈xs.foldl dZ acc↔x∈acc∨x∈xs
 | [],acc=>by simp
 | y::xs,acc=>by
  rw [JD,qQ,yx,IP,or_assoc]
theorem lI:∀ {xs acc:List Str},acc.Nodup→(xs.foldl dZ acc).Nodup
 | [],_,h=>h
 | y::xs,acc,h=>lI (xs:=xs) (gN h)
theorem qC:∀ {xs acc:List Str},(xs.foldl dZ acc).length≤acc.length+xs.length
 | [],acc=>by simp
 | y::xs,acc=>by
  have h1:=qC (xs:=xs) (acc:=dZ acc y)
  have h2:=kO acc y
  rw [JD,Jh]
  lia
def qb{xs:List Str}{x:Str}:x∈dd xs↔x∈xs:=by unfold dd;rw [qQ];simp
def mh(xs:List Str):(dd xs).Nodup:=lI .nil
theorem jc:∀ {xs acc:List Str},(acc++xs).Nodup→xs.foldl dZ acc=acc++xs
 | [],acc,_=>by simp
 | y::xs,acc,h=>by
  have hy:¬ y∈acc:=fun z=>by
   rw [JT] at h
   exact h.2.2 y z y List.mem_cons_self rfl
  rw [JD,show dZ acc y=acc++[y] by unfold dZ;rw [if_neg hy],jc (by rw [List.append_assoc];exact h),List.append_assoc]
  rfl
def rj{xs:List Str}(h:xs.Nodup):dd xs=xs:=by unfold dd;rw [jc (by simpa using h)];rfl
theorem om:∀ {xs acc:List Str},acc.Nodup→(xs.foldl dZ acc).length=acc.length+xs.length→(acc++xs).Nodup
 | [],acc,h,_=>by simpa using h
 | y::xs,acc,h,hl=>by
  rw [JD,Jh] at hl
  by_cases hy:y∈acc
  ·rw [show dZ acc y=acc by unfold dZ;rw [if_pos hy]] at hl
   have:=qC (xs:=xs) (acc:=acc)
   lia
  ·have e:dZ acc y=acc++[y]:=by unfold dZ;rw [if_neg hy]
   rw [e] at hl
   have q:=om (xs:=xs) (acc:=acc++[y]) (by rw [← e];exact gN h) (by rw [List.length_append,J5];lia)
   rw [List.append_assoc] at q
   exact q
def ue{xs:List Str}:(dd xs).length=xs.length↔xs.Nodup:=by
 constructor
 ·intro h
  have:=om (xs:=xs) (acc:=[]) .nil (by rw [LJ,Ml];exact h)
  simpa using this
 ·intro h
  rw [rj h]
section
variable {prog:Program}{w:World}{A:Around}{R:Result→Shared→Prop}{I:Addr}{fp wr:List Addr}{G:Array GenState→Array GenState→Prop}{St:Nat→Shared→Prop}
def c9.keeps{w:World}{h h':Heap}{a:Addr}{ks:List Str}(x:c9 w h a ks)(k:∀ o,h.get? a=some o→h'.get? a=some o):c9 w h' a ks:=by
 obtain⟨o,es,ep,t,ks',ho,r⟩:=x
 exact⟨o,es,ep,t,ks',k _ ho,r⟩
def Ay{xs:List Str}(W:WalksS prog w A.in1 I fp wr G xs.length (At xs) St)(S:Addr)(hSf:S∉fp)(hb:xs.length+1<scanBound):∀ (k i:Nat) (s:Shared) (acc:List Str),xs.length-i=k→i≤xs.length→St i s→c9 w s.heap S acc→acc.length≤i →
  (∀ s',Moved (S::wr) G s s'→c9 w s'.heap S ((xs.drop i).foldl dZ acc)→R (.ok (.ret .none)) s')→codeAny (model prog w) A (.builtin "set.update.loop" ⟨[.ref S,.ref I],[]⟩) R s:=by
 have nSw:S∉wr:=fun z=>hSf (W.sub _ z)
 have sub:∀ b∈wr,b∈S::wr:=fun b z=>List.mem_cons_of_mem _ z
 intro k
 induction k with
 | zero =>
  intro i s acc hk hi st hS ha hR
  have e:i=xs.length:=by lia
  subst e
  refine J7 LU ?_
  rw [JP KQ _]
  show wpAny _ A.in1 (pyNext (.ref I) >>= _) _ _ s
  refine IE (W.done s _ _ st fun s' hm=>?_)
  show wpAny _ A.in1 (ret Value.none) _ _ s'
  refine wpAny_pure (hR s' (hm.mono sub) ?_)
  rw [KL (II _)]
  exact hS.keeps fun o ho=>hm.heap S _ nSw ho
 | succ k ih =>
  intro i s acc hk hi st hS ha hR
  have hlt:i<xs.length:=by lia
  refine J7 LU ?_
  rw [JP KQ _]
  show wpAny _ A.in1 (pyNext (.ref I) >>= _) _ _ s
  refine IE (W.item i s _ _ hlt st fun v s' hP st' hm=>?_)
  obtain⟨x,tk,ex,rfl⟩:=hP
  have hS':c9 w s'.heap S acc:=hS.keeps fun o ho=>hm.heap S _ nSw ho
  show wpAny _ A.in1 (holding [Value.str x tk] (setAdd S (.str x tk)) >>= _) _ _ s'
  refine IE (JI ?_)
  unfold setAdd
  refine JI ?_
  refine IE ((strKind prog w).pyHash (k:=x) (by simp [PySem.strKind,Value.isStrOf]) ?_)
  refine uJ (s:={ s' with toks:=s'.toks+1 }) hS' (by lia) fun h' b sb hS2=>?_
  have hd:xs.drop i=x::xs.drop (i+1):=by
   rw [K5 hlt]
   rw [IG hlt] at ex
   rw [Jk ex]
  refine wpAny_pure ⟨Kc KQ _,ih (i+1) _ (dZ acc x) (by lia) hlt (W.frame _ s' _ _ st' (JY _) fun b hb' o e=>?_) hS2 (by have:=kO acc x;lia) fun s'' hm2 hS3=>?_⟩
  ·rw [sb.2 b (fun z:b=S=>hSf (by rw [← z];exact hb'))];exact e
  ·refine hR s'' (Moved.trans W.gtrans ((hm.mono sub).then_heap (JY _) fun b o hb' e=>?_) hm2) ?_
   ·rw [sb.2 b (fun z:b=S=>hb' (by rw [z];exact List.mem_cons_self))];exact e
   ·rw [hd,JD]
    exact hS3
end
end UfSet
end
section
namespace UfSet
open PySem PyProof.Rows
abbrev cX(w:World):Obj:={ cls:=.type "set",dict:=none,data:=.set #[] 0 (.fresh 0 0 (!dO w)) }
def xN{w:World}{h:Heap}{a:Addr}(ho:h.get? a=some (cX w)):c9 w h a [] :=
 ⟨_,#[],0,_,[],ho,⟨rfl,rfl,rfl⟩,rfl,.nil,.refl _,.nil,by show 0<scanBound;unfold scanBound;lia,by rfl,fun _=>rfl,rfl⟩
theorem gA:∀ {vs:List Value} {ss:List Str},StrsAre vs ss→vs.length=ss.length
 | _,_,.nil=>rfl
 | _,_,.cons _ _ h=>by rw [Jh,Jh,gA h]
theorem qI:∀ {vs:List Value} {ss:List Str} {i:Nat} {v:Value},StrsAre vs ss→vs[i]?=some v→At ss i v
 | _,_,_,_,.nil,e=>by simp at e
 | _,_,0,v,.cons x t h,e=>by
  have:Value.str x t=v:=by simpa using e
  exact⟨x,t,rfl,this.symm⟩
 | _,_,i+1,_,.cons x t h,e=>by
  obtain⟨k,tk,q1,q2⟩:=qI (i:=i) h (by simpa using e)
  exact⟨k,tk,by simpa using q1,q2⟩
def _root_.PySem.Walks.imp{prog:Program}{w:World}{A:Around}{I:Addr}{fp wr:List Addr}{n:Nat}{P P':Nat→Value→Prop}{St:Nat→Heap→Prop}(W:Walks prog w A I fp wr n P St)(h:∀ i v,P i v→P' i v):Walks prog w A I fp wr n P' St where
 sub:=W.sub
 frame:=W.frame
 item:=fun i s Q E hi st hQ=>W.item i s Q E hi st fun v h' tk hP=>hQ v h' tk (h i v hP)
 done:=W.done
 self:=W.self
def Ah(x:Value){Q:Value→Shared→Prop}(hq:Q (.ref s.heap.objs.size) { s with heap:=s.heap.push (cX w) }) :
  codeAny (model prog w) A (.call (.builtin "set.__new__") ⟨[.type "set",x],[]⟩) (wants Q E) s:=by
 refine codeAny_of_tree ?_
 show wpAny _ A.in1 (checkBuiltinCall "set.__new__" ⟨[.type "set",x],[]⟩ >>= fun _=>again (.builtin "set.__new__" ⟨[.type "set",x],[]⟩)) _ _ s
 refine IE (wpAny_of_eq (PySem.F.newCall_set_1 x) (wpAny_pure ⟨Kc Nr _,J7 PySem.F.entry_set_new ?_⟩))
 rw [JP Nr _]
 unfold Builtin.«set.__new__» Builtin.Frozenset.newClass
 have f1:=sub_set_self
 obtain⟨hp,g,d,tk,os⟩:=s
 dsimp only
 wp_walk
 refine K8 (wpAny_pure ?_)
 dsimp only
 simp only [newObj]
 refine IE (wpAny_alloc (wpAny_pure ?_))
 exact wpAny_pure hq
def qO{l:Addr}{its:List Value}{xs:List Str}{Q:Value→Shared→Prop}(hh:A.handled=none)(hl:s.heap.IsList l its.toArray)(hx:StrsAre its xs)(hb:xs.length+1<scanBound)
  (h:∀ (h':Heap) (tk:Nat),c9 w h' s.heap.objs.size (dd xs)→(∀ b o,s.heap.get? b=some o→h'.get? b=some o)→Q (.ref s.heap.objs.size) { s with heap:=h',toks:=tk }) :
  wpAny (model prog w) A (call (.type "set") [.ref l]) Q E s:=by
 obtain⟨c,tl,g1⟩:=Kk.mro
 have g2:=Kk.made
 have g3:=Kk.sub
 refine wpAny_call (codeAny_of_tree ?_)
 show wpAny _ _ (callAny (.type "set") _) _ _ _
 refine wpAny_pure ⟨Code.quiet_builtin _ (by decide +kernel),J7 PySem.F.entry_type_call ?_⟩
 rw [Around.under_plain (weight_type_call_type "set" [.ref l] []) rfl]
 have g4:=Kk.notType
 have g5:=Kk.canCreate
 have g6:=PySem.F.typeCall_set_1 (.ref l)
 repeat (any_goals (first | assumption | wp_step))
 refine LP (Ah (.ref l) (E:=E) (Q:=fun obj s₁=>obj=.ref s.heap.objs.size∧s₁={ s with heap:=s.heap.push (cX w) }) ⟨rfl,rfl⟩) fun r s₁ hr=>?_
 cases r with
 | error e=>exact hr
 | ok fl =>
  cases fl with
  | ret obj =>
   obtain⟨rfl,rfl⟩:=hr
   have o1:(s.heap.push (cX w)).get? s.heap.objs.size=some (cX w):=IQ _ rfl
   have T1:Shared.TypeIs { s with heap:=s.heap.push (cX w) } (.ref s.heap.objs.size) "set":=⟨_,o1,rfl⟩
   have g7:=Kk.init.lookup
   have g8:=Kk.init.bind (.ref s.heap.objs.size)
   repeat (any_goals (first | assumption | wp_step))
   refine LP (codeAny_call_builtin (R:=wants (fun r s₂=>r=.none∧∃ h' tk,s₂={ s with heap:=h',toks:=tk }∧c9 w h' s.heap.objs.size (dd xs)∧(∀ b o,s.heap.get? b=some o→h'.get? b=some o)) E) Kk.init.plain PySem.F.entry_set_init (check_set_init_1 T1 ?_)) fun r₂ s₂ hr₂=>?_
   ·obtain⟨ol,hol,hcl,nl,hdl⟩:=hl
    obtain⟨ocls,odict,odata,oslots⟩:=ol
    simp only at hcl hdl
    subst hcl;subst hdl
    have hol':(s.heap.push (cX w)).get? l=some { cls:=.type "list",dict:=odict,data:=.seq its.toArray nl,slots:=oslots }:=IF _ hol
    have n1:=PySem.F.sub_list_set
    have n2:=PySem.F.sub_list_frozenset
    have n3:(Value.type "list" == Value.type "dict")=false:=by decide
    have l1:(s.heap.push (cX w)).IsList l its.toArray:=⟨_,hol',rfl,nl,rfl⟩
    unfold Builtin.«set.__init__» noKeywords Builtin.Frozenset.updateFrom
    generalize hPI:pyIter=PI
    wp_walk
    subst hPI
    refine Lp l1 ?_
    refine IE (wpAny_runValue ?_)
    have lt:l<s.heap.objs.size:=IJ hol
    have h3:A.in1.in1.in1.handled=none:=by simp [hh]
    have neI:l≠(s.heap.push (cX w)).objs.size:=by rw [JV];exact IS (Jp lt)
    have nf:s.heap.objs.size∉[(s.heap.push (cX w)).objs.size,l]:=by
     rw [JV]
     simp only [IP,Jq,Ke,Mm]
     exact⟨IS (JX _),Ki lt⟩
    have hat:∀ (i:Nat) (v:Value),its.toArray[i]?=some v→At xs i v:=fun i v e=>by
     have e':its[i]?=some v:=by simpa using e
     exact qI hx e'
    have hsz:its.toArray.size=xs.length:=by rw [IY];exact gA hx
    have W0:=(Ny (prog:=prog) (w:=w) h3 (s.heap.push (cX w)).objs.size l neI its.toArray).imp hat
    rw [hsz] at W0
    refine Ay W0.toS s.heap.objs.size nf hb xs.length 0 _ [] (by lia) (IU _) ⟨⟨_,IQ _ rfl,rfl,rfl⟩,(l1.push _)⟩ (xN (IF _ o1)) (II _) ?_
    intro s' hm hS'
    rw [MA] at hS'
    rw [mV hm]
    show wpAny _ _ _ _ _ _
    refine wpAny_pure ?_
    show wpAny _ _ (ret Value.none) _ _ _
    refine wpAny_pure ⟨rfl,s'.heap,s'.toks,rfl,hS',fun b o e=>?_⟩
    have lb:=IJ e
    refine hm.heap b o (fun z=>?_) (IF _ (IF _ e))
    simp only [IP,Jq,Ke] at z
    rcases z with z | z
    ·exact absurd z (IS lb)
    ·rw [JV] at z
     exact absurd z (IS (Jp lb))
   ·cases r₂ with
    | error e=>exact hr₂
    | ok fl₂ =>
     cases fl₂ with
     | ret r =>
      obtain⟨rfl,h',tk,rfl,q1,q2⟩:=hr₂
      repeat (any_goals (first | assumption | wp_step))
      exact h _ _ q1 q2
     | _=>exact hr₂.elim
  | _=>exact hr.elim
end UfSet
end
section
namespace L2
open PySem PySem.Spec PyProof.Rows UfSrt
section
variable {X:Cx}{pins:List (Addr × Obj)}{σ:St}{H:Hp}{s:Shared}
def Inv.draw(I:Inv X pins σ H s)(d:Drawn):Inv X pins σ H { s with drawn:=d } :=
 ⟨I.ok,I.os,I.bare,I.base,I.loc,I.cell,I.free,I.freeC,I.pin,I.hok,I.len⟩
def aF(ss:List Str):List V:=ss.map V.str
theorem pF:∀ {ss:List Str} {us:List Value},Vals (aF ss) us→StrsAre us ss
 | [],_,.nil=>.nil
 | x::ss,_,.cons r t=>by
  obtain⟨tk,rfl⟩:=r
  exact .cons x tk (pF t)
theorem vP:∀ {ss:List Str} {us:List Value},StrsAre us ss→Vals (aF ss) us
 | _,_,.nil=>.nil
 | _,_,.cons x tk h=>.cons ⟨tk,rfl⟩ (vP h)
def aw(ss:List Str):(aF ss).length=ss.length:=List.length_map _
def sC(w:World)(a:Addr)(ks:List Str):HO:=.ext fun h=>UfSet.c9 w h a ks
def EC{P:Program}{w:World}{H':Hp}{h:Heap}{a:Addr}{ks:List Str}(x:UfSet.c9 w h a ks):bJ P w H' h a (sC w a ks):=by
 refine⟨x,?_,fun h1 h2 p k=>p.keeps k⟩
 obtain⟨o,_,_,_,_,e,_⟩:=x
 exact⟨o,e⟩
def yO{a:Addr}{ks:List Str}(I:Inv X pins σ H s)(e:H a=some (sC X.w a ks)):UfSet.c9 X.w s.heap a ks:=(I.hok a _ e).1
def EM(K:PySem.W.Frag)(w:World):List V→Hp→VK→Prop:=fun xs H Q=>∃ l ss,xs=[.ref l]∧aA K H l (aF ss)∧ss.length≤1000∧∀ p,H p=none→Q (.ref p) (upd H p (sC w p (UfSet.dd ss)))
def rN(hc:X.calm=true):dM X (.type "set") (EM X.K X.w):=by
 intro pins s σ H xs us Q I r h
 obtain⟨l,ss,rfl,hl,hz,q⟩:=h
 obtain⟨u,rfl,ru⟩:=vals1 r
 cases ru
 obtain⟨its,rv,pl,_⟩:=I.list hl
 have hS:=pF rv
 have hf:H s.heap.objs.size=none:=I.hok.fresh (II _)
 refine UfSet.qO (I.ok.hd hc) pl.isList hS (by show ss.length+1<4096;lia) fun h' tk hset hk=>?_
 exact⟨.ref s.heap.objs.size,_,I.laid (t':=tk) hk (II _) (EC hset),rfl,q _ hf⟩
def xU:dM X (.builtin "len") (fun xs H Q=>∃ a ks,xs=[V.ref a]∧H a=some (sC X.w a ks)∧Q (.int ks.length) H):=by
 intro pins s σ H xs us Q I r h
 obtain⟨a,ks,rfl,ha,q⟩:=h
 obtain⟨u,rfl,ru⟩:=vals1 r
 cases ru
 obtain⟨o,es,ep,t,ks',ho,hex,hd,he,hp,hn,hb,hf,_⟩:=yO I ha
 have el:es.size=ks.length:=by rw [← hp.length_eq,he.len];simp
 have hb':es.size<4096:=hb
 refine call_len_set ho hex hd hf (by lia) ⟨.int ks.length,H,I.tok _,⟨_,by rw [el]⟩,q⟩
def mE{h':Heap}{tk:Nat}{d:Drawn}{D:Addr}{ss:List Str}(I:Inv X pins σ H s)(L:UfSort.Left s.heap h' D ss)(hz:ss.length≤1000):Inv X pins σ (upd H D (.lst (aF (aH ss)))) { s with heap:=h',toks:=tk,drawn:=d }:=by
 obtain⟨vs,n,e,hS⟩:=L.at'
 have hl:(aF (aH ss)).length≤sizeLine:=by
  rw [aw,bW,sizeLine_eq]
  lia
 exact(I.laid (o:=.lst (aF (aH ss))) (t':=tk) L.keep L.new (show bJ X.prog X.w _ h' D (.lst (aF (aH ss))) from⟨hl,vs,n,vP hS,e⟩)).draw d
def DY(K:PySem.W.Frag):List V→Hp→VK→Prop:=fun xs H Q=>∃ l ss,xs=[.ref l]∧aA K H l (aF ss)∧ss.length<64∧∀ p,H p=none→Q (.ref p) (upd H p (.lst (aF (aH ss))))
def dz:dM X (.builtin "sorted") (DY X.K):=by
 intro pins s σ H xs us Q I r h
 obtain⟨l,ss,rfl,hl,hz,q⟩:=h
 obtain⟨u,rfl,ru⟩:=vals1 r
 cases ru
 obtain⟨its,rv,pl,_⟩:=I.list hl
 refine UfSort.rY pl.isList (pF rv) hz fun h' tk d D L=>?_
 exact⟨.ref D,_,mE I L (by lia),rfl,q _ (I.hok.fresh L.new)⟩
def EU(w:World):List V→Hp→VK→Prop:=fun xs H Q=>∃ a ks,xs=[.ref a]∧H a=some (sC w a ks)∧ks.length<64∧∀ p,H p=none→Q (.ref p) (upd H p (.lst (aF (aH ks))))
def uW(hc:X.calm=true):dM X (.builtin "sorted") (EU X.w):=by
 intro pins s σ H xs us Q I r h
 obtain⟨a,ks,rfl,ha,hz,q⟩:=h
 obtain⟨u,rfl,ru⟩:=vals1 r
 cases ru
 refine UfSort.tm (I.ok.hd hc) (yO I ha) hz fun h' tk d D L=>?_
 exact⟨.ref D,_,mE I L (by lia),rfl,q _ (I.hok.fresh L.new)⟩
theorem zR:∀ {bs:List Bool} {us:List Value} {i:Nat} {v:Value},Vals (bs.map V.bl) us→us[i]?=some v→v=.bool (bs.getD i true)∧i<bs.length
 | [],_,_,_,.nil,e=>by simp at e
 | b::bs,_,0,v,.cons r t,e=>by
  simp at e
  subst e
  exact⟨r,by simp⟩
 | b::bs,_,i+1,v,.cons r t,e=>by
  obtain⟨h1,h2⟩:=zR (i:=i) t (by simpa using e)
  exact⟨by simpa using h1,by simpa using h2⟩
def all_range(bs:List Bool):(List.range bs.length).all (fun i=>bs.getD i true)=bs.all id:=by
 induction bs with
 | nil=>rfl
 | cons b bs ih =>
  rw [Jh,Nm,Ma,LV,Ma]
  have e:(List.range bs.length).all ((fun i=>(b::bs).getD i true) ∘ Nat.succ)=(List.range bs.length).all (fun i=>bs.getD i true):=by
   congr 1
  rw [e,ih]
  rfl
def any_range(bs:List Bool):(List.range bs.length).any (fun i=>bs.getD i true)=bs.any id:=by
 induction bs with
 | nil=>rfl
 | cons b bs ih =>
  rw [Jh,Nm,K0,Mn,K0]
  have e:(List.range bs.length).any ((fun i=>(b::bs).getD i true) ∘ Nat.succ)=(List.range bs.length).any (fun i=>bs.getD i true):=by
   congr 1
  rw [e,ih]
  rfl
def mz{A:Around}{l:Addr}{bs:List Bool}{its:List Value}(hh:A.handled=none)(rv:Vals (bs.map V.bl) its)(I:Addr)(hne:l≠I) :
  Walks X.prog X.w A I [I,l] [I] bs.length (fun i v=>v=.bool (bs.getD i true)) (fun i h=>h.IsListIter I l i∧h.IsList l its.toArray):=by
 have el:its.toArray.size=bs.length:=by
  have:=rv.length
  rw [List.length_map] at this
  simp [this]
 have W:=(Ny (prog:=X.prog) (w:=X.w) hh I l hne its.toArray).imp (P':=fun i v=>v=.bool (bs.getD i true)) fun i v e=>(zR rv (by simpa using e)).1
 rw [el] at W
 exact W
def Hr(K:PySem.W.Frag):List V→Hp→VK→Prop:=fun xs H Q=>∃ (l:Addr) (bs:List Bool),xs=[.ref l]∧aA K H l (bs.map V.bl)∧Q (.bl (bs.all id)) H
def HK(K:PySem.W.Frag):List V→Hp→VK→Prop:=fun xs H Q=>∃ (l:Addr) (bs:List Bool),xs=[.ref l]∧aA K H l (bs.map V.bl)∧Q (.bl (bs.any id)) H
def iq(hc:X.calm=true):dM X (.builtin "all") (Hr X.K):=by
 intro pins s σ H xs us Q I r h
 obtain⟨l,bs,rfl,hl,q⟩:=h
 obtain⟨u,rfl,ru⟩:=vals1 r
 cases ru
 obtain⟨its,rv,pl,_⟩:=I.list hl
 have hh:X.A.in1.handled=none:=I.ok.hd hc
 have lt:l<s.heap.objs.size:=let ⟨o,_,e,_⟩:=pl;IJ e
 refine call_all_walk (Lp pl.isList ⟨_,_,_,_,_,_,fun i=>bs.getD i true,rfl,mz hh rv _ (IS lt),⟨⟨_,IQ _ rfl,rfl,rfl⟩,pl.isList.push _⟩,fun i v s Q E hv hQ=>?_,fun h' tk hk=>?_⟩)
 ·subst hv
  exact JE hQ
 ·rw [all_range]
  refine⟨.bl (bs.all id),H,I.kept (t':=tk) fun b o e=>hk b o (fun z=>?_) (IF _ e),rfl,q⟩
  have z':b=s.heap.objs.size:=by simpa using z
  exact absurd (IJ e) (by rw [z'];exact JC _)
def mS(hc:X.calm=true):dM X (.builtin "any") (HK X.K):=by
 intro pins s σ H xs us Q I r h
 obtain⟨l,bs,rfl,hl,q⟩:=h
 obtain⟨u,rfl,ru⟩:=vals1 r
 cases ru
 obtain⟨its,rv,pl,_⟩:=I.list hl
 have hh:X.A.in1.handled=none:=I.ok.hd hc
 have lt:l<s.heap.objs.size:=let ⟨o,_,e,_⟩:=pl;IJ e
 refine call_any_walk (Lp pl.isList ⟨_,_,_,_,_,_,fun i=>bs.getD i true,rfl,mz hh rv _ (IS lt),⟨⟨_,IQ _ rfl,rfl,rfl⟩,pl.isList.push _⟩,fun i v s Q E hv hQ=>?_,fun h' tk hk=>?_⟩)
 ·subst hv
  exact JE hQ
 ·rw [any_range]
  refine⟨.bl (bs.any id),H,I.kept (t':=tk) fun b o e=>hk b o (fun z=>?_) (IF _ e),rfl,q⟩
  have z':b=s.heap.objs.size:=by simpa using z
  exact absurd (IJ e) (by rw [z'];exact JC _)
def sign(c:Nat):V:=.str ⟨#[c]⟩
def FN(x:Str):It:=⟨fun i _=>i<x.cps.size,fun i H v H'=>H'=H∧∃ c,x.cps[i]?=some c∧v=sign c,fun i _=>i=x.cps.size⟩
end
def rV{P:Program}{w:World}{K:PySem.W.Frag}{tg:Expr}{x:Str}{it:Addr}{St:Nat→Heap→Prop}(W:∀ A':Around,A'.handled=none→Walks P w A' it [it] [it] x.cps.size (SignAt x) St)
  (ho:∀ i h,St i h→∃ o nm vs,h.get? it=some o∧o.cls=.type nm∧o.data=.fields vs∧["enumerate", "zip", "dict_itemiterator", "dict_reverseitemiterator", "odict_iterator", "itertools.zip_longest", "itertools.pairwise"].contains nm=false)
  (hs:∀ (A:Around) (i:Nat) (s:Shared) (Q:Value→Shared→Prop) (E:Value→Shared→Prop),St i s.heap→Q (.ref it) s→wpAny (model P w) A (pyIter (.ref it)) Q E s):Turn P w K tg (FN x) [it] it St where
 mem:=by simp
 obj:=fun i h st b hb=>by
  have e:b=it:=by simpa using hb
  subst e
  obtain⟨o,nm,vs,e,_,d,_⟩:=ho i h st
  exact⟨o,e,fun v z=>by rw [d] at z;cases z⟩
 keep:=fun i h h' st k=>(W ⟨none,0,none,none,1⟩ rfl).frame i h h' st fun b hb o e=>k b hb o e
 item:=by
  intro X hP hw hK hc i pins s σ H E I hf st hg
  subst hP hw hK
  obtain⟨f0,f1,f2,f3,f4,f5⟩:=hf it (by simp)
  refine(W X.A (I.ok.hd hc)).item i s _ _ hg st fun v h' tk hP st' kk=>?_
  obtain⟨c,u,hx,rfl⟩:=hP
  have I1:Inv X pins σ H { s with heap:=h',toks:=tk }:=I.turned (fun b o hb e=>kk b o (by simpa using hb) e) f0 f1 f3 f4 f5
  obtain⟨o,nm,vs,e,c1,d,hn⟩:=ho _ _ st'
  exact⟨_,rfl,wo (s:={ s with heap:=h',toks:=tk }) e c1 d hn ⟨sign c,H,I1,⟨u,rfl⟩,⟨rfl,c,hx,rfl⟩,st',fun b hb=>(hf b hb).1⟩⟩
 done:=by
  intro X hP hw hK hc i pins s σ H E I hf st hg
  subst hP hw hK
  obtain⟨f0,f1,f2,f3,f4,f5⟩:=hf it (by simp)
  have e:i=x.cps.size:=hg
  subst e
  exact(W X.A (I.ok.hd hc)).done s _ _ st fun h' tk kk=>⟨rfl,I.turned (fun b o hb e=>kk b o (by simpa using hb) e) f0 f1 f3 f4 f5⟩
 self:=hs
section
variable {X:Cx}{tg:Expr}
def Ic(tl:TE):TI:=fun σ H R=>tl σ H fun v H1=>∃ x,v=.str x∧R (FN x) H1
def Dx{l:Expr}{tl:TE}(hl:PE X l tl):PI X tg l (Ic tl):=by
 intro pins s σ H R I h
 refine bM (hl pins s σ H _ I h) fun v s1 ⟨y,H1,I1,r1,q1⟩=>?_
 obtain⟨x,e,q⟩:=q1
 subst e
 obtain⟨t,rfl⟩:=r1
 have fp:∀ b∈[s1.heap.objs.size],iE X pins H1 b:=fun b hb=>by
  have e:b=s1.heap.objs.size:=by simpa using hb
  subst e
  exact I1.Au (II _) (I1.hok.fresh (II _))
 cases ha:x.cps.all (· < 128) with
 | false =>
  refine wpAny_pyIter_wide ha ?_
  refine⟨s1.heap.objs.size,[s1.heap.objs.size],fun i h=>h.IsStrIter s1.heap.objs.size "str_iterator" x t i,FN x,H1,rfl,I1.kept (t':=s1.toks) fun b o e=>IF _ e,rV (fun A' hA=>Walks.strWide hA _ x t) (fun i h st=>?_) (fun A i s Q E st hq=>wpAny_pyIter_striter_wide st hq),⟨_,IQ _ rfl,rfl,rfl⟩,fp,q⟩
  obtain⟨o,e1,e2,e3⟩:=st
  exact⟨o,_,_,e1,e2,e3,by decide⟩
 | true =>
  refine wpAny_pyIter_ascii ha ?_
  refine⟨s1.heap.objs.size,[s1.heap.objs.size],fun i h=>h.IsStrIter s1.heap.objs.size "str_ascii_iterator" x t i,FN x,H1,rfl,I1.kept (t':=s1.toks) fun b o e=>IF _ e,rV (fun A' hA=>Walks.strAscii hA _ x t) (fun i h st=>?_) (fun A i s Q E st hq=>wpAny_pyIter_striter_ascii st hq),⟨_,IQ _ rfl,rfl,rfl⟩,fp,q⟩
  obtain⟨o,e1,e2,e3⟩:=st
  exact⟨o,_,_,e1,e2,e3,by decide⟩
end
section
variable {K:PySem.W.Frag}{n:Nat}{ci:List Nat}{g:TG}{tt:TT}{te:TE}{σ:St}{H:Hp}{D:Addr}{Q:VK}
def cy{a:Addr}{xs:List V}(Pv:Nat→List V→Hp→Prop)(h0:Pv 0 [] (upd H D (.lst [])))(hl:∀ i ys H,i≤xs.length→Pv i ys H→aA K H a xs)
  (hs:∀ i x ys H,xs[i]?=some x→Pv i ys H→g x (sR n ci σ) H fun σ2 H2=>tt σ2 H2 fun b H3=>if b=true then te σ2 H3 fun y H4=>H4 D=some (.lst ys)∧ys.length<sizeLine∧Pv (i+1) (ys++[y]) (upd H4 D (.lst (ys++[y]))) else Pv (i+1) ys H3)
  (hd:∀ ys H,Pv xs.length ys H→Q (.ref D) H) :
  gY n ci (DD K a) g tt te σ H D Q:=by
 unfold gY
 refine⟨xs.length,Pv,h0,fun i ys H hi p=>?_⟩
 have q:=hl i ys H hi p
 by_cases hlt:i<xs.length
 ·refine .inr ⟨hlt,⟨xs,xs[i],q,by simp [hlt]⟩,fun x H' y=>?_⟩
  obtain⟨e,y⟩:=y
  subst e
  exact hs i x ys _ (y xs q) p
 ·have e:i=xs.length:=by lia
  subst e
  exact .inl ⟨⟨xs,q,II _⟩,hd ys H p⟩
def yA{a:Addr}{xs:List V}(Pv:Nat→List V→Hp→Prop)(h0:Pv 0 [] (upd H D (.lst [])))(hl:∀ i ys H,i≤xs.length→Pv i ys H→bO K H a xs)
  (hs:∀ i x ys H,xs[i]?=some x→Pv i ys H→g x (sR n ci σ) H fun σ2 H2=>tt σ2 H2 fun b H3=>if b=true then te σ2 H3 fun y H4=>H4 D=some (.lst ys)∧ys.length<sizeLine∧Pv (i+1) (ys++[y]) (upd H4 D (.lst (ys++[y]))) else Pv (i+1) ys H3)
  (hd:∀ ys H,Pv xs.length ys H→Q (.ref D) H) :
  gY n ci (Eu K a) g tt te σ H D Q:=by
 unfold gY
 refine⟨xs.length,Pv,h0,fun i ys H hi p=>?_⟩
 have q:=hl i ys H hi p
 by_cases hlt:i<xs.length
 ·refine .inr ⟨hlt,⟨xs,xs[i],q,by simp [hlt]⟩,fun x H' y=>?_⟩
  obtain⟨e,y⟩:=y
  subst e
  exact hs i x ys _ (y xs q) p
 ·have e:i=xs.length:=by lia
  subst e
  exact .inl ⟨⟨xs,q,II _⟩,hd ys H p⟩
def zJ{x:Str}(Pv:Nat→List V→Hp→Prop)(h0:Pv 0 [] (upd H D (.lst [])))
  (hs:∀ i c ys H,x.cps[i]?=some c→Pv i ys H→g (sign c) (sR n ci σ) H fun σ2 H2=>tt σ2 H2 fun b H3=>if b=true then te σ2 H3 fun y H4=>H4 D=some (.lst ys)∧ys.length<sizeLine∧Pv (i+1) (ys++[y]) (upd H4 D (.lst (ys++[y]))) else Pv (i+1) ys H3)
  (hd:∀ ys H,Pv x.cps.size ys H→Q (.ref D) H) :
  gY n ci (FN x) g tt te σ H D Q:=by
 unfold gY
 refine⟨x.cps.size,Pv,h0,fun i ys H hi p=>?_⟩
 by_cases hlt:i<x.cps.size
 ·refine .inr ⟨hlt,hlt,fun v H' y=>?_⟩
  obtain⟨e,c,hc,rfl⟩:=y
  subst e
  exact hs i c ys _ hc p
 ·have e:i=x.cps.size:=by lia
  subst e
  exact .inl ⟨rfl,hd ys H p⟩
end
end L2
end
section
namespace Uf
open PySem L2 UfSrt
def top (i:Nat):Stmt:=PySem.Challenge.pw_unfoldnet_k41_levels.main.body.getD i (.Pass ⟨0,0,0,0⟩)
abbrev eF:Stmt:=top 15
abbrev iO:Stmt:=top 22
abbrev jD:Stmt:=top 23
abbrev jR:Stmt:=top 24
abbrev pZ:Stmt:=top 25
def qX:bootBuiltins "all"=some (.builtin "all"):=by decide +kernel
def zq:bootBuiltins "any"=some (.builtin "any"):=by decide +kernel
def cL:bootBuiltins "len"=some (.builtin "len"):=by decide +kernel
def C6:bootBuiltins "set"=some (.type "set"):=by decide +kernel
def dA:bootBuiltins "list"=some (.type "list"):=by decide +kernel
def fj:bootBuiltins "tuple"=some (.type "tuple"):=by decide +kernel
def Fp:bootBuiltins "str"=some (.type "str"):=by decide +kernel
def cn:bootBuiltins "sorted"=some (.builtin "sorted"):=by decide +kernel
def qW:bootBuiltins "isinstance"=some (.builtin "isinstance"):=by decide +kernel
def AL:Str:="abcdefghijklmnopqrstuvwxyz"
def isNm(x:Str):Bool:=decide (1≤x.length)&&(decide (x.length≤8)&&x.cps.toList.all fun c=>decide (c∈AL.cps.toList))
structure Txt(K:PySem.W.Frag)(mg:Str→Option Value):Prop where
 all:mg "all"=none
 len:mg "len"=none
 set:mg "set"=none
 lst:mg "list"=none
 tup:mg "tuple"=none
 str:mg "str"=none
 aH:mg "sorted"=none
 isi:mg "isinstance"=none
 letters:∃ tk,mg "LETTERS"=some (.str AL tk)
 longest:∃ tk,mg "LONGEST_NAME"=some (.int 8 tk)
 mostP:∃ tk,mg "MOST_PLACES"=some (.int 12 tk)
 mostM:∃ tk,mg "MOST_MOVES"=some (.int 12 tk)
 leastT:∃ tk,mg "LEAST_TAKEN"=some (.int 1 tk)
 mostT:∃ tk,mg "MOST_TAKEN"=some (.int 4 tk)
 mostG:∃ tk,mg "MOST_GIVEN"=some (.int 4 tk)
def ao{H:Hp}{D:Addr}{o:HO}(h:H D=none):aq H (upd H D o):=fun b u e=>by
 rw [ah (aj e h)]
 exact e
def aY{H H2:Hp}{D:Addr}{o:HO}(s:aq H H2)(h:H D=none):aq H (upd H2 D o):=fun b u e=>by
 rw [ah (aj e h)]
 exact s b u e
def nE{H:Hp}{D:Addr}(h:H D=none)(o:HO):∃ H',upd H D o=H'∧aq H H'∧H' D=some o:=⟨_,rfl,ao h,ag⟩
def av{α:Type}{l:List α}{i:Nat}{a:α}(h:l[i]?=some a):l.take (i+1)=l.take i++[a]:=by
 rw [List.take_add_one,h]
 rfl
def nd_of{X:Cx}{N:List Str}(h:N.Nodup)(e:X.N=N:=by rfl):X.N.Nodup:=by rw [e];exact h
section
variable {X:Cx}
def iD:dM X (.builtin "isinstance") (fun xs H Q=>∃ x c t b,xs=[x,.ty c]∧gZ X.K H x t∧PySem.W.kitOne X.K t (.type c)=some b∧Q (.bl b) H):=by
 intro pins s σ H xs us Q I r h
 obtain⟨x,c,t,b,rfl,ty,e,q⟩:=h
 obtain⟨u,v,rfl,ru,rv⟩:=vals2 r
 cases rv
 exact xv I ru ty e fun tk=>⟨.bl b,H,I.tok tk,rfl,q⟩
end
def nv:Sp:=fun vs H Q _=>∃ x:Str,vs=[.str x]∧x.length≤1000∧∀ H',aq H H'→Q (.bl (isNm x)) H'
def qZ:aD ["thing"] ["thing"] (au eF):=eR
def oZ{f:Addr}{fd:FuncData}(F:dv K "is_name" "is_name" eF f fd)(T:Txt K mg):bo P w K mg base cS 1 f fd ["thing"] nv:=by
 refine F.oK qZ fun cdv A outer s H vs Q E hr h=>?_
 ·obtain⟨x,rfl,hz,k⟩:=h
  obtain⟨tl,hl⟩:=T.letters
  obtain⟨tn,hn⟩:=T.longest
  refine⟨_,af (bH (PW.pt (pw_or (cz (cf (ay iD rfl T.isi qW (aa (pv 0) (aa (jS (v:=.ty "str") rfl T.str Fp rfl) ae)))))
    (pw_or1 (cz (sD lV lV ak (ay bu rfl T.len cL (aa (pv 0) ae)) (gQ (v:=.int 8) rfl hn ⟨tn,rfl⟩))))))
    (ai (aI jP)) aU)
   (ai (aI (ay (iq rfl) rfl T.all qX (aa (bN (N:=["sign"]) (n:=1) (ci:=[]) rfl (Dx (pv 0)) (j6 qZ)
    (fun z=>⟨jg 0,bV,cY ya (pv 0) (gQ (v:=.str AL) rfl hl ⟨tl,rfl⟩) (by with_unfolding_all rfl)⟩)) ae)))),?_⟩
  refine⟨_,rfl,_, "str",_,true,rfl,gZ.str x,(by rfl),true,rfl,?_⟩
  refine bB ?_
  have hs:x.length≤sizeLine:=by rw [sizeLine_eq];lia
  refine⟨_,rfl,_,x.length,rfl,⟨hs,rfl⟩,1,_,rfl,rfl,_,rfl,?_⟩
  by_cases h1:1≤x.length
  ·rw [IL (show(1:Int)≤(x.length:Int) by lia)]
   refine bF ?_
   refine⟨_,_,rfl,rfl,_,rfl,?_⟩
   by_cases h8:x.length≤8
   ·rw [IL (show(x.length:Int)≤8 by lia)]
    refine bB ?_
    refine⟨_,rfl,x,rfl,fun z D hD=>zJ (fun i ys H2=>ys=(x.cps.toList.take i).map (fun c=>V.bl (decide (c∈AL.cps.toList)))∧H2 D=some (.lst ys)∧aq H H2) ⟨rfl,ag,ao hD⟩ ?_ ?_⟩
    ·rintro i c ys H2 hc ⟨rfl,hys,sm⟩
     refine⟨_,rfl,⟨#[c]⟩,AL,rfl,rfl,hys,?_,?_,ag,aY sm hD⟩
     ·rw [List.length_map,Jj,JR]
      have:x.cps.size≤8:=h8
      rw [sizeLine_eq]
      lia
     ·rw [av (by rw [JM];exact hc),List.map_append,PySem.StrLaws.found_one]
      rfl
    ·rintro ys H2 ⟨rfl,hys,sm⟩
     refine⟨D,x.cps.toList.map fun c=>decide (c∈AL.cps.toList),rfl,aA.of ?_,?_⟩
     ·rw [hys]
      rw [Kp (by simp),List.map_map]
      rfl
     ·have e:isNm x=(x.cps.toList.map fun c=>decide (c∈AL.cps.toList)).all id:=by
       unfold isNm
       rw [IL h1,IL h8,LV]
       rfl
      rw [← e]
      exact k H2 sm
   ·rw [decide_eq_false (show ¬(x.length:Int)≤8 by lia)]
    refine bF ?_
    have e:isNm x=false:=by unfold isNm;rw [decide_eq_false h8];simp
    rw [← e]
    exact k H (aq.refl H)
  ·rw [decide_eq_false (show ¬(1:Int)≤(x.length:Int) by lia)]
   refine bB ⟨_,rfl,?_⟩
   refine bF ?_
   have e:isNm x=false:=by unfold isNm;rw [decide_eq_false h1];simp
   rw [← e]
   exact k H (aq.refl H)
structure Def(K:PySem.W.Frag)(mg:Str→Option Value)(x:Str)(st:Stmt)(ps:List Str)(f:Addr)(fd:FuncData):Prop where
 fn:dv K x x st f fd
 mg:mg x=some (.ref f)
 bd:Binds K fd ps []
structure gJ(P:Program)(w:World)(K:PySem.W.Frag)(mg:Str→Option Value)(base:Heap)(x:Str)(st:Stmt)(ps:List Str)(k:Nat)(sp:Sp) where
 f:Addr
 fd:FuncData
 d:Def K mg x st ps f fd
 g:bo P w K mg base cS k f fd ps sp
def eA{X:Cx}{x:Str}{st:Stmt}{ps:List Str}{k:Nat}{sp:Sp}{e:Expr}{es:List Expr}{t:TA}{p pos:Pos}(D:gJ X.prog X.w X.K X.mg X.base x st ps k sp)(hr:cw k X.A)(ha:PA X (e::es) t)(hg:Gl X x:=by rfl)(hdb:(x==("__debug__":Str))=false:=by decide)(he:starEach (e::es) X.env=(false,eval e X.env)::starEach es X.env:=by rfl)(hpl:(backTo pos (starEach es X.env)).any (·.1)=false:=by rfl) :
  PE X (.Call (.Name x p) (e::es) [] pos) (Dh sp [] E0 t):=dP D.g hr hg D.d.mg D.d.fn.kp D.d.bd .nil bz ha hdb he hpl
def unlike(xs:List Str):Bool:=xs.all isNm&&decide xs.Nodup
def Short(xs:List Str):Prop:=xs.length≤200∧∀ x∈xs,x.length≤1000
def cZ{xs:List Str}{i:Nat}{v:V}(h:(aF xs)[i]?=some v):∃ x,xs[i]?=some x∧v=.str x:=by
 unfold aF at h
 rw [List.getElem?_map] at h
 cases e:xs[i]? with
 | none=>rw [e] at h;cases h
 | some x=>rw [e] at h;exact⟨x,rfl,(Jk h).symm⟩
def lJ(K:PySem.W.Frag):Sp:=fun vs H Q _=>∃ (a:Addr) (xs:List Str),vs=[.ref a]∧aA K H a (aF xs)∧Short xs∧∀ H',aq H H'→Q (.bl (unlike xs)) H'
def sH:aD ["things"] ["things"] (au iO):=eR
def oR{f fN:Addr}{fd fdN:FuncData}(F:dv K "are_unlike_names" "are_unlike_names" iO f fd)(T:Txt K mg)(DN:Def K mg "is_name" eF ["thing"] fN fdN):bo P w K mg base cS 2 f fd ["things"] (lJ K):=by
 have GN:bo P w K mg base cS 1 fN fdN ["thing"] nv:=oZ DN.fn T
 refine F.oK sH fun cdv A outer s H vs Q E hr h=>?_
 ·obtain⟨a,xs,rfl,ha,hz,k⟩:=h
  refine⟨_,ai (aI (kD (ay (iq rfl) rfl T.all qX (aa (bN (N:=["thing"]) (n:=1) (ci:=[]) rfl (aK (pv 0)) (j6 sH)
    (fun z=>⟨jg 0,bV,dP GN hr rfl DN.mg DN.fn.kp DN.bd .nil bz (aa (pv 0) ae)⟩)) ae))
   (ko (cY gX (ay xU rfl T.len cL (aa (a8 (rN rfl) rfl T.set C6 (aa (pv 0) ae)) ae)) (ay bu rfl T.len cL (aa (pv 0) ae)) (bC _))))),?_⟩
  refine⟨_,rfl,a,rfl,⟨_,ha⟩,fun z D hD=>cy (a:=a) (xs:=aF xs) (fun i ys H2=>ys=(xs.take i).map (fun x=>V.bl (isNm x))∧H2 D=some (.lst ys)∧aq H H2) ⟨rfl,ag,ao hD⟩ (fun i ys H2 _ p=>p.2.2.seq ha) ?_ ?_⟩
  ·rintro i v ys H2 hi ⟨rfl,hys,sm⟩
   obtain⟨x,hx,rfl⟩:=cZ hi
   refine⟨_,rfl,x,rfl,hz.2 x (IK hx),fun H3 s3=>⟨s3 _ _ hys,?_,?_,ag,aY (sm.trans s3) hD⟩⟩
   ·rw [List.length_map,Jj,sizeLine_eq]
    have:=hz.1
    lia
   ·rw [av hx,List.map_append]
    rfl
  ·rintro ys H2 ⟨rfl,hys,sm⟩
   have hl:(aF xs).length=xs.length:=aw xs
   rw [hl,Jc] at hys
   refine⟨D,xs.map isNm,rfl,aA.of (by rw [hys,List.map_map];rfl),_,rfl,?_⟩
   have ea:(xs.map isNm).all id=xs.all isNm:=by rw [LV];rfl
   rw [ea]
   cases hn:xs.all isNm with
   | false =>
    refine bB ?_
    have e:unlike xs=false:=by unfold unlike;rw [hn];rfl
    rw [← e]
    exact k H2 sm
   | true =>
    refine bF ?_
    refine⟨_,rfl,a,xs,rfl,sm.seq ha,by have:=hz.1;lia,fun p hp=>⟨p,_,rfl,ag,?_⟩⟩
    have sm2:aq H (upd H2 p (sC w p (UfSet.dd xs))):=aY sm (sm.free hp)
    refine⟨_,rfl,_,xs.length,rfl,.inl ⟨_,sm2.seq ha,hl.symm⟩,rfl,?_⟩
    have e:unlike xs=decide (V.int (((UfSet.dd xs).length:Nat):Int)=V.int ((xs.length:Nat):Int)):=by
     unfold unlike
     rw [hn,K1]
     refine KH.mpr ?_
     rw [← UfSet.ue]
     constructor
     ·intro h;rw [h]
     ·intro h;injection h with h;lia
    rw [← e]
    exact k _ sm2
def gW(tk gv:List Str):Bool:=unlike tk&&(unlike gv&&(decide (1≤tk.length)&&(decide (tk.length≤4)&&decide (gv.length≤4))))
def r9(K:PySem.W.Frag):Sp:=fun vs H Q _=>∃ (a b:Addr) (tk gv:List Str),vs=[.ref a,.ref b]∧aA K H a (aF tk)∧aA K H b (aF gv)∧Short tk∧Short gv∧∀ H',aq H H'→Q (.bl (gW tk gv)) H'
def yG:aD ["taken", "given"] ["taken", "given"] (au jD):=eR
def xw{f fN fU:Addr}{fd fdN fdU:FuncData}(F:dv K "is_move" "is_move" jD f fd)(T:Txt K mg)(DN:Def K mg "is_name" eF ["thing"] fN fdN)(DU:Def K mg "are_unlike_names" iO ["things"] fU fdU):bo P w K mg base cS 3 f fd ["taken", "given"] (r9 K):=by
 have GU:bo P w K mg base cS 2 fU fdU ["things"] (lJ K):=oR DU.fn T DN
 refine F.oK yG fun cdv A outer s H vs Q E hr h=>?_
 ·obtain⟨a,b,tk,gv,rfl,ha,hb,za,zb,k⟩:=h
  obtain⟨t1,h1⟩:=T.leastT
  obtain⟨t2,h2⟩:=T.mostT
  obtain⟨t3,h3⟩:=T.mostG
  refine⟨_,af (bH (PW.pt (pw_or (cz (cf (dP GU hr rfl DU.mg DU.fn.kp DU.bd .nil bz (aa (pv 0) ae)))) (pw_or1 (cz (cf (dP GU hr rfl DU.mg DU.fn.kp DU.bd .nil bz (aa (pv 1) ae))))))) (ai (aI jP)) aU)
   (ai (aI (kD (zg lV lV (gQ (v:=.int 1) rfl h1 ⟨t1,rfl⟩) (ay bu rfl T.len cL (aa (pv 0) ae)) (gQ (v:=.int 4) rfl h2 ⟨t2,rfl⟩))
    (ko (cY lV (ay bu rfl T.len cL (aa (pv 1) ae)) (gQ (v:=.int 4) rfl h3 ⟨t3,rfl⟩) (bC _)))))),?_⟩
  have no:∀ H',aq H H'→gW tk gv=false→Q (.bl false) H':=fun H' sm e=>by rw [← e];exact k H' sm
  refine⟨_,rfl,a,tk,rfl,ha,za,fun H1 s1=>⟨_,rfl,?_⟩⟩
  cases u1:unlike tk with
  | false =>
   refine bF ?_
   refine bF ?_
   exact no H1 s1 (by unfold gW;rw [u1];rfl)
  | true =>
   refine bB ?_
   refine⟨_,rfl,b,gv,rfl,s1.seq hb,zb,fun H2 s2=>⟨_,rfl,?_⟩⟩
   have sm:aq H H2:=s1.trans s2
   cases u2:unlike gv with
   | false =>
    refine bF ?_
    exact no H2 sm (by unfold gW;rw [u1,u2];rfl)
   | true =>
    refine bB ?_
    refine⟨_,rfl,_,tk.length,rfl,.inl ⟨_,sm.seq ha,(aw tk).symm⟩,1,_,rfl,rfl,_,rfl,?_⟩
    by_cases c1:1≤tk.length
    ·rw [IL (show(1:Int)≤(tk.length:Int) by lia)]
     refine bF ?_
     refine⟨_,_,rfl,rfl,_,rfl,?_⟩
     by_cases c2:tk.length≤4
     ·rw [IL (show(tk.length:Int)≤4 by lia)]
      refine bF ?_
      refine⟨_,rfl,_,gv.length,rfl,.inl ⟨_,sm.seq hb,(aw gv).symm⟩,_,_,rfl,rfl,?_⟩
      have e:gW tk gv=decide ((gv.length:Int)≤4):=by
       unfold gW
       rw [u1,u2,IL c1,IL c2]
       simp only [K1]
       exact KH.mpr (by lia)
      show Q (V.bl (decide ((gv.length:Int)≤4))) H2
      rw [← e]
      exact k H2 sm
     ·rw [decide_eq_false (show ¬(tk.length:Int)≤4 by lia)]
      refine bB ?_
      exact no H2 sm (by unfold gW;rw [u1,u2,decide_eq_false c2];simp)
    ·rw [decide_eq_false (show ¬(1:Int)≤(tk.length:Int) by lia)]
     refine bB ⟨_,rfl,?_⟩
     refine bB ?_
     exact no H2 sm (by unfold gW;rw [u1,u2,decide_eq_false c1];simp)
abbrev Mv:=Str × List Str × List Str
def lN(H:Hp)(m:Mv)(q:Addr):Prop:=∃ l g,H q=some (.tup [.str m.1,.ref l,.ref g])∧H l=some (.lst (aF m.2.1))∧H g=some (.lst (aF m.2.2))
def lN.same{H H':Hp}{m:Mv}{q:Addr}(s:aq H H')(h:lN H m q):lN H' m q:=by
 obtain⟨l,g,h1,h2,h3⟩:=h
 exact⟨l,g,s _ _ h1,s _ _ h2,s _ _ h3⟩
def oy(K:PySem.W.Frag)(H:Hp)(a:Addr)(ms:List Mv):Prop:=∃ qs:List Addr,aA K H a (qs.map V.ref)∧Paired (lN H) ms qs
theorem oy.same{K:PySem.W.Frag}{H H':Hp}{a:Addr}{ms:List Mv}(s:aq H H')(h:oy K H a ms):oy K H' a ms:=by
 obtain⟨qs,h1,h2⟩:=h
 exact⟨qs,s.seq h1,Paired.cu h2 fun _ _=>lN.same s⟩
theorem bA{α β:Type}{F:α→β→Prop}:∀ {l:List α} {m:List β} {i:Nat} {b:β},Paired F l m→m[i]?=some b→∃ a,l[i]?=some a∧F a b
 | _,_,_,_,.nil,e=>by simp at e
 | _,_,0,_,.cons r _,e=>by
  simp at e
  subst e
  exact⟨_,rfl,r⟩
 | _,_,i+1,_,.cons _ t,e=>by
  obtain⟨a,h1,h2⟩:=bA (i:=i) t (by simpa using e)
  exact⟨a,by simpa using h1,h2⟩
def fF{qs:List Addr}{i:Nat}{v:V}(h:(qs.map V.ref)[i]?=some v):∃ q,qs[i]?=some q∧v=.ref q:=by
 rw [List.getElem?_map] at h
 cases e:qs[i]? with
 | none=>rw [e] at h;cases h
 | some x=>rw [e] at h;exact⟨x,rfl,(Jk h).symm⟩
def kC(ms:List Mv):List Str:=ms.flatMap fun m=>m.2.1++m.2.2
def cF(ms:List Mv)(st:List Str):List Str:=aH (UfSet.dd (st++kC ms))
def mj(K:PySem.W.Frag):Sp:=fun vs H Q _=>∃ (a b:Addr) (ms:List Mv) (st:List Str),vs=[.ref a,.ref b]∧oy K H a ms∧aA K H b (aF st)∧(st++kC ms).length≤1000∧(UfSet.dd (st++kC ms)).length<64 ∧
 ∀ H' p,aq H H'→H p=none→H' p=some (.lst (aF (cF ms st)))→Q (.ref p) H'
def gF:aD ["moves", "start", "places", "name", "taken", "given"] ["moves", "start"] (au jR):=eR
def oP{f:Addr}{fd:FuncData}(F:dv K "places_of" "places_of" jR f fd)(T:Txt K mg):bo P w K mg base cS 1 f fd ["moves", "start"] (mj K):=by
 refine F.oK gF fun cdv A outer s H vs Q E hr h=>?_
 ·obtain⟨a,b,ms,st,rfl,ha,hb,hz,h64,k⟩:=h
  obtain⟨qs,hq,hp⟩:=id ha
  refine⟨_,af (cB 2 gF (a8 bU rfl T.lst dA (aa (pv 1) ae)))
   (af (bq IT rfl (aK (pv 0)) (dt rfl (aL (dX 3 gF) (aL (dX 4 gF) (aL (dX 5 gF) cH))))
    (ai (cB 2 gF (aE jj (aE jj (pv 2) (a8 bU rfl T.lst dA (aa (pv 4) ae))) (a8 bU rfl T.lst dA (aa (pv 5) ae))))))
   (ai (aI (ay (uW rfl) rfl T.aH cn (aa (a8 (rN rfl) rfl T.set C6 (aa (pv 2) ae)) ae))))),?_⟩
  refine⟨_,rfl,b,aF st,rfl,.inl hb,fun p0 n0=>?_⟩
  have s0:aq H (upd H p0 (.lst (aF st))):=ao n0
  refine⟨_,rfl,a,rfl,⟨_,s0.seq hq⟩,br (K:=K) (a:=a) (xs:=qs.map V.ref) (fun i σ H2=>∃ (p:Addr) (v3 v4 v5:Option V),σ=[some (.ref a),some (.ref b),some (.ref p),v3,v4,v5]∧aq H H2∧H p=none∧H2 p=some (.lst (aF (st++kC (ms.take i)))))
   ⟨p0,none,none,none,rfl,s0,n0,by rw [ag];simp [kC]⟩ (fun i σ H2 _ ⟨_,_,_,_,_,sm,_⟩=>sm.seq hq) ?_ ?_⟩
  ·rintro i v σ H2 hi ⟨p,v3,v4,v5,rfl,sm,np,hp2⟩
   obtain⟨q,hqi,rfl⟩:=fF hi
   obtain⟨m,hm,hmv⟩:=bA hp hqi
   obtain⟨l,g,e1,e2,e3⟩:=hmv.same sm
   have etk:kC (ms.take (i+1))=kC (ms.take i)++(m.2.1++m.2.2):=by
    unfold kC
    rw [av hm,LF]
    simp
   have hle:(st++kC (ms.take (i+1))).length≤1000:=by
    refine Jf ?_ hz
    have e:kC ms=kC (ms.take (i+1))++kC (ms.drop (i+1)):=by
     unfold kC
     rw [← LF,Kg]
    rw [e,List.length_append,List.length_append,List.length_append]
    lia
   rw [etk] at hle
   simp only [List.length_append] at hle
   have hsl:=Ji
   refine⟨q,_,rfl,bO.of e1,rfl,_,_,rfl,_,_,rfl,_,_,rfl,rfl,?_⟩
   refine⟨_,rfl,_,rfl,l,aF m.2.1,rfl,.inl (aA.of e2),fun l1 n1=>⟨p,l1,_,_,rfl,rfl,(by rw [ah (aj hp2 n1)];exact hp2),ag,?_,fun p1 m1=>?_⟩⟩
   ·rw [aw,aw,List.length_append]
    lia
   have s1:aq H2 (upd (upd H2 l1 (.lst (aF m.2.1))) p1 (.lst (aF (st++kC (ms.take i))++aF m.2.1))):=(ao n1).trans (ao m1)
   refine⟨_,rfl,g,aF m.2.2,rfl,.inl (aA.of (s1 _ _ e3)),fun l2 n2=>⟨p1,l2,_,_,rfl,rfl,(by rw [ah (aj ag n2)];exact ag),ag,?_,fun p2 m2=>?_⟩⟩
   ·rw [List.length_append,aw,aw,aw,List.length_append]
    lia
   have s2:=s1.trans ((ao (o:=.lst (aF m.2.2)) n2).trans (ao (o:=.lst ((aF (st++kC (ms.take i))++aF m.2.1)++aF m.2.2)) m2))
   refine⟨p2,_,_,_,rfl,sm.trans s2,?_,?_⟩
   ·exact(sm.trans (s1.trans (ao (o:=.lst (aF m.2.2)) n2))).free m2
   ·rw [ag,etk]
    unfold aF
    simp [List.map_append]
  ·rintro σ H2 ⟨p,v3,v4,v5,rfl,sm,np,hp2⟩
   have el:(qs.map V.ref).length=ms.length:=by rw [List.length_map,← IX hp]
   rw [el,Jc] at hp2
   refine⟨_,rfl,p,st++kC ms,rfl,aA.of hp2,hz,fun p1 n1=>⟨p1,_,rfl,ag,h64,fun p2 n2=>?_⟩⟩
   have s1:=(ao (o:=sC w p1 (UfSet.dd (st++kC ms))) n1).trans (ao (o:=.lst (aF (aH (UfSet.dd (st++kC ms))))) n2)
   exact k _ p2 (sm.trans s1) ((sm.trans (ao (o:=sC w p1 (UfSet.dd (st++kC ms))) n1)).free n2) ag
def names(ms:List Mv):List Str:=ms.map (·.1)
def gz(ms:List Mv)(st:List Str):Bool:=decide (ms.length≤12)&&(unlike (names ms)&&((ms.all fun m=>gW m.2.1 m.2.2)&&(unlike st&&decide ((cF ms st).length≤12))))
structure Fits(ms:List Mv)(st:List Str):Prop where
 nm:Short (names ms)
 tk:∀ m∈ms,Short m.2.1
 gv:∀ m∈ms,Short m.2.2
 so:Short st
 sum:(st++kC ms).length≤1000
 i9:(UfSet.dd (st++kC ms)).length<64
def vX(K:PySem.W.Frag):Sp:=fun vs H Q _=>∃ (a b:Addr) (ms:List Mv) (st:List Str),vs=[.ref a,.ref b]∧oy K H a ms∧aA K H b (aF st)∧Fits ms st∧∀ H',aq H H'→Q (.bl (gz ms st)) H'
def qc:aD ["moves", "start"] ["moves", "start"] (au pZ):=eR
def ze{f fN fU fM fP:Addr}{fd fdN fdU fdM fdP:FuncData}(F:dv K "makes_net" "makes_net" pZ f fd)(T:Txt K mg)(DN:Def K mg "is_name" eF ["thing"] fN fdN)(DU:Def K mg "are_unlike_names" iO ["things"] fU fdU)
  (DM:Def K mg "is_move" jD ["taken", "given"] fM fdM) (DP:Def K mg "places_of" jR ["moves", "start"] fP fdP):bo P w K mg base cS 4 f fd ["moves", "start"] (vX K):=by
 have GU:bo P w K mg base cS 2 fU fdU ["things"] (lJ K):=oR DU.fn T DN
 have GM:bo P w K mg base cS 3 fM fdM ["taken", "given"] (r9 K):=xw DM.fn T DN DU
 have GP:bo P w K mg base cS 1 fP fdP ["moves", "start"] (mj K):=oP DP.fn T
 refine F.oK qc fun cdv A outer s H vs Q E hr h=>?_
 ·obtain⟨a,b,ms,st,rfl,ha,hb,hf,k⟩:=h
  obtain⟨qs,hq,hp⟩:=id ha
  obtain⟨t1,h1⟩:=T.mostM
  obtain⟨t2,h2⟩:=T.mostP
  refine⟨_,af (bH (PW.pt (pw_or (bj CZ (ay bu rfl T.len cL (aa (pv 0) ae)) (gQ (v:=.int 12) rfl h1 ⟨t1,rfl⟩) (bC _))
    (pw_or1 (cz (cf (dP GU (hr.mono (by decide)) rfl DU.mg DU.fn.kp DU.bd .nil bz (aa (bN (N:=["move"]) (n:=1) (ci:=[]) rfl (aK (pv 0)) (j6 qc)
     (fun z=>⟨jg 0,bV,bb eE (pv 0) ak (fun _ _=>rfl)⟩)) ae)))))))
    (ai (aI jP)) aU)
   (af (bH (PW.pt (pw_or (cz (cf (ay (iq rfl) rfl T.all qX (aa (bN (N:=["name", "taken", "given"]) (n:=3) (ci:=[]) rfl (aK (pv 0)) (j6 qc)
     (fun z=>⟨dt rfl (aL (jg 0) (aL (jg 1) (aL (jg 2) cH))),
      bV,dP GM hr rfl DM.mg DM.fn.kp DM.bd .nil bz (aa (pv 1) (aa (pv 2) ae))⟩)) ae))))
     (pw_or1 (cz (cf (dP GU (hr.mono (by decide)) rfl DU.mg DU.fn.kp DU.bd .nil bz (aa (pv 1) ae)))))))
    (ai (aI jP)) aU)
   (ai (aI (cY lV (ay bu rfl T.len cL (aa (dP GP (hr.mono (by decide)) rfl DP.mg DP.fn.kp DP.bd .nil bz (aa (pv 0) (aa (pv 1) ae))) ae)) (gQ (v:=.int 12) rfl h2 ⟨t2,rfl⟩) (bC _))))),?_⟩
  have no:∀ H',aq H H'→gz ms st=false→Q (.bl false) H':=fun H' sm e=>by rw [← e];exact k H' sm
  have lq:qs.length=ms.length:=(IX hp).symm
  refine⟨_,rfl,_,ms.length,rfl,.inl ⟨_,hq,by rw [List.length_map,lq]⟩,_,_,rfl,rfl,_,rfl,?_⟩
  by_cases c1:ms.length≤12
  ·rw [show decide (((ms.length:Nat):Int) > 12)=false from decide_eq_false (by lia)]
   refine bB ?_
   refine⟨_,rfl,a,rfl,⟨_,hq⟩,fun z D hD=>cy (a:=a) (xs:=qs.map V.ref) (fun i ys H2=>ys=aF (names (ms.take i))∧H2 D=some (.lst ys)∧aq H H2) ⟨rfl,ag,ao hD⟩ (fun i ys H2 _ p=>p.2.2.seq hq) ?_ ?_⟩
   ·rintro i v ys H2 hi ⟨rfl,hys,sm⟩
    obtain⟨q,hqi,rfl⟩:=fF hi
    obtain⟨m,hm,hmv⟩:=bA hp hqi
    obtain⟨l,g,e1,e2,e3⟩:=hmv.same sm
    refine⟨_,rfl,q,_,0,_,rfl,rfl,bO.of e1,bh (j:=0) rfl,hys,?_,?_,ag,aY sm hD⟩
    ·rw [aw,names,List.length_map,Jj,sizeLine_eq]
     lia
    ·rw [av hm]
     unfold names aF
     simp
   ·rintro ys H2 ⟨rfl,hys,sm⟩
    rw [List.length_map,lq,Jc] at hys
    refine⟨D,names ms,rfl,aA.of hys,hf.nm,fun H3 s3=>⟨_,rfl,?_⟩⟩
    have sm3:aq H H3:=sm.trans s3
    cases u1:unlike (names ms) with
    | false =>
     refine bF ?_
     exact no H3 sm3 (by unfold gz;rw [u1];simp)
    | true =>
     refine bB ?_
     refine⟨_,rfl,a,rfl,⟨_,sm3.seq hq⟩,fun z2 D2 hD2=>cy (a:=a) (xs:=qs.map V.ref) (fun i ys H4=>ys=(ms.take i).map (fun m=>V.bl (gW m.2.1 m.2.2))∧H4 D2=some (.lst ys)∧aq H3 H4) ⟨rfl,ag,ao hD2⟩ (fun i ys H4 _ p=>(sm3.trans p.2.2).seq hq) ?_ ?_⟩
     ·rintro i v ys H4 hi ⟨rfl,hys4,sm4⟩
      obtain⟨q,hqi,rfl⟩:=fF hi
      obtain⟨m,hm,hmv⟩:=bA hp hqi
      obtain⟨l,g,e1,e2,e3⟩:=hmv.same (sm3.trans sm4)
      have hmem:m∈ms:=IK hm
      refine⟨q,_,rfl,bO.of e1,rfl,_,_,rfl,_,_,rfl,_,_,rfl,rfl,?_⟩
      refine⟨_,rfl,_,rfl,l,g,m.2.1,m.2.2,rfl,aA.of e2,aA.of e3,hf.tk m hmem,hf.gv m hmem,fun H5 s5=>⟨s5 _ _ hys4,?_,?_,ag,aY (sm4.trans s5) hD2⟩⟩
      ·rw [List.length_map,Jj,sizeLine_eq]
       lia
      ·rw [av hm,List.map_append]
       rfl
     ·rintro ys H4 ⟨rfl,hys4,sm4⟩
      rw [List.length_map,lq,Jc] at hys4
      have sm5:aq H H4:=sm3.trans sm4
      refine⟨D2,ms.map (fun m=>gW m.2.1 m.2.2),rfl,aA.of (by rw [hys4,List.map_map];rfl),_,rfl,?_⟩
      have ea:(ms.map (fun m=>gW m.2.1 m.2.2)).all id=ms.all fun m=>gW m.2.1 m.2.2:=by rw [LV];rfl
      rw [ea]
      cases u2:ms.all fun m=>gW m.2.1 m.2.2 with
      | false =>
       refine bF ?_
       refine bF ?_
       exact no H4 sm5 (by unfold gz;rw [u2];simp)
      | true =>
       refine bB ?_
       refine⟨_,rfl,b,st,rfl,sm5.seq hb,hf.so,fun H6 s6=>⟨_,rfl,?_⟩⟩
       have sm6:aq H H6:=sm5.trans s6
       cases u3:unlike st with
       | false =>
        refine bF ?_
        exact no H6 sm6 (by unfold gz;rw [u3];simp)
       | true =>
        refine bB ?_
        refine⟨_,rfl,_,rfl,a,b,ms,st,rfl,ha.same sm6,sm6.seq hb,hf.sum,hf.i9,fun H7 p s7 np hp7=>?_⟩
        refine⟨_,(cF ms st).length,rfl,.inl ⟨_,aA.of hp7,(aw _).symm⟩,_,_,rfl,rfl,?_⟩
        have e:gz ms st=decide (((cF ms st).length:Int)≤12):=by
         unfold gz
         rw [IL c1,u1,u2,u3]
         simp only [K1]
         exact KH.mpr (by lia)
        show Q (V.bl (decide (((cF ms st).length:Int)≤12))) H7
        rw [← e]
        exact k H7 (sm6.trans s7)
  ·rw [show decide (((ms.length:Nat):Int) > 12)=true from IL (by lia)]
   refine bF ?_
   refine bF ?_
   exact no H (aq.refl H) (by unfold gz;rw [decide_eq_false c1];rfl)
end Uf
end
section
namespace L2
open PySem PySem.Spec PyProof.Rows PySem.W UfSrt
def qy{κ:Type}[DecidableEq κ]{knd:KeyKind prog w κ}{d:Addr}{kvs:List (κ × Value)}{ep:Nat}{Q:List Value→Shared→Prop}(hh:A.handled=none)(lo:(d==sysModules)=false)(hd:s.heap.DictAt knd d kvs ep)(hz:kvs.length≤sizeLine)
  (h:∀ (h':Heap) (tk:Nat) (dr:Drawn) (vs:List Value),vs.length=kvs.length→(∀ (j:Nat) v,vs[j]?=some v→∃ k x,kvs[j]?=some (k,x)∧knd.is k v=true)→(∀ b o,s.heap.get? b=some o→h'.get? b=some o)→s.heap.objs.size≤h'.objs.size→Q vs { s with heap:=h',toks:=tk,drawn:=dr }) :
  wpAny (model prog w) A (collect (.ref d)) Q E s:=by
 refine UfSet.kK (T:="dict") (OK:=fun h=>h.DictAt knd d kvs ep) (R:=fun n P=>n=kvs.length∧P=fun i v=>∃ k x,kvs[i]?=some (k,x)∧knd.is k v=true) hh hd (fun h1 h2 x k=>x.at' fun o e=>k _ _ e) (fun s' x=>x.dictOf.typeIs) (fun h1 x=>x.lt_size) (by decide) (by decide)
  (fun A' E' s' Q' x q=>kdl_hint_dict x.dictOf.typeIs q) (fun A' E' s' Q' x q=>?_) ?_
 ·refine wpAny_pyIter_dict lo x ?_
  exact q s'.heap.objs.size _ s'.drawn kvs.length _ [s'.heap.objs.size,d] _ ⟨rfl,rfl⟩ hz (fun A2 h2=>Walks.dictKeys h2 _ d (IS x.lt_size) kvs ep) ⟨⟨_,IQ _ rfl,rfl,rfl⟩,x.push _⟩ (II _) (fun b o e=>IF _ e) fun b hb=>by
   simp only [IP,Jq,Ke] at hb
   rcases hb with rfl | rfl
   ·exact .inr (II _)
   ·exact .inl rfl
 ·rintro h' tk dr n P vs ⟨rfl,rfl⟩ hl hat hk hz'
  exact h h' tk dr vs hl hat hk hz'
theorem vB:∀ {ks:List Str} {vs:List Value},vs.length=ks.length→(∀ (j:Nat) v,vs[j]?=some v→∃ k tk,ks[j]?=some k∧v=Value.str k tk)→StrsAre vs ks
 | [],[],_,_=>.nil
 | k::ks,v::vs,hl,h=>by
  obtain⟨k',tk,e,rfl⟩:=h 0 v rfl
  have:k'=k:=by simpa using e.symm
  subst this
  exact .cons k' tk (vB (by simpa using hl) fun j u hu=>by
   obtain⟨q,t,e1,e2⟩:=h (j+1) u (by simpa using hu)
   exact⟨q,t,by simpa using e1,e2⟩)
section
variable {X:Cx}
def EB:List V→Hp→VK→Prop:=fun xs H Q=>∃ (a:Addr) (kvs:List (Key × V)) (ks:List Str),xs=[.ref a]∧Rd H a (.dK kvs)∧kvs.map (·.1)=ks.map Sum.inr∧ks.length<64∧∀ p,H p=none→Q (.ref p) (upd H p (.lst (aF (aH ks))))
def uk{P:Program}{w:World}{kvs:List (Key × V)}{vs:List (Key × Value)}{ks:List Str}{us:List Value}(r:KV kvs vs)(hk:kvs.map (·.1)=ks.map Sum.inr)(hl:us.length=vs.length)
  (hat:∀ (j:Nat) v,us[j]?=some v→∃ k x,vs[j]?=some (k,x)∧(aQ P w).is k v=true):StrsAre us ks:=by
 have e1:vs.map (·.1)=ks.map Sum.inr:=by rw [← r.keys];exact hk
 have l1:vs.length=ks.length:=by have:=J4 List.length e1;simpa using this
 refine vB (by lia) fun j v e=>?_
 obtain⟨k,x,e2,hi⟩:=hat j v e
 have e3:(vs.map (·.1))[j]?=some k:=by rw [List.getElem?_map,e2];rfl
 rw [e1,List.getElem?_map] at e3
 cases e4:ks[j]? with
 | none=>rw [e4] at e3;cases e3
 | some y =>
  rw [e4] at e3
  cases e3
  rw [sX] at hi
  rcases bX hi with⟨i,t,z,_⟩ | ⟨y',t,z,z2⟩
  ·cases z
  ·cases z
   exact⟨y,t,rfl,z2⟩
def sV(hc:X.calm=true):dM X (.builtin "sorted") EB:=by
 intro pins s σ H xs us Q I r h
 obtain⟨a,kvs,ks,rfl,ha,hk,hz,q⟩:=h
 obtain⟨u,rfl,ru⟩:=vals1 r
 cases ru
 obtain⟨zk,lo,vs,rel,hd⟩:=ox I.hok ha
 obtain⟨ep,hat⟩:=hd.dictAt
 have hlen:vs.length≤sizeLine:=by rw [← rel.length];exact zk
 refine UfSort.j8 (ss:=ks) (fun {Q'} hq=>qy (A:=X.A.in1) (knd:=aQ X.prog X.w) (I.ok.hd hc) lo hat hlen fun h' tk dr us' hl hat' hk' hz'=>hq h' tk dr us' ks hk' hz' (uk rel hk hl hat') (.refl _)) hz fun h' tk d D L=>?_
 exact⟨.ref D,_,mE I L (by lia),rfl,q _ (I.hok.fresh L.new)⟩
end
end L2
end
section
namespace UfFin
open PySem UfSrt
theorem dI{α:Type}[DecidableEq α]:∀ {l m:List α},l.Nodup→(∀ x∈l,x∈m)→l.length≤m.length
 | [],m,_,_=>IU _
 | a::l,m,h,hs=>by
  obtain⟨h1,h2⟩:=JQ.mp h
  have ha:a∈m:=hs a List.mem_cons_self
  have ih:=dI (l:=l) (m:=m.erase a) h2 fun x hx=>by
   have hne:x≠a:=fun e=>h1 (e ▸ hx)
   exact(List.mem_erase_of_ne hne).mpr (hs x (List.mem_cons_of_mem _ hx))
  rw [List.length_erase_of_mem ha] at ih
  have:=List.length_pos_of_mem ha
  rw [Jh]
  lia
def subs{α:Type}:List α→List (List α)
 | []=>[[]]
 | x::r=>subs r++(subs r).map (x :: ·)
theorem mR{α:Type}:∀ l:List α,(subs l).length=2 ^ l.length
 | []=>rfl
 | x::r=>by
  show(subs r++(subs r).map (x :: ·)).length=_
  rw [List.length_append,List.length_map,mR r,Jh,Nat.pow_succ]
  lia
theorem kJ{α:Type}(p:α→Bool):∀ l:List α,l.filter p∈subs l
 | []=>by simp [subs]
 | x::r=>by
  have ih:=kJ p r
  show List.filter p (x::r)∈subs r++(subs r).map (x :: ·)
  rw [La]
  split
  ·exact Js _ (IV.mpr ⟨_,ih,rfl⟩)
  ·exact Jv _ ih
structure cQ(l:List Str):Prop where
 pw:l.Pairwise le
 nd:l.Nodup
theorem cQ.aH{l:List Str}(h:l.Nodup):cQ (aH l):=⟨uy l,kE.mpr h⟩
def cQ.ext{l m:List Str}(h:cQ l)(h':cQ m)(e:∀ x,x∈l↔x∈m):l=m:=by
 refine pw_unique h.pw h'.pw ?_
 exact(MO h.nd h'.nd).mpr e
def cQ.vo{l ps:List Str}(h:cQ l)(hp:cQ ps)(hs:∀ x∈l,x∈ps):l∈subs ps:=by
 have e:l=ps.filter fun x=>decide (x∈l):=by
  refine cQ.ext h ⟨hp.pw.sublist LG,hp.nd.sublist LG⟩ fun x=>?_
  rw [Jl]
  constructor
  ·intro hx
   exact⟨hs x hx,by simpa using hx⟩
  ·rintro⟨_,hx⟩
   simpa using hx
 rw [e]
 exact kJ _ _
end UfFin
end
section
namespace Uf
open PySem L2 UfSrt
abbrev tY:Stmt:=top 26
abbrev zS:Stmt:=inClass tY 0
abbrev wA:Stmt:=inClass tY 1
abbrev oF:Stmt:=inClass tY 2
abbrev iz:Stmt:=inClass tY 3
abbrev kx:Stmt:=inClass tY 4
abbrev m9:Stmt:=inClass tY 5
abbrev qD:Stmt:=inClass tY 6
def ie(aP aS aT aG:Addr):List (Str × V):=[("place_names",V.ref aP),("start_state",V.ref aS),("taken_by",V.ref aT),("given_by",V.ref aG)]
def HF:(("start_state":Str) == "place_names")=false:=by decide +kernel
def Ia:(("taken_by":Str) == "place_names")=false:=by decide +kernel
def HD:(("given_by":Str) == "place_names")=false:=by decide +kernel
def Hv:(("taken_by":Str) == "start_state")=false:=by decide +kernel
def Ij:(("given_by":Str) == "start_state")=false:=by decide +kernel
def HI:(("given_by":Str) == "taken_by")=false:=by decide +kernel
def FX(a b c d:Addr):(ie a b c d).lookup ("place_names":Str)=some (V.ref a):=by simp [ie,List.lookup]
def GC(a b c d:Addr):(ie a b c d).lookup ("start_state":Str)=some (V.ref b):=by simp [ie,List.lookup,HF]
def vC(a b c d:Addr):(ie a b c d).lookup ("taken_by":Str)=some (V.ref c):=by simp [ie,List.lookup,Ia,Hv]
def C5(a b c d:Addr):(ie a b c d).lookup ("given_by":Str)=some (V.ref d):=by simp [ie,List.lookup,HD,Ij,HI]
def cW(a b c d:Addr){x:Str}(h1:(x == "place_names")=false)(h2:(x == "start_state")=false)(h3:(x == "taken_by")=false)(h4:(x == "given_by")=false):(ie a b c d).lookup x=none:=by
 simp [ie,List.lookup,h1,h2,h3,h4]
def E1:¬(("place_names":Str)="start_state"):=by decide +kernel
def FI:¬(("place_names":Str)="taken_by"):=by decide +kernel
def Gn:¬(("start_state":Str)="taken_by"):=by decide +kernel
def Iz:¬(("place_names":Str)="given_by"):=by decide +kernel
def HC:¬(("start_state":Str)="given_by"):=by decide +kernel
def Hm:¬(("taken_by":Str)="given_by"):=by decide +kernel
def xf(a b c d:Addr):bf "given_by" (V.ref d) (bf "taken_by" (V.ref c) (bf "start_state" (V.ref b) (bf "place_names" (V.ref a) [])))=ie a b c d:=by
 simp [bf,ie,E1,FI,Gn,Iz,HC,Hm]
structure gU(K:PySem.W.Frag)(C:Addr):Prop where
 cl:yj K C
 nP:cD K C "place_names"
 nS:cD K C "start_state"
 nT:cD K C "taken_by"
 nG:cD K C "given_by"
def gB(H:Hp)(sel:Mv→List Str)(ms:List Mv)(kvs:List (Key × V)):Prop:=Paired (fun(m:Mv) (kv:Key × V)=>kv.1=Sum.inr m.1∧∃ t,kv.2=.ref t∧H t=some (.tup (aF (aH (sel m))))) ms kvs
def gB.same{H H':Hp}{sel:Mv→List Str}{ms:List Mv}{kvs:List (Key × V)}(s:∀ b xs,H b=some (.tup xs)→H' b=some (.tup xs))(h:gB H sel ms kvs):gB H' sel ms kvs :=
 Paired.cu h fun m kv ⟨e,t,h1,h2⟩=>⟨e,t,h1,s _ _ h2⟩
theorem gB.keys{H:Hp}{sel:Mv→List Str}:∀ {ms:List Mv} {kvs:List (Key × V)},gB H sel ms kvs→kvs.map (·.1)=(names ms).map Sum.inr
 | _,_,.nil=>rfl
 | _,_,.cons h t=>by
  rw [JG,h.1,gB.keys t]
  rfl
theorem gB.snoc{H:Hp}{sel:Mv→List Str}{ms:List Mv}{kvs:List (Key × V)}{m:Mv}{t:Addr}(h:gB H sel ms kvs)(ht:H t=some (.tup (aF (aH (sel m))))):gB H sel (ms++[m]) (kvs++[(Sum.inr m.1,.ref t)]) :=
 JZ h ⟨rfl,t,rfl,ht⟩
theorem gB.none{H:Hp}{sel:Mv→List Str}{ms:List Mv}{kvs:List (Key × V)}{x:Str}(h:gB H sel ms kvs)(hx:x∉names ms):de kvs (Sum.inr x:Key)=.none:=by
 cases e:de kvs (Sum.inr x:Key) with
 | none=>rfl
 | some v =>
  have:=AS e
  rw [h.keys] at this
  obtain⟨y,hy,e2⟩:=IV.mp this
  cases e2
  exact absurd hy hx
theorem gB.get{H:Hp}{sel:Mv→List Str}{m:Mv}:∀ {ms:List Mv} {kvs:List (Key × V)},gB H sel ms kvs→(names ms).Nodup→m∈ms→∃ t,de kvs (Sum.inr m.1:Key)=some (.ref t)∧H t=some (.tup (aF (aH (sel m))))
 | _,_,.nil,_,h=>by simp at h
 | m'::ms,_,.cons (b:=kv) h t,hn,hm=>by
  obtain⟨e,u,e1,e2⟩:=h
  obtain⟨n1,n2⟩:=JQ.mp (show(m'.1::names ms).Nodup from hn)
  rcases IP.mp hm with rfl | hm
  ·exact⟨u,by rw [cx e,e1],e2⟩
  ·have ne:¬ kv.1=(Sum.inr m.1:Key):=fun z=>by
    rw [e] at z
    have z2:m'.1=m.1:=by injection z
    exact n1 (by rw [z2];exact IV.mpr ⟨m,hm,rfl⟩)
   rw [cj ne]
   exact gB.get t n2 hm
structure rK(C:Addr)(H:Hp)(p:Addr)(ms:List Mv)(st:List Str):Prop where
 ob:∃ dx aP aS aT aG kT kG,H p=some (.ins C dx (ie aP aS aT aG))∧H aP=some (.tup (aF (cF ms st)))∧H aS=some (.tup (aF (aH st)))∧H aT=some (.dK kT)∧H aG=some (.dK kG)∧gB H (·.2.1) ms kT∧gB H (·.2.2) ms kG
theorem rK.same{C:Addr}{H H':Hp}{p:Addr}{ms:List Mv}{st:List Str}(s:aq H H')(h:rK C H p ms st):rK C H' p ms st:=by
 obtain⟨dx,aP,aS,aT,aG,kT,kG,h1,h2,h3,h4,h5,h6,h7⟩:=h
 exact⟨dx,aP,aS,aT,aG,kT,kG,s _ _ h1,s _ _ h2,s _ _ h3,s _ _ h4,s _ _ h5,h6.same fun b xs e=>s _ _ e,h7.same fun b xs e=>s _ _ e⟩
def jr(p:Addr)(H H':Hp):Prop:=∀ c o,H c=some o→c≠p→H' c=some o
def jr.refl(p:Addr)(H:Hp):jr p H H:=fun _ _ e _=>e
def jr.then{p:Addr}{H H1 H2:Hp}(b:jr p H H1)(s:aq H1 H2):jr p H H2:=fun c o e n=>s c o (b c o e n)
def jr.put{p:Addr}{H H1:Hp}{o:HO}(b:jr p H H1):jr p H (upd H1 p o):=fun c u e n=>by rw [ah n];exact b c u e n
def jr.new{p a:Addr}{H H1:Hp}{o:HO}(b:jr p H H1)(n:H a=none):jr p H (upd H1 a o):=fun c u e nc=>by rw [ah (aj e n)];exact b c u e nc
def jr.free{p a:Addr}{H H1:Hp}(b:jr p H H1)(n:H1 a=none)(hp:a≠p):H a=none:=by
 cases e:H a with
 | none=>rfl
 | some o=>rw [b a o e hp] at n;cases n
def jr.seq{K:PySem.W.Frag}{p C dx a:Addr}{H H1:Hp}{fs:List (Str × V)}{xs:List V}(b:jr p H H1)(hp:H p=some (.ins C dx fs))(h:aA K H a xs):aA K H1 a xs:=by
 rcases h with(h | ⟨o,h⟩) | h
 ·exact .inl (.inl (b _ _ h (aJ h hp (by intro z;cases z))))
 ·exact .inl (.inr ⟨o,b _ _ h (aJ h hp (by intro z;cases z))⟩)
 ·exact .inr h
def jr.mv{p C dx q:Addr}{H H1:Hp}{fs:List (Str × V)}{m:Mv}(b:jr p H H1)(hp:H p=some (.ins C dx fs))(h:lN H m q):lN H1 m q:=by
 obtain⟨l,g,h1,h2,h3⟩:=h
 exact⟨l,g,b _ _ h1 (aJ h1 hp (by intro z;cases z)),b _ _ h2 (aJ h2 hp (by intro z;cases z)),b _ _ h3 (aJ h3 hp (by intro z;cases z))⟩
structure Sound(ms:List Mv)(st:List Str):Prop where
 ml:ms.length≤12
 nn:(names ms).all isNm=true
 nd:(names ms).Nodup
 mv:∀ m∈ms,gW m.2.1 m.2.2=true
 su:unlike st=true
 pl:(cF ms st).length≤12
def sE{ms:List Mv}{st:List Str}(h:gz ms st=true):Sound ms st:=by
 unfold gz at h
 obtain⟨h1,h⟩:=Jn.mp h
 obtain⟨h2,h⟩:=Jn.mp h
 obtain⟨h3,h⟩:=Jn.mp h
 obtain⟨h4,h5⟩:=Jn.mp h
 obtain⟨h6,h7⟩:=Jn.mp (show((names ms).all isNm&&decide (names ms).Nodup)=true from h2)
 exact⟨JF h1,h6,JF h7,fun m hm=>JO.mp h3 m hm,h4,JF h5⟩
def dE{xs:List Str}(h:unlike xs=true):xs.Nodup:=JF (Jn.mp h).2
def Sound.Hn{ms:List Mv}{st:List Str}(h:Sound ms st):st.length≤12:=by
 refine Jf (UfFin.dI (dE h.su) fun x hx=>?_) h.pl
 unfold cF
 exact bE.mpr (UfSet.qb.mpr (Jv _ hx))
def fY{tk gv:List Str}(h:gW tk gv=true):unlike tk=true∧unlike gv=true∧1≤tk.length∧tk.length≤4∧gv.length≤4:=by
 unfold gW at h
 obtain⟨h1,h⟩:=Jn.mp h
 obtain⟨h2,h⟩:=Jn.mp h
 obtain⟨h3,h⟩:=Jn.mp h
 obtain⟨h4,h5⟩:=Jn.mp h
 exact⟨h1,h2,JF h3,JF h4,JF h5⟩
def Ag(K:PySem.W.Frag)(C:Addr):Sp:=fun vs H Q _=>∃ (p dx a b:Addr) (ms:List Mv) (st:List Str),vs=[.ref p,.ref a,.ref b]∧H p=some (.ins C dx [])∧oy K H a ms∧aA K H b (aF st)∧Fits ms st∧gz ms st=true ∧
 ∀ H',rK C H' p ms st→(∀ c o,H c=some o→c≠p→H' c=some o)→Q .non H'
def qt:aD ["self", "moves", "start", "name", "taken", "given"] ["self", "moves", "start"] (au zS):=eR
inductive Il(C:Addr)(H:Hp)(p a b dx aP aS aT aG:Addr)(ms:List Mv)(st:List Str)(i:Nat)(σ:St)(H6:Hp):Prop
 | mk (kT kG:List (Key × V)) (v3 v4 v5:Option V) (q0:σ=[some (.ref p),some (.ref a),some (.ref b),v3,v4,v5]) (q1:H6 p=some (.ins C dx (ie aP aS aT aG))) (q2:H6 aP=some (.tup (aF (cF ms st)))) (q3:H6 aS=some (.tup (aF (aH st)))) (q4:H6 aT=some (.dK kT)) (q5:H6 aG=some (.dK kG)) (q6:gB H6 (·.2.1) (ms.take i) kT) (q7:gB H6 (·.2.2) (ms.take i) kG) (q8:jr p H H6)
def Il.but{C:Addr}{H:Hp}{p a b dx aP aS aT aG:Addr}{ms:List Mv}{st:List Str}{i:Nat}{σ:St}{H6:Hp}(h:Il C H p a b dx aP aS aT aG ms st i σ H6):jr p H H6:=by
 cases h
 assumption
def Bx{f C fN fU fM fP fK:Addr}{fd fdN fdU fdM fdP fdK:FuncData}(F:dv K "__init__" "Net.__init__" zS f fd)(T:Txt K mg)(CT:gU K C)(DN:Def K mg "is_name" eF ["thing"] fN fdN)(DU:Def K mg "are_unlike_names" iO ["things"] fU fdU)
  (DM:Def K mg "is_move" jD ["taken", "given"] fM fdM) (DP:Def K mg "places_of" jR ["moves", "start"] fP fdP) (DK:Def K mg "makes_net" pZ ["moves", "start"] fK fdK):bo P w K mg base cS 5 f fd ["self", "moves", "start"] (Ag K C):=by
 have GP:bo P w K mg base cS 1 fP fdP ["moves", "start"] (mj K):=oP DP.fn T
 have GK:bo P w K mg base cS 4 fK fdK ["moves", "start"] (vX K):=ze DK.fn T DN DU DM DP
 refine F.oK qt fun cdv A outer s H vs Q E hr h=>?_
 ·obtain⟨p,dx,a,b,ms,st,rfl,hp,ha,hb,hf,hmk,k⟩:=h
  have hu:=dY hr
  refine⟨_,af (bH (cz (cf (dP GK hr rfl DK.mg DK.fn.kp DK.bd .nil bz (aa (pv 1) (aa (pv 2) ae))))) ot aU)
   (af (eh (pv 0) (a8 bK rfl T.tup fj (aa (dP GP (hr.mono (by decide)) rfl DP.mg DP.fn.kp DP.bd .nil bz (aa (pv 1) (aa (pv 2) ae))) ae)) rfl)
   (af (eh (pv 0) (a8 bK rfl T.tup fj (aa (ay dz rfl T.aH cn (aa (pv 2) ae)) ae)) rfl)
   (af (eh (pv 0) gx rfl)
   (af (eh (pv 0) gx rfl)
   (ai (bq IT rfl (aK (pv 1)) (dt rfl (aL (dX 3 qt) (aL (dX 4 qt) (aL (dX 5 qt) cH))))
    (af (fX hu (aM (pv 0) rfl) (pv 3) (a8 bK rfl T.tup fj (aa (ay dz rfl T.aH cn (aa (pv 4) ae)) ae)) rfl)
    (ai (fX hu (aM (pv 0) rfl) (pv 3) (a8 bK rfl T.tup fj (aa (ay dz rfl T.aH cn (aa (pv 5) ae)) ae)) rfl))))))))),?_⟩
  clear hu
  dsimp only [iR,Cx.vG]
  have so:=sE hmk
  obtain⟨qs,hq,hqp⟩:=id ha
  refine⟨_,rfl,_,rfl,a,b,ms,st,rfl,ha,hb,hf,fun H1 s1=>⟨_,rfl,?_⟩⟩
  rw [hmk]
  refine bB ?_
  refine⟨_,rfl,_,rfl,a,b,ms,st,rfl,ha.same s1,s1.seq hb,hf.sum,hf.i9,fun H2 q1 s2 nq1 hq1=>⟨q1,_,rfl,.inl ⟨aA.of hq1,fun aP nP=>?_⟩⟩⟩
  have sm2:aq H H2:=s1.trans s2
  have hp2:=sm2 _ _ hp
  have pP:p≠aP:=aj hp2 nP
  refine⟨_,rfl,p,C,dx,_,rfl,(by rw [ah pP];exact hp2),CT.cl,CT.nP,(by show 0<1000;decide),?_⟩
  have b3:jr p H (upd (upd H2 aP (.tup (aF (cF ms st)))) p (.ins C dx (bf "place_names" (V.ref aP) []))):=(((jr.refl p H).then sm2).new (sm2.free nP)).put
  have e3P:(upd (upd H2 aP (.tup (aF (cF ms st)))) p (.ins C dx (bf "place_names" (V.ref aP) []))) aP=some (.tup (aF (cF ms st))):=by rw [ah pP.symm,ag]
  have e3p:(upd (upd H2 aP (.tup (aF (cF ms st)))) p (.ins C dx (bf "place_names" (V.ref aP) []))) p=some (.ins C dx (bf "place_names" (V.ref aP) [])):=ag
  generalize upd (upd H2 aP (.tup (aF (cF ms st)))) p (.ins C dx (bf "place_names" (V.ref aP) []))=H3 at b3 e3P e3p ⊢
  refine⟨_,rfl,b,st,rfl,b3.seq hp hb,by have:=so.Hn;lia,fun q2 nq2=>⟨q2,_,rfl,.inl ⟨aA.of ag,fun aS nS=>?_⟩⟩⟩
  have p2:p≠q2:=aj e3p nq2
  have pS:p≠aS:=aj (by rw [ah p2];exact e3p) nS
  have n2S:aS≠q2:=fun z=>by rw [z,ag] at nS;cases nS
  have nS3:H3 aS=none:=by rw [ah n2S] at nS;exact nS
  refine⟨_,rfl,p,C,dx,_,rfl,(by rw [ah pS,ah p2];exact e3p),CT.cl,CT.nS,(by show 1<1000;decide),?_⟩
  have b4:=(((b3.new (o:=.lst (aF (aH st))) (b3.free nq2 p2.symm)).new (o:=.tup (aF (aH st))) (b3.free nS3 pS.symm)).put (o:=.ins C dx (bf "start_state" (V.ref aS) (bf "place_names" (V.ref aP) []))))
  have PS:aP≠aS:=aj e3P nS3
  have P2:aP≠q2:=aj e3P nq2
  have e4P:(upd (upd (upd H3 q2 (.lst (aF (aH st)))) aS (.tup (aF (aH st)))) p (.ins C dx (bf "start_state" (V.ref aS) (bf "place_names" (V.ref aP) [])))) aP=some (.tup (aF (cF ms st))):=by rw [ah pP.symm,ah PS,ah P2];exact e3P
  have e4S:(upd (upd (upd H3 q2 (.lst (aF (aH st)))) aS (.tup (aF (aH st)))) p (.ins C dx (bf "start_state" (V.ref aS) (bf "place_names" (V.ref aP) [])))) aS=some (.tup (aF (aH st))):=by rw [ah pS.symm,ag]
  have e4p:(upd (upd (upd H3 q2 (.lst (aF (aH st)))) aS (.tup (aF (aH st)))) p (.ins C dx (bf "start_state" (V.ref aS) (bf "place_names" (V.ref aP) [])))) p=some (.ins C dx (bf "start_state" (V.ref aS) (bf "place_names" (V.ref aP) []))):=ag
  generalize upd (upd (upd H3 q2 (.lst (aF (aH st)))) aS (.tup (aF (aH st)))) p (.ins C dx (bf "start_state" (V.ref aS) (bf "place_names" (V.ref aP) [])))=H4 at b4 e4P e4S e4p ⊢
  intro aT nT
  have pT:p≠aT:=aj e4p nT
  refine⟨_,rfl,p,C,dx,_,rfl,(by rw [ah pT];exact e4p),CT.cl,CT.nT,(by simp [bf,E1]),?_⟩
  intro aG nG
  have pG:p≠aG:=fun z=>by rw [← z,ag] at nG;cases nG
  have GT:aG≠aT:=fun z=>by rw [z,ah pT.symm,ag] at nG;cases nG
  have nG4:H4 aG=none:=by rw [ah pG.symm,ah GT] at nG;exact nG
  refine⟨_,rfl,p,C,dx,_,rfl,(by rw [ah pG];exact ag),CT.cl,CT.nG,(by simp [bf,E1,FI,Gn]),?_⟩
  rw [xf]
  have nT0:H aT=none:=b4.free nT pT.symm
  have nG0:H aG=none:=b4.free nG4 pG.symm
  have b5:=(((b4.new (o:=.dK []) nT0).put (o:=.ins C dx (bf "taken_by" (V.ref aT) (bf "start_state" (V.ref aS) (bf "place_names" (V.ref aP) []))))).new (o:=.dK []) nG0).put (o:=.ins C dx (ie aP aS aT aG))
  have PT:aP≠aT:=aj e4P nT
  have PG:aP≠aG:=aj e4P nG4
  have ST:aS≠aT:=aj e4S nT
  have SG:aS≠aG:=aj e4S nG4
  generalize hH5:upd (upd (upd (upd H4 aT (.dK [])) p (.ins C dx (bf "taken_by" (V.ref aT) (bf "start_state" (V.ref aS) (bf "place_names" (V.ref aP) []))))) aG (.dK [])) p (.ins C dx (ie aP aS aT aG))=H5 at b5 ⊢
  have e5p:H5 p=some (.ins C dx (ie aP aS aT aG)):=by rw [← hH5,ag]
  have e5P:H5 aP=some (.tup (aF (cF ms st))):=by rw [← hH5,ah pP.symm,ah PG,ah pP.symm,ah PT];exact e4P
  have e5S:H5 aS=some (.tup (aF (aH st))):=by rw [← hH5,ah pS.symm,ah SG,ah pS.symm,ah ST];exact e4S
  have e5T:H5 aT=some (.dK []):=by rw [← hH5,ah pT.symm,ah GT.symm,ah pT.symm,ag]
  have e5G:H5 aG=some (.dK []):=by rw [← hH5,ah pG.symm,ag]
  clear hH5
  have lq:qs.length=ms.length:=(IX hqp).symm
  refine⟨_,rfl,a,rfl,⟨_,b5.seq hp hq⟩,br (K:=K) (a:=a) (xs:=qs.map V.ref) (Il C H p a b dx aP aS aT aG ms st)
   ⟨[],[],none,none,none,rfl,e5p,e5P,e5S,e5T,e5G,.nil,.nil,b5⟩ (fun i σ H6 _ h=>h.but.seq hp hq) ?_ ?_⟩
  ·rintro i v σ H6 hi ⟨kT,kG,v3,v4,v5,rfl,e6p,e6P,e6S,e6T,e6G,dT,dG,b6⟩
   obtain⟨q,hqi,rfl⟩:=fF hi
   obtain⟨m,hm,hmv⟩:=bA hqp hqi
   obtain⟨l,g,h1,h2,h3⟩:=b6.mv hp hmv
   have hmem:m∈ms:=IK hm
   obtain⟨_,_,_,tk4,gv4⟩:=fY (so.mv m hmem)
   have hnew:m.1∉names (ms.take i):=fun z=>by
    have nd:=so.nd
    have e:names ms=names (ms.take i)++names (ms.drop i):=by
     unfold names
     rw [← List.map_append,Kg]
    rw [e] at nd
    have hlt:i<ms.length:=(IM.mp hm).1
    have hin:m.1∈names (ms.drop i):=by
     refine IV.mpr ⟨m,?_,rfl⟩
     refine IK (i:=0) ?_
     rw [List.getElem?_drop]
     exact hm
    exact(JT.mp nd).2.2 _ z _ hin rfl
   have lT:kT.length=(ms.take i).length:=(IX dT).symm
   have lG:kG.length=(ms.take i).length:=(IX dG).symm
   have l12:(ms.take i).length≤12:=by rw [Jj];have:=so.ml;lia
   refine⟨q,_,rfl,bO.of h1,rfl,_,_,rfl,_,_,rfl,_,_,rfl,rfl,?_⟩
   refine⟨_,rfl,l,m.2.1,rfl,aA.of h2,by lia,fun q3 n3=>⟨q3,_,rfl,.inl ⟨aA.of ag,fun t3 m3=>?_⟩⟩⟩
   have s7:aq H6 (upd (upd H6 q3 (.lst (aF (aH m.2.1)))) t3 (.tup (aF (aH m.2.1)))):=(ao n3).trans (ao m3)
   have e7t:(upd (upd H6 q3 (.lst (aF (aH m.2.1)))) t3 (.tup (aF (aH m.2.1)))) t3=some (.tup (aF (aH m.2.1))):=ag
   have nt6:H6 t3=none:=(ao (o:=.lst (aF (aH m.2.1))) n3).free m3
   have b7:jr p H (upd (upd H6 q3 (.lst (aF (aH m.2.1)))) t3 (.tup (aF (aH m.2.1)))):=b6.then s7
   generalize upd (upd H6 q3 (.lst (aF (aH m.2.1)))) t3 (.tup (aF (aH m.2.1)))=H7 at s7 e7t b7 ⊢
   refine⟨_,rfl,p,C,dx,_,_,rfl,s7 _ _ e6p,CT.cl,CT.nT,vC _ _ _ _,_,rfl,aT,_,rfl,jN.k (k:=Sum.inr m.1) (s7 _ _ e6T) (oM (by lia)),?_⟩
   have pk:putK kT (Sum.inr m.1:Key) (V.ref t3)=kT++[(Sum.inr m.1,V.ref t3)]:=jA _ (dT.none hnew)
   rw [pk]
   have tT:∀ {b:Addr} {xs:List V},H7 b=some (.tup xs)→b≠aT:=fun e=>aJ e (s7 _ _ e6T) (by intro z;cases z)
   have e8T:(upd H7 aT (.dK (kT++[(Sum.inr m.1,V.ref t3)]))) aT=some (.dK (kT++[(Sum.inr m.1,V.ref t3)])):=ag
   have up8:∀ {b:Addr} {o:HO},b≠aT→H7 b=some o→(upd H7 aT (.dK (kT++[(Sum.inr m.1,V.ref t3)]))) b=some o:=fun n e=>by rw [ah n];exact e
   have e8p:=up8 pT (s7 _ _ e6p)
   have e8P:=up8 PT (s7 _ _ e6P)
   have e8S:=up8 ST (s7 _ _ e6S)
   have e8G:=up8 GT (s7 _ _ e6G)
   have e8t:=up8 (tT e7t) e7t
   have dT8:gB (upd H7 aT (.dK (kT++[(Sum.inr m.1,V.ref t3)]))) (·.2.1) (ms.take i++[m]) (kT++[(Sum.inr m.1,V.ref t3)]):=(dT.same fun b xs e=>up8 (tT (s7 _ _ e)) (s7 _ _ e)).snoc e8t
   have dG8:gB (upd H7 aT (.dK (kT++[(Sum.inr m.1,V.ref t3)]))) (·.2.2) (ms.take i) kG:=dG.same fun b xs e=>up8 (tT (s7 _ _ e)) (s7 _ _ e)
   have e8g:=up8 (aJ (s7 _ _ h3) (s7 _ _ e6T) (by intro z;cases z)) (s7 _ _ h3)
   have b8:jr p H (upd H7 aT (.dK (kT++[(Sum.inr m.1,V.ref t3)]))):=b7.new nT0
   generalize upd H7 aT (.dK (kT++[(Sum.inr m.1,V.ref t3)]))=H8 at e8T e8p e8P e8S e8G dT8 dG8 e8g b8 ⊢
   refine⟨_,rfl,g,m.2.2,rfl,aA.of e8g,by lia,fun q4 n4=>⟨q4,_,rfl,.inl ⟨aA.of ag,fun t4 m4=>?_⟩⟩⟩
   have s9:aq H8 (upd (upd H8 q4 (.lst (aF (aH m.2.2)))) t4 (.tup (aF (aH m.2.2)))):=(ao n4).trans (ao m4)
   have e9t:(upd (upd H8 q4 (.lst (aF (aH m.2.2)))) t4 (.tup (aF (aH m.2.2)))) t4=some (.tup (aF (aH m.2.2))):=ag
   have b9:jr p H (upd (upd H8 q4 (.lst (aF (aH m.2.2)))) t4 (.tup (aF (aH m.2.2)))):=b8.then s9
   generalize upd (upd H8 q4 (.lst (aF (aH m.2.2)))) t4 (.tup (aF (aH m.2.2)))=H9 at s9 e9t b9 ⊢
   refine⟨_,rfl,p,C,dx,_,_,rfl,s9 _ _ e8p,CT.cl,CT.nG,C5 _ _ _ _,_,rfl,aG,_,rfl,jN.k (k:=Sum.inr m.1) (s9 _ _ e8G) (oM (by lia)),?_⟩
   have pk2:putK kG (Sum.inr m.1:Key) (V.ref t4)=kG++[(Sum.inr m.1,V.ref t4)]:=jA _ (dG.none hnew)
   rw [pk2]
   have tG:∀ {b:Addr} {xs:List V},H9 b=some (.tup xs)→b≠aG:=fun e=>aJ e (s9 _ _ e8G) (by intro z;cases z)
   have up9:∀ {b:Addr} {o:HO},b≠aG→H9 b=some o→(upd H9 aG (.dK (kG++[(Sum.inr m.1,V.ref t4)]))) b=some o:=fun n e=>by rw [ah n];exact e
   have tki:ms.take (i+1)=ms.take i++[m]:=av hm
   refine⟨kT++[(Sum.inr m.1,V.ref t3)],kG++[(Sum.inr m.1,V.ref t4)],_,_,_,rfl,up9 pG (s9 _ _ e8p),up9 PG (s9 _ _ e8P),up9 SG (s9 _ _ e8S),up9 GT.symm (s9 _ _ e8T),ag,?_,?_,b9.new nG0⟩
   ·rw [tki]
    exact dT8.same fun b xs e=>up9 (tG (s9 _ _ e)) (s9 _ _ e)
   ·rw [tki]
    exact(dG8.same fun b xs e=>up9 (tG (s9 _ _ e)) (s9 _ _ e)).snoc (up9 (tG e9t) e9t)
  ·rintro σ H6 ⟨kT,kG,v3,v4,v5,rfl,e6p,e6P,e6S,e6T,e6G,dT,dG,b6⟩
   rw [List.length_map,lq,Jc] at dT dG
   exact k H6 ⟨dx,aP,aS,aT,aG,kT,kG,e6p,e6P,e6S,e6T,e6G,dT,dG⟩ b6
structure Bn(K:PySem.W.Frag)(C:Addr)(x q:Str)(st:Stmt)(ps:List Str)(f:Addr)(fd:FuncData):Prop where
 fn:dv K x q st f fd
 mt:Meth K C x f
 bd:Binds K fd ps []
structure jI(P:Program)(w:World)(K:PySem.W.Frag)(mg:Str→Option Value)(base:Heap)(C:Addr)(x q:Str)(st:Stmt)(ps:List Str)(k:Nat)(sp:Sp) where
 f:Addr
 fd:FuncData
 d:Bn K C x q st ps f fd
 g:bo P w K mg base cS k f fd ps sp
structure cc(C:Addr)(H:Hp)(p:Addr)(ms:List Mv)(st:List Str):Prop where
 at':rK C H p ms st
 so:Sound ms st
theorem cc.same{C:Addr}{H H':Hp}{p:Addr}{ms:List Mv}{st:List Str}(s:aq H H')(h:cc C H p ms st):cc C H' p ms st:=⟨h.at'.same s,h.so⟩
theorem Sound.isNm{ms:List Mv}{st:List Str}(h:Sound ms st){m:Mv}(hm:m∈ms):Uf.isNm m.1=true:=JO.mp h.nn _ (IV.mpr ⟨m,hm,rfl⟩)
def sM{x:Str}(h:isNm x=true):x.length≤8:=by
 unfold isNm at h
 have:=(Jn.mp (Jn.mp h).2).1
 exact JF this
def pW(C:Addr):Sp:=fun vs H Q _=>∃ (p:Addr) (ms:List Mv) (st:List Str),vs=[.ref p]∧cc C H p ms st∧∀ H' q,aq H H'→H q=none→H' q=some (.lst (aF (aH (names ms))))→Q (.ref q) H'
def EI:aD ["self"] ["self"] (au oF):=eR
def Bp{f C:Addr}{fd:FuncData}(F:dv K "moves" "Net.moves" oF f fd)(T:Txt K mg)(CT:gU K C):bo P w K mg base cS 1 f fd ["self"] (pW C):=by
 refine F.oK EI fun cdv A outer s H vs Q E hr h=>?_
 ·obtain⟨p,ms,st,rfl,N,k⟩:=h
  obtain⟨dx,aP,aS,aT,aG,kT,kG,h1,h2,h3,h4,h5,h6,h7⟩:=N.at'.ob
  refine⟨_,ai (aI (ay (sV rfl) rfl T.aH cn (aa (aM (pv 0) rfl) ae))),?_⟩
  refine⟨_,rfl,p,C,dx,_,_,rfl,h1,CT.cl,CT.nT,vC _ _ _ _,aT,kT,names ms,rfl,.inl h4,h6.keys,?_,fun q nq=>k _ q (ao nq) nq ag⟩
  have:=N.so.ml
  unfold names
  rw [List.length_map]
  lia
def pR(C:Addr):Sp:=fun vs H Q _=>∃ (p:Addr) (ms:List Mv) (st:List Str),vs=[.ref p]∧cc C H p ms st∧∀ q,H q=some (.tup (aF (aH st)))→Q (.ref q) H
def CJ:aD ["self"] ["self"] (au m9):=eR
def yQ{f C:Addr}{fd:FuncData}(F:dv K "start" "Net.start" m9 f fd)(CT:gU K C):bo P w K mg base cS 1 f fd ["self"] (pR C):=by
 refine F.oK CJ fun cdv A outer s H vs Q E hr h=>?_
 ·obtain⟨p,ms,st,rfl,N,k⟩:=h
  obtain⟨dx,aP,aS,aT,aG,kT,kG,h1,h2,h3,h4,h5,h6,h7⟩:=N.at'.ob
  refine⟨_,ai (aI (aM (pv 0) rfl)),?_⟩
  exact⟨_,rfl,p,C,dx,_,_,rfl,h1,CT.cl,CT.nS,GC _ _ _ _,k aS h3⟩
def uf(C:Addr):Sp:=fun vs H Q _=>∃ (p:Addr) (ms:List Mv) (st:List Str) (m:Mv),vs=[.ref p,.str m.1]∧cc C H p ms st∧m∈ms∧∀ H',aq H H'→Q .non H'
def DV:aD ["self", "move"] ["self", "move"] (au qD):=eR
def vI{f C fN:Addr}{fd fdN:FuncData}(F:dv K "must_have" "Net.must_have" qD f fd)(T:Txt K mg)(CT:gU K C)(DN:Def K mg "is_name" eF ["thing"] fN fdN):bo P w K mg base cS 2 f fd ["self", "move"] (uf C):=by
 have GN:bo P w K mg base cS 1 fN fdN ["thing"] nv:=oZ DN.fn T
 refine F.oK DV fun cdv A outer s H vs Q E hr h=>?_
 ·obtain⟨p,ms,st,m,rfl,N,hm,k⟩:=h
  have hu:=dY hr
  refine⟨_,ai (bH (PW.pt (pw_or (cz (cf (dP GN hr rfl DN.mg DN.fn.kp DN.bd .nil bz (aa (pv 1) ae)))) (pw_or1 (ke (oE hu (pv 1) (aM (pv 0) rfl)))))) ot aU),?_⟩
  clear hu
  dsimp only [iR,Cx.vG]
  have hnm:=N.so.isNm hm
  refine⟨_,rfl,m.1,rfl,by have:=sM hnm;lia,fun H1 s1=>⟨_,rfl,?_⟩⟩
  obtain⟨dx,aP,aS,aT,aG,kT,kG,h1,h2,h3,h4,h5,h6,h7⟩:=(N.at'.same s1).ob
  rw [hnm]
  refine bB ?_
  obtain⟨t,e,_⟩:=h6.get N.so.nd hm
  refine⟨_,rfl,_,rfl,p,C,dx,_,_,rfl,h1,CT.cl,CT.nT,vC _ _ _ _,aT,_,rfl,fz.k (k:=Sum.inr m.1) h4,_,rfl,?_⟩
  rw [e]
  refine bB ?_
  exact k H1 s1
def ja(C:Addr)(sel:Mv→List Str):Sp:=fun vs H Q _=>∃ (p:Addr) (ms:List Mv) (st:List Str) (m:Mv),vs=[.ref p,.str m.1]∧cc C H p ms st∧m∈ms∧∀ H' q,aq H H'→H q=none→H' q=some (.lst (aF (aH (sel m))))→Q (.ref q) H'
def B3:aD ["self", "move"] ["self", "move"] (au iz):=eR
def Cc:aD ["self", "move"] ["self", "move"] (au kx):=eR
def C2:(("must_have":Str) == "place_names")=false:=by decide +kernel
def CM:(("must_have":Str) == "start_state")=false:=by decide +kernel
def C0:(("must_have":Str) == "taken_by")=false:=by decide +kernel
def CS:(("must_have":Str) == "given_by")=false:=by decide +kernel
def yn{f C fN fH:Addr}{fd fdN fdH:FuncData}(F:dv K "takes" "Net.takes" iz f fd)(T:Txt K mg)(CT:gU K C)(DN:Def K mg "is_name" eF ["thing"] fN fdN)(DH:Bn K C "must_have" "Net.must_have" qD ["self", "move"] fH fdH) :
  bo P w K mg base cS 3 f fd ["self", "move"] (ja C (·.2.1)):=by
 have GH:bo P w K mg base cS 2 fH fdH ["self", "move"] (uf C):=vI DH.fn T CT DN
 refine F.oK B3 fun cdv A outer s H vs Q E hr h=>?_
 ·obtain⟨p,ms,st,m,rfl,N,hm,k⟩:=h
  have hu:=dY hr
  refine⟨_,af (a9 (bZ (pv 0) CT.cl DH.mt GH hr DH.bd .nil bz (aa (pv 1) ae))) (ai (aI (a8 bU rfl T.lst dA (aa (fh hu (aM (pv 0) rfl) (pv 1) (fun _ _=>rfl)) ae)))),?_⟩
  clear hu
  dsimp only [iR,Cx.vG]
  obtain⟨dx,aP,aS,aT,aG,kT,kG,h1,h2,h3,h4,h5,h6,h7⟩:=N.at'.ob
  refine⟨_,rfl,p,dx,_,rfl,h1,cW _ _ _ _ C2 CM C0 CS,_,rfl,p,ms,st,m,rfl,N,hm,fun H1 s1=>?_⟩
  obtain⟨t,e,ht⟩:=(h6.same fun b xs e=>s1 _ _ e).get N.so.nd hm
  refine⟨_,rfl,p,C,dx,_,_,rfl,s1 _ _ h1,CT.cl,CT.nT,vC _ _ _ _,_,rfl,aT,_,rfl,(by rw [← e];exact fz.k (k:=Sum.inr m.1) (s1 _ _ h4)),t,_,rfl,.inr (bO.of ht),fun q nq=>?_⟩
  exact k _ q (s1.trans (ao nq)) (s1.free nq) ag
def yB{f C fN fH:Addr}{fd fdN fdH:FuncData}(F:dv K "gives" "Net.gives" kx f fd)(T:Txt K mg)(CT:gU K C)(DN:Def K mg "is_name" eF ["thing"] fN fdN)(DH:Bn K C "must_have" "Net.must_have" qD ["self", "move"] fH fdH) :
  bo P w K mg base cS 3 f fd ["self", "move"] (ja C (·.2.2)):=by
 have GH:bo P w K mg base cS 2 fH fdH ["self", "move"] (uf C):=vI DH.fn T CT DN
 refine F.oK Cc fun cdv A outer s H vs Q E hr h=>?_
 ·obtain⟨p,ms,st,m,rfl,N,hm,k⟩:=h
  have hu:=dY hr
  refine⟨_,af (a9 (bZ (pv 0) CT.cl DH.mt GH hr DH.bd .nil bz (aa (pv 1) ae))) (ai (aI (a8 bU rfl T.lst dA (aa (fh hu (aM (pv 0) rfl) (pv 1) (fun _ _=>rfl)) ae)))),?_⟩
  clear hu
  dsimp only [iR,Cx.vG]
  obtain⟨dx,aP,aS,aT,aG,kT,kG,h1,h2,h3,h4,h5,h6,h7⟩:=N.at'.ob
  refine⟨_,rfl,p,dx,_,rfl,h1,cW _ _ _ _ C2 CM C0 CS,_,rfl,p,ms,st,m,rfl,N,hm,fun H1 s1=>?_⟩
  obtain⟨t,e,ht⟩:=(h7.same fun b xs e=>s1 _ _ e).get N.so.nd hm
  refine⟨_,rfl,p,C,dx,_,_,rfl,s1 _ _ h1,CT.cl,CT.nG,C5 _ _ _ _,_,rfl,aG,_,rfl,(by rw [← e];exact fz.k (k:=Sum.inr m.1) (s1 _ _ h5)),t,_,rfl,.inr (bO.of ht),fun q nq=>?_⟩
  exact k _ q (s1.trans (ao nq)) (s1.free nq) ag
end Uf
end
section
namespace L2
open PySem PySem.Spec PyProof.Rows UfSrt
section
variable {X:Cx}
def Ci(tk tv:TE):TE:=fun σ H Q=>∀ p,H p=none→tk σ (upd H p (.dT [])) fun x H1=>tv σ H1 fun y H2=>H2 p=some (.dT [])∧∃ ks b,x=.ref b∧H2 b=some (.tup (ks.map kV))∧Q (.ref p) (upd H2 p (.dT [(ks,y)]))
def xa{k v:Expr}{pos:Pos}{tk tv:TE}(hu:X.A.units+1<cLine)(hk:PE X k tk)(hv:PE X v tv):PE X (.Dict [some k] [v] pos) (Ci tk tv):=by
 intro pins s σ H Q I q
 have hn:=I.hok.fresh (II s.heap.objs.size)
 have I1:=I.laid (a:=s.heap.objs.size) (o:=.dT []) (h':=s.heap.push { cls:=.type "dict",data:=.dict #[] }) (t':=s.toks) (fun _ _ q=>IF _ q) (II _) (zA s.heap I.big)
 refine wpAny_Dict_any rfl rfl (by simp) (by show 1≤15;decide) (pairTrees_cons_walk (bM (hk pins _ σ _ _ I1 (q _ hn)) fun u s1 ⟨x,H1,J1,rx,q1⟩=>bM (hv pins s1 σ H1 _ J1 q1) fun w2 s2 ⟨y,H2,J2,ry,e,ks,b,ex,eb,q2⟩=>pairTrees_nil_walk ?_))
 subst ex
 obtain rfl:u=Value.ref b:=rx
 unfold storeAll
 rw [Ky]
 obtain⟨z,hd,xs,rel,dd⟩:=De J2.hok e
 cases rel
 refine IE (IE (wpAny_dictSet_heap (knd:=tupleKind (aQ X.prog X.w)) (hsz:=by simp) (by have:=hu;show X.A.units<cLine;lia) (kj J2.hok eb) dd fun h' dd' hs=>wpAny_pure ?_))
 show wpAny _ _ (forIn [] PUnit.unit _) _ _ _
 rw [MB]
 refine wpAny_pure ?_
 obtain⟨o,es,ep,hq,h2,h3,h4,_,h5⟩:=dd'
 refine⟨.ref s.heap.objs.size,_,kU J2 (by rw [e];exact True.intro) hs ⟨o,hq⟩ (ob:=.dT [(ks,y)]) ⟨by show 1≤sizeLine;rw [sizeLine_eq];decide,hd,_,?_,o,es,ep,hq,h2,h3,h4,h5⟩,rfl,q2⟩
 refine .cons ⟨rfl,?_,ry⟩ .nil
 rw [ah (aJ eb e (fun z=>nomatch z))]
 exact eb
def ne_nil:gr X (compareOp .NotEq) (fun x y H Q=>∃ a b xs,x=.ref a∧y=.ref b∧X.A.units<cLine∧aA X.K H a xs∧aA X.K H b []∧Q (.bl (!xs.isEmpty)) H):=by
 intro pins s σ H x y v u Q I rx ry h
 obtain⟨a,b,xs,rfl,rfl,hu,ha,hb,q⟩:=h
 cases rx
 cases ry
 obtain⟨its,r1,p1,_⟩:=I.list ha
 obtain⟨its2,r2,p2,_⟩:=I.list hb
 cases r2
 cases r1 with
 | nil=>exact PySem.SeqAt.RcNeAt.lists (e:=fun _=>true) p1.isList p2.isList rfl hu (fun j h1 _=>absurd h1 (by simp)) X.prog X.w X.xe _ ⟨.bl false,H,I,rfl,q⟩
 | cons _ _=>exact PySem.SeqAt.RcNeAt.lists_lengths p1.isList p2.isList (by simp) hu X.prog X.w X.xe _ ⟨.bl true,H,I,rfl,q⟩
def eq_nil:gr X (compareOp .Eq) (fun x y H Q=>∃ a b xs,x=.ref a∧y=.ref b∧X.A.units<cLine∧aA X.K H a xs∧aA X.K H b []∧Q (.bl xs.isEmpty) H):=by
 intro pins s σ H x y v u Q I rx ry h
 obtain⟨a,b,xs,rfl,rfl,hu,ha,hb,q⟩:=h
 cases rx
 cases ry
 obtain⟨its,r1,p1,_⟩:=I.list ha
 obtain⟨its2,r2,p2,_⟩:=I.list hb
 cases r2
 cases r1 with
 | nil=>exact PySem.SeqAt.RcAt.lists (e:=fun _=>true) p1.isList p2.isList rfl hu (fun j h1 _=>absurd h1 (by simp)) X.prog X.w X.xe _ ⟨.bl true,H,I,rfl,q⟩
 | cons _ _=>exact PySem.SeqAt.RcAt.lists_lengths p1.isList p2.isList (by simp) hu X.prog X.w X.xe _ ⟨.bl false,H,I,rfl,q⟩
def rQ(x:Str)(n:Nat):Str:=⟨(List.replicate n x.cps).foldl (· ++ ·) #[]⟩
def AG(x:Str):rQ x 1=x:=by
 unfold rQ
 simp [List.replicate,List.foldl]
def Hz:V→Option Int→Option Int→Hp→VK→Prop:=fun x lo hi H Q=>∃ z:Str,x=.str z∧z.length≤sizeLine∧Q (.str (Txt.slice z lo hi)) H
def Eo:Iw X Hz:=by
 intro pins s σ H x v vl vu lo hi sl Q I rx hs pl pu h
 obtain⟨z,rfl,hz,q⟩:=h
 obtain⟨t,rfl⟩:=rx
 refine⟨"str",_,PySem.F.slot_str_getitem.lookup,Nv _ _ _,?_⟩
 cases pl with
 | none =>
  cases pu with
  | none=>exact Le (l:=none) (u:=none) (st:=none) hs rfl (Mo ⟨Jf (Mp z _ _) hz,fun t' k=>⟨.str _,H,I.tok k,⟨_,rfl⟩,q⟩⟩)
  | int j uj=>exact Le (l:=none) (u:=some (j,uj)) (st:=none) hs rfl (Mo ⟨Jf (Mp z _ _) hz,fun t' k=>⟨.str _,H,I.tok k,⟨_,rfl⟩,q⟩⟩)
 | int i ui =>
  cases pu with
  | none=>exact Le (l:=some (i,ui)) (u:=none) (st:=none) hs rfl (Mo ⟨Jf (Mp z _ _) hz,fun t' k=>⟨.str _,H,I.tok k,⟨_,rfl⟩,q⟩⟩)
  | int j uj=>exact Le (l:=some (i,ui)) (u:=some (j,uj)) (st:=none) hs rfl (Mo ⟨Jf (Mp z _ _) hz,fun t' k=>⟨.str _,H,I.tok k,⟨_,rfl⟩,q⟩⟩)
end
end L2
end
section
namespace Uf
open PySem L2 UfSrt UfFin
def xC(x:Str):x.length=x.cps.toList.length:=by simp [Str.length]
def wL:AL.cps.toList=(List.range 26).map (· + 97):=by decide +kernel
def CD{c:Nat}(h1:97≤c)(h2:c≤122):c∈AL.cps.toList:=by
 rw [wL]
 exact IV.mpr ⟨c-97,JK.mpr (by lia),by lia⟩
def A0(l:List Nat):Prop:=∀ c∈l,97≤c∧c≤122
def FQ{x:Str}(h1:1≤x.cps.toList.length)(h2:x.cps.toList.length≤8)(h:A0 x.cps.toList):isNm x=true:=by
 unfold isNm
 rw [xC,IL h1,IL h2,K1,K1,JO]
 intro c hc
 exact IL (CD (h c hc).1 (h c hc).2)
def oN{xs:List Str}(h1:∀ x∈xs,isNm x=true)(h2:xs.Nodup):unlike xs=true:=by
 unfold unlike
 rw [JO.mpr h1,IL h2]
 rfl
def kz{xs:List Str}(h:unlike xs=true){x:Str}(hx:x∈xs):isNm x=true:=JO.mp (Jn.mp h).1 x hx
def je{xs ys:List Str}(h:unlike xs=true)(hn:ys.Nodup)(hs:∀ y∈ys,y∈xs):unlike ys=true:=oN (fun y hy=>kz h (hs y hy)) hn
end Uf
end
section
namespace UfStr
open PySem PySem.Builtin PySem.Builtin.Str PySem.StrLaws
def qa{x y:PySem.Str}(h:x.cps.toList=y.cps.toList):x=y:=by
 cases x with
 | mk a =>
  cases y with
  | mk b =>
   have:a=b:=Array.toList_inj.mp h
   rw [this]
def x8(x y:PySem.Str):(x++y).cps.toList=x.cps.toList++y.cps.toList:=by
 show(x.cps++y.cps).toList=_
 simp
end UfStr
namespace L2
open PySem PySem.Spec PyProof.Rows UfSrt
section
variable {X:Cx}
end
end L2
end
section
namespace Uf
open PySem L2
structure Txt2(mg:PySem.Str→Option Value):Prop where
 rng:mg "range"=none
 enm:mg "enumerate"=none
 any:mg "any"=none
end Uf
end
section
namespace L2
open PySem PySem.Spec PyProof.Rows
section
variable {X:Cx}
def Cm:gr X (binaryOp .Mult) (fun x y H Q=>∃ (z:Str) (n:Int),x=.str z∧y=.int n∧1≤n∧n≤8∧z.length=1∧Q (.str (rQ z n.toNat)) H):=by
 intro pins s σ H x y v u Q I rx ry h
 obtain⟨z,n,rfl,rfl,hn,hn2,hz,q⟩:=h
 obtain⟨t,rfl⟩:=rx
 obtain⟨t',rfl⟩:=ry
 have hsl:=sizeLine_eq
 have h3:n=1∨n=2∨n=3∨n=4∨n=5∨n=6∨n=7∨n=8:=by lia
 have e2:z.cps.size=1:=hz
 refine PySem.P.mul_str (by rw [decide_eq_false (by lia),decide_eq_false (by lia)];rfl) (fun h1 _=>?_) (fun h1 _=>?_) ?_
 ·rw [hz]
  rcases h3 with rfl | rfl | rfl | rfl | rfl | rfl | rfl | rfl <;> decide
 ·rw [hz]
  rcases h3 with rfl | rfl | rfl | rfl | rfl | rfl | rfl | rfl <;> decide
 ·by_cases h1:n=1
  ·subst h1
   rw [if_neg (by decide),if_pos (by rfl)]
   refine⟨.str (rQ z 1),H,I,⟨t,?_⟩,q⟩
   rw [AG]
  ·have e:((n:Int)==1 || z.length==0)=false:=by
    rw [hz]
    have:(n==1)=false:=J0.mpr h1
    rw [this]
    rfl
   rw [if_neg (by lia),if_neg (by rw [e];exact Je)]
   refine⟨?_,.str (rQ z n.toNat),H,I.tok _,⟨_,rfl⟩,q⟩
   rcases h3 with rfl | rfl | rfl | rfl | rfl | rfl | rfl | rfl <;>
   ·show((List.replicate _ z.cps).foldl (· ++ ·) #[]).size≤_
    simp [List.replicate,List.foldl,e2]
    lia
end
end L2
namespace Uf
open PySem L2 UfSrt UfFin
abbrev nh:Stmt:=top 46
def kZ{α:Type}{xs:List α}{i:Int}(d:α)(h0:0≤i)(h1:i<xs.length):sS xs i=some (xs.getD i.toNat d):=by
 unfold sS yk
 rw [if_pos h0,if_pos h1]
 show xs[i.toNat]?=_
 have h2:i.toNat<xs.length:=by lia
 rw [IG h2,List.getD_eq_getElem?_getD,IG h2]
 rfl
def getD_map{α β:Type}(f:α→β)(xs:List α)(i:Nat)(d:α):(xs.map f).getD i (f d)=f (xs.getD i d):=by
 rw [List.getD_eq_getElem?_getD,List.getElem?_map,List.getD_eq_getElem?_getD]
 cases xs[i]? <;> rfl
def lu{xs:List Str}{i:Int}(h0:0≤i)(h1:i<xs.length):sS (aF xs) i=some (.str (xs.getD i.toNat "")):=by
 rw [kZ (V.str "") h0 (by rw [aw];exact h1)]
 unfold aF
 rw [getD_map V.str]
def ig{xs:List Int}{i:Int}(h0:0≤i)(h1:i<xs.length):sS (xs.map V.int) i=some (.int (xs.getD i.toNat 0)):=by
 rw [kZ (V.int 0) h0 (by rw [List.length_map];exact h1),getD_map V.int]
def lX(K:PySem.W.Frag):Sp:=fun vs H Q _=>∃ (a:Addr) (ns:List Int) (k:Nat),vs=[.ref a,.int k]∧aA K H a (ns.map V.int)∧ns.length≤63∧Q (.int (ns.getD k 0)) H
def EY:aD ["_law_script", "_law_k"] ["_law_script", "_law_k"] (au nh):=eR
def CC{f:Addr}{fd:FuncData}(F:dv K "_law_cell_at" "_law_cell_at" nh f fd)(T:Txt K mg):bo P w K mg base cS 1 f fd ["_law_script", "_law_k"] (lX K):=by
 refine F.oK EY fun cdv A outer s H vs Q E hr h=>?_
 ·obtain⟨a,ns,k,rfl,ha,hz,kk⟩:=h
  refine⟨_,af (bH (bj vO (pv 1) (ay bu rfl T.len cL (aa (pv 0) ae)) (bC _)) (ai (aI (bb aR (pv 0) (pv 1) (fun _ _=>rfl)))) aU)
   (ai (aI ak)),?_⟩
  refine⟨_,rfl,_,rfl,_,ns.length,rfl,.inl ⟨_,ha,by rw [List.length_map]⟩,_,_,rfl,rfl,_,rfl,?_⟩
  by_cases h:k<ns.length
  ·rw [IL (show((k:Nat):Int)<((ns.length:Nat):Int) by lia)]
   refine bF ?_
   refine⟨_,rfl,_,rfl,a,_,_,_,rfl,rfl,ha,ig (by lia) (by lia),?_⟩
   exact kk
  ·rw [decide_eq_false (show ¬((k:Nat):Int)<((ns.length:Nat):Int) by lia)]
   refine bB ?_
   have e:ns.getD k 0=0:=by rw [List.getD_eq_getElem?_getD,Jm (by lia)];rfl
   rw [e] at kk
   exact kk
end Uf
namespace Uf
open PySem L2 UfSrt UfStr PySem.Builtin PySem.Builtin.Str PySem.StrLaws
abbrev rR:Stmt:=top 47
def yd(x:PySem.Str){a b:Nat}(hab:a≤b)(hb:b≤x.length):Txt.slice x (some (a:Int)) (some (b:Int))=strSub x a b:=by
 refine UfStr.qa ?_
 rw [strSub_toList]
 have:=sliceText_nat x hab hb
 rw [show Txt.slice x (some (a:Int)) (some (b:Int))=sliceText x (some (a:Int)) (some (b:Int)) from rfl,this]
def Ac(x:PySem.Str){b:Nat}(hb:b≤x.length):(Txt.slice x none (some (b:Int))).cps.toList=x.cps.toList.take b:=by
 have:Txt.slice x none (some (b:Int))=strSub x 0 b:=by
  rw [← yd x (IU b) hb]
  unfold Txt.slice
  rw [sliceIdx_none_lo]
  rfl
 rw [this,strSub_toList,MA,Nat.sub_zero]
theorem foldl_rep(c:Nat):∀ (n:Nat) (acc:Array Nat),((List.replicate n #[c]).foldl (· ++ ·) acc).toList=acc.toList++List.replicate n c
 | 0,acc=>by simp
 | n+1,acc=>by
  rw [LH,JD,foldl_rep c n,LH]
  simp
def tH(c n:Nat):(rQ (⟨#[c]⟩:PySem.Str) n).cps.toList=List.replicate n c:=by
 unfold rQ
 rw [foldl_rep]
 rfl
def Fc:List Nat:=[113,119,101,114,116,121,117,105,111,112,97,115,100,102,103,104,106,107,108,122,120,99,118]
def nF(c:Int)(k:Nat):Int:=(k*(1+c % 22)+c / 22) % 23
def Aw(c:Int)(k:Nat):List Nat :=
 if c / 506 % 2=0 then List.replicate (1+nF c k % 8).toNat (97+(nF c k / 8).toNat)
 else Fc.getD (nF c k).toNat 0::[120,121,122].take (c / 1012 % 4).toNat
def hC(c:Int)(k:Nat):PySem.Str:=⟨(Aw c k).toArray⟩
def dy(c:Int)(k:Nat):(hC c k).cps.toList=Aw c k:=by unfold hC;simp
def o9(c:Int)(k:Nat):0≤nF c k∧nF c k<23:=by unfold nF;lia
def Dn:∀ a<23,∀ d<23,a*d % 23=0→a=0∨d=0:=by decide +kernel
def Gf{c:Int}{k m:Nat}(hk:k<23)(hm:m<23)(e:nF c k=nF c m):k=m:=by
 have key:∀ {a b:Nat},a<23→b≤a→nF c a=nF c b→a=b:=fun {a b} ha hb e=>by
  unfold nF at e
  have h0:0≤c % 22∧c % 22<22:=by lia
  obtain⟨q,hq⟩:∃ q:Nat,(1+c % 22)=q:=⟨(1+c % 22).toNat,by lia⟩
  rw [hq] at e
  have hq1:0<q∧q<23:=by lia
  obtain⟨d,rfl⟩:∃ d,a=b+d:=⟨a-b,by lia⟩
  have e2:(((b+d:Nat):Int)*q+c / 22-((b:Int)*q+c / 22)) % 23=0:=by
   rw [Int.sub_emod,e]
   simp
  have e3:((b+d:Nat):Int)*q+c / 22-((b:Int)*q+c / 22)=((q*d:Nat):Int):=by
   push_cast
   rw [Int.add_mul,Int.mul_comm (q:Int) (d:Int)]
   lia
  rw [e3] at e2
  have e4:q*d % 23=0:=by lia
  rcases Dn q hq1.2 d (by lia) e4 with z | z
  ·lia
  ·lia
 rcases NS m k with h | h
 ·exact key hk h e
 ·exact(key hm h e.symm).symm
def Dq:∀ a<23,∀ b<23,Fc.getD a 0=Fc.getD b 0→a=b:=by decide +kernel
def FZ:∀ a<23,97≤Fc.getD a 0∧Fc.getD a 0≤122:=by decide +kernel
def BA{c:Int}{k m:Nat}(hk:k<23)(hm:m<23)(e:Aw c k=Aw c m):k=m:=by
 obtain⟨a0,a1⟩:=o9 c k
 obtain⟨b0,b1⟩:=o9 c m
 refine Gf (c:=c) hk hm ?_
 unfold Aw at e
 by_cases h:c / 506 % 2=0
 ·rw [if_pos h,if_pos h] at e
  generalize nF c k=a at *
  generalize nF c m=b at *
  have l:=J4 List.length e
  rw [Kt,Kt] at l
  obtain⟨n1,e1⟩:∃ n,(1+a % 8).toNat=n+1:=⟨(a % 8).toNat,by lia⟩
  obtain⟨n2,e2⟩:∃ n,(1+b % 8).toNat=n+1:=⟨(b % 8).toNat,by lia⟩
  have hd:=J4 List.head? e
  rw [e1,e2,LH,LH] at hd
  simp only [List.head?_cons,Option.some.injEq] at hd
  lia
 ·rw [if_neg h,if_neg h] at e
  have e1:=(List.cons.inj e).1
  have:=Dq (nF c k).toNat (by lia) (nF c m).toNat (by lia) e1
  lia
def EH(c:Int)(k:Nat):1≤(Aw c k).length∧(Aw c k).length≤8∧∀ x∈Aw c k,97≤x∧x≤122:=by
 obtain⟨a0,a1⟩:=o9 c k
 have hz:∀ x∈[120,121,122],97≤x∧x≤122:=by decide
 unfold Aw
 by_cases h:c / 506 % 2=0
 ·rw [if_pos h,Kt]
  refine⟨by lia,by lia,fun x hx=>?_⟩
  have:=List.eq_of_mem_replicate hx
  lia
 ·rw [if_neg h,Jh,Jj]
  refine⟨by lia,by show min _ 3+1≤8;lia,fun x hx=>?_⟩
  rcases IP.mp hx with rfl | hx
  ·exact FZ _ (by lia)
  ·exact hz x (Kb hx)
def Bv(c:Int)(k:Nat):isNm (hC c k)=true:=by
 obtain⟨h1,h2,h3⟩:=EH c k
 exact FQ (by rw [dy];exact h1) (by rw [dy];exact h2) (by rw [dy];exact h3)
def ym{c:Int}{k m:Nat}(hk:k<23)(hm:m<23)(e:hC c k=hC c m):k=m:=BA hk hm (by rw [← dy,← dy,e])
def sT(c:Int)(n:Nat):List PySem.Str:=(List.range n).map (hC c)
def lE(c:Int)(n:Nat):(sT c n).length=n:=by unfold sT;rw [List.length_map,List.length_range]
def fJ(c:Int){n:Nat}(h:n≤23):unlike (sT c n)=true:=by
 refine oN (fun x hx=>?_) ?_
 ·obtain⟨k,_,rfl⟩:=IV.mp hx
  exact Bv c k
 ·unfold sT
  rw [List.nodup_iff_pairwise_ne,Lr]
  refine(Md (n:=n)).imp_of_mem fun {a b} ha hb hne e=>hne (ym (by have:=JK.mp ha;lia) (by have:=JK.mp hb;lia) e)
def qF(c:Int)(n:Nat):sT c (n+1)=sT c n++[hC c n]:=by unfold sT;rw [List.range_succ,List.map_append];rfl
def uM:Sp:=fun vs H Q _=>∃ (c:Int) (k:Nat),vs=[.int c,.int k]∧k<23∧Q (.str (hC c k)) H
def zh:aD ["_law_cell", "_law_k", "_law_j"] ["_law_cell", "_law_k"] (au rR):=eR
def me:("abc":PySem.Str).cps.toList=[97,98,99]:=by decide +kernel
def rC:("qwertyuiopasdfghjklzxcv":PySem.Str).cps.toList=Fc:=by decide +kernel
def xO:("xyz":PySem.Str).cps.toList=[120,121,122]:=by decide +kernel
def BR{f:Addr}{fd:FuncData}(F:dv K "_law_name" "_law_name" rR f fd):bo P w K mg base cS 1 f fd ["_law_cell", "_law_k"] uM:=by
 refine F.oK zh fun cdv A outer s H vs Q E hr h=>?_
 ·obtain⟨c,k,rfl,hk,kk⟩:=h
  have hsl:=Ji
  refine⟨_,af (cB 2 zh (aE cv (aE fE (aE mJ (pv 1) (aE fE ak (aE cv (pv 0) ak))) (aE cm (pv 0) ak)) ak))
   (af (bH (bj gX (aE cv (aE cm (pv 0) ak) ak) ak (bC _)) (ai (aI (aE Cm (bb AI tU (aE cm (pv 2) ak) (fun _ _=>rfl)) (aE fE ak (aE cv (pv 2) ak))))) aU)
   (ai (aI (aE uH (bb AI tU (pv 2) (fun _ _=>rfl)) (dU Eo tU gh (eK (aE cv (aE cm (pv 0) ak) ak))))))),?_⟩
  obtain⟨a0,a1⟩:=o9 c k
  refine⟨_,rfl,_,rfl,_,_,rfl,rfl,(by show(0:Int)<22;decide),_,_,rfl,rfl,_,_,rfl,rfl,.inl ⟨by lia,by lia⟩,_,rfl,_,_,rfl,rfl,⟨by decide,by decide⟩,_,_,rfl,rfl,_,_,rfl,rfl,(by show(0:Int)<23;decide),?_⟩
  have ej:((k:Int)*(1+c % 22)+c / 22) % 23=nF c k:=rfl
  dsimp only [ij]
  rw [ej]
  refine⟨_,rfl,_,_,rfl,rfl,⟨by decide,by decide⟩,_,_,rfl,rfl,(by show(0:Int)<2;decide),rfl,_,rfl,?_⟩
  by_cases h:c / 506 % 2=0
  ·rw [IL (show V.int (c / 506 % 2)=V.int 0 by rw [h])]
   refine bF ?_
   refine⟨_,rfl,_,_,rfl,rfl,⟨by decide,by decide⟩,_,_,_,rfl,rfl,(by show(3:Nat)≤sizeLine;lia),kZ 0 (by lia) (by rw [me];show _<((3:Nat):Int);lia),_,rfl,_,_,rfl,rfl,(by show(0:Int)<8;decide),_,_,rfl,rfl,_,_,rfl,rfl,by lia,by lia,rfl,?_⟩
   have e:rQ (⟨#[("abc":PySem.Str).cps.toList.getD (nF c k / 8).toNat 0]⟩:PySem.Str) (1+nF c k % 8).toNat=hC c k:=by
    refine UfStr.qa ?_
    rw [tH,dy]
    unfold Aw
    rw [if_pos h,me]
    congr 1
    have:(nF c k / 8).toNat=0∨(nF c k / 8).toNat=1∨(nF c k / 8).toNat=2:=by lia
    rcases this with z | z | z <;> rw [z] <;> rfl
   rw [← e] at kk
   exact kk
  ·rw [decide_eq_false (show ¬ V.int (c / 506 % 2)=V.int 0 from fun z=>h (by injection z))]
   refine bB ?_
   have h4:0≤c / 1012 % 4∧c / 1012 % 4<4:=by lia
   have e:(⟨#[("qwertyuiopasdfghjklzxcv":PySem.Str).cps.toList.getD (nF c k).toNat 0]⟩:PySem.Str)++Txt.slice "xyz" none (some (c / 1012 % 4))=hC c k:=by
    refine UfStr.qa ?_
    rw [UfStr.x8,dy]
    unfold Aw
    rw [if_neg h,rC]
    have e1:c / 1012 % 4=(((c / 1012 % 4).toNat:Nat):Int):=by lia
    have e2:=Ac ("xyz":PySem.Str) (b:=(c / 1012 % 4).toNat) (by show _≤3;lia)
    rw [← e1] at e2
    rw [e2,xO]
    rfl
   have hlen:=Mp ("xyz":PySem.Str) none (some (c / 1012 % 4))
   refine⟨_,rfl,_,_,_,rfl,rfl,(by show(23:Nat)≤sizeLine;lia),kZ 0 (by lia) (by rw [rC];show _<((23:Nat):Int);lia),_,rfl,_,_,rfl,rfl,⟨by decide,by decide⟩,_,_,rfl,rfl,(by show(0:Int)<4;decide),_,rfl,_,rfl,(by show(3:Nat)≤sizeLine;lia),_,_,rfl,rfl,?_,?_⟩
   ·have:("xyz":PySem.Str).length=3:=by decide +kernel
    show 1+(Txt.slice "xyz" none (some (c / 1012 % 4))).length≤sizeLine
    lia
   rw [← e] at kk
   exact kk
end Uf
end
section
namespace L2
open PySem PySem.Spec PyProof.Rows
section
variable {X:Cx}{es:List Expr}{pos:Pos}{t:TA}
def Nw(H:Hp)(o:HO)(Q:VK):Prop:=∀ p H2,H p=none→aq H H2→H2 p=some o→Q (.ref p) H2
def Nw.use{H:Hp}{o:HO}{Q:VK}(h:Nw H o Q){p:Addr}(n:H p=none):Q (.ref p) (upd H p o):=h p _ n (fun b u e=>by rw [ah (aj e n)];exact e) ag
def F8(t:TA):TE:=fun σ H Q=>t σ H fun xs H1=>xs.length≤sizeLine∧Nw H1 (.tup xs) Q
def Gh(t:TA):TE:=fun σ H Q=>t σ H fun xs H1=>xs.length≤sizeLine∧Nw H1 (.lst xs) Q
def jU{x1}(h:PA X es t):PE X (.Tuple es x1 pos) (F8 t):=by
 intro pins s σ H Q I hq
 refine wpAny_Tuple_spliced (bM (h pos pins s σ H _ I hq) fun us s1 ⟨xs,H1,I1,r,z,q⟩=>⟨by rw [← r.length];exact z,?_⟩)
 refine⟨.ref s1.heap.objs.size,upd H1 s1.heap.objs.size (.tup xs),I1.laid (t':=s1.toks) (fun b u e=>IF _ e) (II _) ?_,rfl,q.use (I1.hok.fresh (II _))⟩
 exact⟨z,us,r,⟨_,IQ _ rfl,rfl,_,rfl⟩⟩
def bL(h:PA X es t):PE X (.List es pos) (Gh t):=by
 intro pins s σ H Q I hq
 refine wpAny_List_spliced (bM (h pos pins s σ H _ I hq) fun us s1 ⟨xs,H1,I1,r,z,q⟩=>⟨by rw [← r.length];exact z,?_⟩)
 refine⟨.ref s1.heap.objs.size,upd H1 s1.heap.objs.size (.lst xs),I1.laid (t':=s1.toks) (fun b u e=>IF _ e) (II _) ?_,rfl,q.use (I1.hok.fresh (II _))⟩
 exact⟨z,us,0,r,IQ _ rfl⟩
def jm:dM X (.type "list") (fun xs H Q=>∃ p ys,xs=[.ref p]∧(aA X.K H p ys∨bO X.K H p ys)∧Nw H (.lst ys) Q) :=
 fun pins s σ H xs us Q I r ⟨p,ys,e,hq,q⟩=>bU pins s σ H xs us Q I r ⟨p,ys,e,hq,fun _ n=>q.use n⟩
end
end L2
namespace Uf
open PySem L2
def ints_get{cs:List Int}{i:Nat}{v:V}(h:(cs.map V.int)[i]?=some v):∃ c,cs[i]?=some c∧v=.int c:=by
 rw [List.getElem?_map] at h
 cases e:cs[i]? with
 | none=>rw [e] at h;cases h
 | some x=>rw [e] at h;exact⟨x,rfl,(Jk h).symm⟩
end Uf
end
section
namespace L2
open PySem PySem.Spec PyProof.Rows UfSrt
section
variable {X:Cx}{pins:List (Addr × Obj)}{σ:St}{H:Hp}{s:Shared}
def Inv.xV{h':Heap}{t':Nat}{ch:List Addr}{T:Addr}{u:HO}(I:Inv X pins σ H s)(hch:∀ b∈ch,iE X pins H b)(k:∀ b o,b∉ch→s.heap.get? b=some o→h'.get? b=some o)(hT:s.heap.objs.size≤T)
  (new:bJ X.prog X.w (upd H T u) h' T u):Inv X pins σ (upd H T u) { s with heap:=h',toks:=t' }:=by
 have hn:H T=none:=I.hok.fresh hT
 have nch:∀ b v,H b=some v→b∉ch:=fun b v e z=>by rw [(hch b z).1] at e;cases e
 have nT:∀ b o,s.heap.get? b=some o→b≠T:=fun b o e=>IS (IW (IJ e) hT)
 refine I.step (g':=s.gens) (d':=s.drawn) (ch:=ch) (fun b hb=>⟨(hch b hb).2.2.2.1,(hch b hb).2.1,(hch b hb).2.2.2.2.1,(hch b hb).2.2.2.2.2⟩) (fun b o _ _ hc e _=>k b o hc e) (fun b o _ _ hc e _=>⟨o.slots,k b o hc e⟩) (fun b o _ e n=>by rw [ah (nT b o e)];exact n)
  (fun b o hc e=>⟨o,k b o hc e⟩) (fun b xs e=>by rw [ah (aj e hn)];exact e) (fun b o v e=>by rw [ah (aj e hn)];exact e) (fun b ps e=>⟨#[],by rw [ah (aj e hn),e];simp⟩) (fun m hm=>?_) (fun b v e=>?_) I.bare
 ·obtain⟨o,es,ep,ho,r⟩:=hm
  exact⟨o,es,ep,k _ o (fun z=>(hch _ z).2.1 rfl) ho,r⟩
 ·by_cases hb:b=T
  ·subst hb
   rw [ag] at e
   cases e
   exact new
  ·rw [ah hb] at e
   refine(I.hok b v e).pX (fun c w hc q=>k c w ?_ q) (fun c q=>by rw [ah (aj q hn)];exact q) fun c xs q=>by rw [ah (aj q hn)];exact q
   rcases hc with z | z
   ·rw [z];exact nch b v e
   ·exact nch c _ z
end
def Fm(K:PySem.W.Frag)(l:Addr):It :=
 ⟨fun i H=>∃ xs x,aA K H l xs∧xs[i]?=some x,fun i H x H'=>∃ p v,x=.ref p∧H p=none∧H'=upd H p (.tup [.int (i:Int),v])∧∀ xs,aA K H l xs→xs[i]?=some v,fun i H=>∃ xs,aA K H l xs∧xs.length≤i⟩
def x3{P:Program}{w:World}{K:PySem.W.Frag}{elts:List Expr}{x1}{pos:Pos}{l e it:Addr}(hne:e≠it) :
  Turn P w K (.Tuple elts x1 pos) (Fm K l) [e,it] e (fun i h=>(∃ old,IsEnum h e it i old)∧h.IsListIter it l i) where
 mem:=by simp
 obj:=fun i h st b hb=>by
  obtain⟨⟨old,he⟩,o,e2,c,d⟩:=st
  rcases IP.mp hb with z | hb
  ·subst z
   exact⟨_,he,fun v z=>by
    have z':Data.fields _=Data.cell v:=z
    cases z'⟩
  ·have z:b=it:=by simpa using hb
   subst z
   exact⟨o,e2,fun v z=>by rw [d] at z;cases z⟩
 keep:=fun i h h' st k=>⟨let ⟨old,he⟩:=st.1;⟨old,k e (by simp) _ he⟩,st.2.at fun o q=>k it (by simp) o q⟩
 item:=by
  intro X hP hw hK hc i pins s σ H E I hf st hg
  subst hP hw hK
  obtain⟨xs,x,hq,hx⟩:=hg
  obtain⟨its,rv,p,hz⟩:=I.list hq
  obtain⟨u,hu,ru⟩:=rv.get hx
  obtain⟨⟨old,he⟩,hit⟩:=st
  refine wpAny_pyNext_enum_item he hit p.isList (x:=u) (by simpa using hu) hne fun h1 ho hit1 hT hsz hk=>?_
  refine⟨.ref s.heap.objs.size,rfl,wpAny_letOwnedTupleGo_enum ho fun h2 he2 hs2=>?_⟩
  have elt:e<s.heap.objs.size:=IJ he
  have ilt:it<s.heap.objs.size:=by obtain⟨_,y,_⟩:=hit;exact IJ y
  have kk:∀ b o,b∉[e,it]→s.heap.get? b=some o→h2.get? b=some o:=fun b o hb q=>by
   have n1:b≠e:=fun z=>hb (by simp [z])
   have n2:b≠it:=fun z=>hb (by simp [z])
   exact(hs2.2 b n1).trans (hk b o n1 n2 q)
  have hT2:h2.get? s.heap.objs.size=some { cls:=.type "tuple",data:=.seq #[.int i s.toks,u] }:=(hs2.2 _ (Ki elt)).trans hT
  have hn:=I.hok.fresh (II s.heap.objs.size)
  refine⟨.ref s.heap.objs.size,upd H s.heap.objs.size (.tup [.int (i:Int),x]),I.xV (t':=s.toks+1) hf kk (II _) ⟨by show 2≤sizeLine;rw [sizeLine_eq];decide,[.int i s.toks,u],.cons ⟨_,rfl⟩ (.cons ru .nil),_,hT2,rfl,_,rfl⟩,rfl,⟨_,x,rfl,hn,rfl,fun ys hy=>by rw [I.qM hy hq];exact hx⟩,⟨⟨_,by simpa using he2⟩,hit1.at fun o q=>(hs2.2 it (Jg hne)).trans q⟩,fun b hb=>?_⟩
  have nb:b≠s.heap.objs.size:=by
   rcases IP.mp hb with z | hb
   ·rw [z];exact IS elt
   ·have z:b=it:=by simpa using hb
    rw [z];exact IS ilt
  rw [ah nb]
  exact(hf b hb).1
 done:=by
  intro X hP hw hK hc i pins s σ H E I hf st hg
  subst hP hw hK
  obtain⟨xs,hq,hx⟩:=hg
  obtain⟨its,rv,p,hz⟩:=I.list hq
  obtain⟨⟨old,he⟩,hit⟩:=st
  obtain⟨f0,f1,f2,f3,f4,f5⟩:=hf it (by simp)
  have hl:=rv.length
  exact wpAny_pyNext_enum_end (I.ok.hd hc) he hit p.isList (by simp;lia) fun h' eb=>⟨rfl,I.turned (t':=s.toks) (fun b o hb e=>eb b o hb e) f0 f1 f3 f4 f5⟩
 self:=fun _ _ _ _ _ st h=>let ⟨⟨_,he⟩,_⟩:=st;wpAny_pyIter_enum he h
section
variable {X:Cx}{elts:List Expr}{x1:Nat}{tpos:Pos}
def boot_enumerate:bootBuiltins "enumerate"=some (.type "enumerate"):=by decide +kernel
def FC(K:PySem.W.Frag)(ta:TA):TI:=fun σ H R=>ta σ H fun vs H1=>∃ l,vs=[.ref l]∧(∃ xs,aA K H1 l xs)∧R (Fm K l) H1
def j0{a:Expr}{ta:TA}{p pos:Pos}(hg:Gl X "enumerate")(hm:X.mg "enumerate"=none)(ha:PA X [a] ta)(hs:starEach [a] X.env=[(false,eval a X.env)]:=by rfl):PI X (.Tuple elts x1 tpos) (.Call (.Name "enumerate" p) [a] [] pos) (FC X.K ta):=by
 intro pins s σ H R I h
 refine Call_ (gk I hg hm boot_enumerate (JS (bM (ha pos pins s σ H _ I h) fun us s1 ⟨vs,H1,I1,r1,q1⟩=>?_) hs rfl))
 obtain⟨l,e,⟨xs,hq⟩,q⟩:=q1
 subst e
 cases r1 with
 | cons r rr =>
  cases rr
  cases r
  obtain⟨its,rv,pl,hz⟩:=I1.list hq
  refine call_enumerate_list pl.isList fun h' he hit hsz hk=>?_
  refine wpAny_pyIter_enum he ?_
  have hne:s1.heap.objs.size+1≠s1.heap.objs.size:=Nat.succ_ne_self _
  have I2:Inv X pins σ H1 { s1 with heap:=h' }:=I1.kept (t':=s1.toks) hk
  refine⟨s1.heap.objs.size+1,[s1.heap.objs.size+1,s1.heap.objs.size],_,_,H1,rfl,I2,x3 hne,⟨⟨_,he⟩,hit⟩,fun b hb=>?_,q⟩
  have hb2:s1.heap.objs.size≤b:=by
   rcases IP.mp hb with z | hb
   ·rw [z];exact JY _
   ·have z:b=s1.heap.objs.size:=by simpa using hb
    rw [z];exact II _
  exact I1.Au hb2 (I1.hok.fresh hb2)
end
def hU{K:PySem.W.Frag}{a:Addr}{xs:List V}{g:TG}{tb:TS}{D:Ends}{σ:St}{H:Hp}(Pv:Nat→St→Hp→Prop)(h0:Pv 0 σ H)(hl:∀ i σ H,i≤xs.length→Pv i σ H→aA K H a xs)
  (hs:∀ i x p σ H,xs[i]?=some x→Pv i σ H→H p=none→g (.ref p) σ (upd H p (.tup [.int (i:Int),x])) fun σ2 H2=>tb { D with nx:=Pv (i+1),ct:=Pv (i+1),bk:=D.nx } σ2 H2) (hd:∀ σ H,Pv xs.length σ H→D.nx σ H) :
  ∃ W:Nat→Nat→St→Hp→Prop,(∃ m,W 0 m σ H)∧∀ i m σ H,W i m σ H →
   ((Fm K a).stop i H∧D.nx σ H)∨((Fm K a).go i H∧∃ N:St→Hp→Prop,(∀ σ' H',N σ' H'→∃ m',m'<m∧W (i+1) m' σ' H')∧∀ x H',(Fm K a).yld i H x H'→g x σ H' fun σ2 H2=>tb { D with nx:=N,ct:=N,bk:=D.nx } σ2 H2):=by
 refine⟨fun i m σ H=>m=xs.length-i∧i≤xs.length∧Pv i σ H,⟨xs.length,by simp,IU _,h0⟩,?_⟩
 rintro i m σ H ⟨rfl,hi,p⟩
 have q:=hl i σ H hi p
 by_cases hlt:i<xs.length
 ·refine .inr ⟨⟨xs,xs[i],q,by simp [hlt]⟩,Pv (i+1),fun σ' H' p'=>⟨xs.length-(i+1),by lia,rfl,hlt,p'⟩,fun x H' y=>?_⟩
  obtain⟨pp,v,rfl,hn,rfl,hv⟩:=y
  exact hs i v pp σ _ (hv xs q) p hn
 ·have e:i=xs.length:=by lia
  subst e
  exact .inl ⟨⟨xs,q,II _⟩,hd σ H p⟩
end L2
end
section
namespace UfRev
open PySem PySem.W PySem.Calls PyProof.Rows PyProof.V PySem.Spec
def Cy:typeLookup (.type "list_reverseiterator") "__len__"=pure none:=by rw [Lh,Ku];kernel_rfl
def zI:typeLookup (.type "list_reverseiterator") "__length_hint__"=pure (some (.builtin "list_reverseiterator.__length_hint__")):=by rw [Lh,Ku];kernel_rfl
def BG:isSubtype (.type "list_reverseiterator") (.type "list_reverseiterator")=pure true:=by rw [Mw];kernel_rfl
def xG:splitId "list_reverseiterator.__length_hint__"=some ("list_reverseiterator", "__length_hint__"):=by decide +kernel
def zw{r:Addr}{Q:Bool→Shared→Prop}(hT:s.TypeIs (.ref r) "list_reverseiterator")(h:Q false s):wpAny (model prog w) A (Builtin.List.listLengthHint (.ref r)) Q E s:=by
 unfold Builtin.List.listLengthHint
 refine IE (Kx hT Cy ?_)
 show wpAny _ A (specialOf (Value.ref r) (Str.ofString "__length_hint__") >>= _) _ _ _
 refine IE (Kx hT zI ?_)
 dsimp only
 rw [xG]
 dsimp only
 refine IE (Lz (T:="list_reverseiterator") (b:=true) hT BG ?_)
 refine KZ (fun z=>absurd z (by decide)) (fun _=>?_)
 refine KZ (fun _=>?_) (fun z=>absurd (by decide +kernel) z)
 refine KZ (fun z=>absurd z (by decide)) (fun _=>?_)
 exact wpAny_pure h
def CA(items:Array Value):Nat→Value→Prop:=fun i v=>items[items.size-1-i]?=some v
def Cu{R:Result→Shared→Prop}{r l:Addr}{items:Array Value}(hh:A.handled=none)(hr:s.heap.IsRevIter r l ((items.size:Int)-1))(hl:s.heap.IsList l items)(hne:l≠r)(S:Addr)(hSr:S≠r)(hSl:S≠l)(res:Value)(c₀:Nat)(hS:s.heap.get? S=some { cls:=.type "list",data:=.seq #[] c₀ })
  (hR:∀ h' tk acc' c',(∀ b o,b≠S→b≠r→s.heap.get? b=some o→h'.get? b=some o)→h'.get? S=some { cls:=.type "list",dict:=none,data:=.seq acc' c',slots:=#[] }→ItemsOf (CA items) acc' items.size→R (.ok (.ret res)) { s with heap:=h',toks:=tk }) (hn:items.size≤sizeLine) :
  wpAny (model prog w) A.in1 (Builtin.List.listExtendWith (.ref S) (.ref r) res)
   (fun fin s'=>match fin with | .done f=>R (.ok f) s' | .again c'=>c'.quiet=true∧codeAny (model prog w) A c' R s') (fun e s'=>R (.error e) s') s:=by
 have hSf:S∉[r,l]:=by simp only [IP,Jq,Ke,Mm];exact⟨hSr,hSl⟩
 have W:=Walks.listRev (prog:=prog) (w:=w) (A:=A.in1) hh r l hne items
 have st:0≤items.size∧s.heap.IsRevIter r l ((items.size:Int)-1-((0:Nat):Int))∧s.heap.IsList l items:=⟨IU _,by simpa using hr,hl⟩
 have key:∀ (h:Heap) (c₁ tk:Nat),(0≤items.size∧h.IsRevIter r l ((items.size:Int)-1-((0:Nat):Int))∧h.IsList l items)→(∀ b o,b≠S→s.heap.get? b=some o→h.get? b=some o) →
   h.get? S=some { cls:=.type "list",data:=.seq #[] c₁ }→codeAny (model prog w) A (.builtin "list.extend.loop" ⟨[.ref S,.ref r,res],[]⟩) R { s with heap:=h,toks:=tk }:=by
  intro h c₁ tk hst hk hS₁
  refine codeAny_extend_loopS W.toS hn S hSf res items.size 0 _ #[] c₁ rfl (IU _) hst hS₁ (ItemsOf.nil _) fun s' acc' c' hm hS' hacc=>?_
  rw [Moved.eq_with hm]
  refine hR s'.heap s'.toks acc' c' (fun b o hb hbr e=>hm.heap b o (fun hmem=>?_) (hk b o hb e)) hS' hacc
  rcases IP.mp hmem with e' | hmem
  ·exact hb e'
  ·exact hbr (Jd.mp hmem)
 have hT:s.TypeIs (.ref r) "list_reverseiterator":=hr.typeIs
 unfold Builtin.List.listExtendWith
 refine IE (LS (T:="list_reverseiterator") hT ?_)
 have h1:Builtin.List.listSameRef (.ref S) (.ref r)=false:=by simp [Builtin.List.listSameRef,hSr]
 have h2:(Value.type "list_reverseiterator" == Value.type "list")=false:=by decide
 have h3:(Value.type "list_reverseiterator" == Value.type "tuple")=false:=by decide
 simp only [h1,h2,h3,LB,Jy,Km]
 refine IE (wpAny_pyIter_revIter hr ?_)
 refine IE (JI (zw hT ?_))
 refine KZ (fun z=>absurd z (by decide)) (fun _=>wpAny_pure ⟨Kc LK _,key _ c₀ _ st (fun b o _ e=>e) hS⟩)
def nQ{r l:Addr}{items:Array Value}{Q:Value→Shared→Prop}(hh:A.handled=none)(hr:s.heap.IsRevIter r l ((items.size:Int)-1))(hl:s.heap.IsList l items)(hne:l≠r)(hn:items.size≤sizeLine)
  (hQ:∀ h' tk acc' c',(∀ b o,b≠r→s.heap.get? b=some o→h'.get? b=some o)→h'.get? s.heap.objs.size=some { cls:=.type "list",dict:=none,data:=.seq acc' c',slots:=#[] }→ItemsOf (CA items) acc' items.size→Q (.ref s.heap.objs.size) { s with heap:=h',toks:=tk }) :
  wpAny (model prog w) A (call (.type "list") [.ref r]) Q E s:=by
 refine callType_codes (Q₁:=fun obj s₁=>obj=.ref s.heap.objs.size∧s₁={ s with heap:=s.heap.push { cls:=.type "list",data:=.seq #[] } }) PySem.F.called_list (PySem.F.typeCall_list_1 _) PySem.F.entry_list_init
  (code_list_new _ ⟨rfl,rfl⟩) fun obj s₁ h₁=>?_
 obtain⟨rfl,rfl⟩:=h₁
 have hS:(s.heap.push { cls:=.type "list",data:=.seq #[] }).get? s.heap.objs.size=some { cls:=.type "list",data:=.seq #[] }:=IQ _ rfl
 have rlt:r<s.heap.objs.size:=let ⟨_,y,_⟩:=hr;IJ y
 have llt:l<s.heap.objs.size:=let ⟨_,y,_⟩:=hl;IJ y
 refine⟨⟨_,hS,rfl⟩,PySem.F.args_list_init_2 _ _,?_⟩
 show wpAny _ _ (do let old ← Builtin.List.listItems (.ref s.heap.objs.size);Builtin.List.listUpdate (.ref s.heap.objs.size) (fun _=>#[]);letGo old.toList.reverse;Builtin.List.listExtendWith (.ref s.heap.objs.size) (.ref r) .none) _ _ _
 refine IE ?_
 unfold Builtin.List.listItems
 refine IE (KD hS rfl (wpAny_pure ?_))
 show wpAny _ _ (updateSeq s.heap.objs.size (fun _=>#[]) >>= fun _=>letGo (#[]:Array Value).toList.reverse >>= fun _=>Builtin.List.listExtendWith (.ref s.heap.objs.size) (.ref r) .none) _ _ _
 refine IE (Li hS rfl ?_)
 have hS₂:=JL (Obj.mapSeq (fun _=>(#[]:Array Value))) hS rfl
 have oth:∀ b o,b≠s.heap.objs.size→(s.heap.push { cls:=.type "list",data:=.seq #[] }).get? b=some o→((s.heap.push { cls:=.type "list",data:=.seq #[] }).update s.heap.objs.size (Obj.mapSeq (fun _=>(#[]:Array Value)))).get? b=some o :=
  fun b o hb e=>(Ju _ _ (Jg hb)).trans e
 have up:∀ b o,s.heap.get? b=some o→((s.heap.push { cls:=.type "list",data:=.seq #[] }).update s.heap.objs.size (Obj.mapSeq (fun _=>(#[]:Array Value)))).get? b=some o:=fun b o e =>
  oth b o (IS (IJ e)) (IF _ e)
 refine IE (ME ?_)
 refine Cu (A:=A.in1) hh (hr.at fun o e=>up _ _ e) (hl.at fun o e=>up _ _ e) hne _ (Ki rlt) (Ki llt) .none _ hS₂ (fun h' tk acc' c' hk hS' hacc=>?_) hn
 exact⟨rfl,hQ h' tk acc' c' (fun b o hb e=>hk b o (IS (IJ e)) hb (up b o e)) hS' hacc⟩
end UfRev
namespace L2
open PySem PySem.Spec PyProof.Rows UfSrt
def xl{its:List Value}{acc:Array Value}(h:ItemsOf (UfRev.CA its.toArray) acc its.toArray.size):acc.toList=its.reverse:=by
 obtain⟨h1,h2⟩:=h
 have h1:acc.size=its.length:=by rw [h1,IY]
 refine L6 fun j=>?_
 rw [JM]
 by_cases hj:j<acc.size
 ·have e:acc[j]?=some acc[j]:=Array.getElem?_eq_getElem hj
  have:=h2 j _ e
  unfold UfRev.CA at this
  rw [IY] at this
  rw [e,List.getElem?_reverse (by lia),← this]
  simp
 ·rw [Array.getElem?_eq_none (by lia),Jm (by rw [NM];lia)]
section
variable {X:Cx}
def boot_reversed:bootBuiltins "reversed"=some (.type "reversed"):=by decide +kernel
def Aa(K:PySem.W.Frag)(t:TA):TE:=fun σ H Q=>t σ H fun vs H1=>∃ l ys,vs=[.ref l]∧aA K H1 l ys∧∀ q,H1 q=none→Q (.ref q) (upd H1 q (.lst ys.reverse))
def ud{e:Expr}{t:TA}{p1 p2 pos pos2:Pos}(hc:X.calm=true)(hg:Gl X "list")(hm:X.mg "list"=none)(hb:bootBuiltins "list"=some (.type "list"))(hg2:Gl X "reversed")(hm2:X.mg "reversed"=none)(ha:PA X [e] t)
  (he:starEach [.Call (.Name "reversed" p2) [e] [] pos2] X.env=[(false,eval (.Call (.Name "reversed" p2) [e] [] pos2) X.env)]:=by rfl) (he2:starEach [e] X.env=[(false,eval e X.env)]:=by rfl) :
  PE X (.Call (.Name "list" p1) [.Call (.Name "reversed" p2) [e] [] pos2] [] pos) (Aa X.K t):=by
 intro pins s σ H Q I h
 refine J8 (gk I hg hm hb ?_)
 refine JS ?_ he rfl
 rw [he]
 refine MF ?_
 refine J8 (gk I hg2 hm2 boot_reversed ?_)
 refine JS (bM (ha pos2 pins s σ H _ I h) fun us s1 ⟨vs,H1,I1,r1,l,ys,ev,hl,q⟩=>?_) he2 rfl
 subst ev
 obtain⟨u,rfl,ru⟩:=vals1 r1
 cases ru
 obtain⟨its,rv,pl,hz⟩:=I1.list hl
 have hlen:=rv.length
 have lt:l<s1.heap.objs.size:=let ⟨_,y,_⟩:=pl.isList;IJ y
 refine call_reversed_list pl.isList ?_
 refine MP ?_
 refine UfRev.nQ (l:=l) (items:=its.toArray) (I.ok.hd hc) ⟨_,IQ _ rfl,rfl,rfl⟩ (pl.isList.push _) (IS lt) (by rw [IY];lia) fun h' tk acc c k hq hit=>?_
 have hn:H1 (s1.heap.push (revObj l ((its.toArray.size:Int)-1))).objs.size=none:=I1.hok.fresh (by rw [JV];exact JY _)
 refine⟨.ref _,upd H1 _ (.lst ys.reverse),I1.laid (t':=tk) (fun b o e=>k b o (IS (IJ e)) (IF _ e)) (by rw [JV];exact JY _) ⟨by rw [NM];exact hz,its.reverse,c,rv.reverse,?_⟩,rfl,q _ hn⟩
 rw [hq,← xl hit]
end
end L2
end
section
namespace L2
open PySem PySem.Spec PyProof.Rows UfSrt
section
variable {X:Cx}{pins:List (Addr × Obj)}{σ:St}{H:Hp}{s:Shared}
def zD(t:TA):TE:=fun σ H Q=>t σ H fun vs H1=>∃ n:Nat,vs=[.int n]∧n≤1000∧∀ q,H1 q=none→Q (.ref q) (upd H1 q (.lst ((List.range n).map fun i=>V.int (i:Nat))))
theorem rL:∀ {us:List Value} {n k:Nat},us.length=n→(∀ (j:Nat) v,us[j]?=some v→∃ t,v=Value.int ((k+j:Nat):Int) t)→Vals ((List.range' k n).map fun i=>V.int (i:Nat)) us
 | [],n,k,hl,_=>by
  have:n=0:=by simpa using hl.symm
  subst this
  exact .nil
 | u::us,n,k,hl,h=>by
  obtain⟨n,rfl⟩:∃ m,n=m+1:=⟨us.length,by simpa using hl.symm⟩
  obtain⟨t,e⟩:=h 0 u rfl
  rw [List.range'_succ,JG]
  refine .cons ⟨t,by rw [e];rfl⟩ (rL (by simpa using hl) fun j v hj=>?_)
  obtain⟨t',e'⟩:=h (j+1) v (by simpa using hj)
  exact⟨t',by rw [e'];congr 2;lia⟩
def tQ{a:Expr}{t:TA}{p1 p2 pos pos2:Pos}(hc:X.calm=true)(hg:Gl X "list")(hm:X.mg "list"=none)(hb:bootBuiltins "list"=some (.type "list"))(hg2:Gl X "range")(hm2:X.mg "range"=none)(ha:PA X [a] t)
  (he:starEach [.Call (.Name "range" p2) [a] [] pos2] X.env=[(false,eval (.Call (.Name "range" p2) [a] [] pos2) X.env)]:=by rfl) (he2:starEach [a] X.env=[(false,eval a X.env)]:=by rfl) :
  PE X (.Call (.Name "list" p1) [.Call (.Name "range" p2) [a] [] pos2] [] pos) (zD t):=by
 intro pins s σ H Q I h
 refine J8 (gk I hg hm hb ?_)
 refine JS ?_ he rfl
 rw [he]
 refine MF ?_
 refine J8 (gk I hg2 hm2 boot_range ?_)
 refine JS (bM (ha pos2 pins s σ H _ I h) fun us s1 ⟨vs,H1,I1,r1,n,ev,hn,q⟩=>?_) he2 rfl
 subst ev
 obtain⟨u,rfl,ru⟩:=vals1 r1
 obtain⟨t,rfl⟩:=ru
 refine call_range_1 ?_
 refine MP ?_
 refine call_list_range (n:=n) (I.ok.hd hc) (IsRange.new ..) (small_one (by lia) (by lia) (by lia) (by lia)) (by rw [rangeSize_one];split <;> lia) (by lia) fun h' tk acc c kp hS hacc=>?_
 refine⟨.ref _,upd H1 _ (.lst ((List.range n).map fun i=>V.int (i:Nat))),I1.laid (t':=tk) (fun b o e=>kp b o (IF _ e)) (by rw [JV];exact JY _) ⟨by rw [List.length_map,List.length_range,sizeLine_eq];lia,acc.toList,c,?_,?_⟩,rfl,q _ (I1.hok.fresh (by rw [JV];exact JY _))⟩
 ·have:=rL (us:=acc.toList) (n:=n) (k:=0) (by rw [JR];exact hacc.1) fun j v e=>by
   obtain⟨t,e'⟩:=hacc.2 j v (by rw [← JM];exact e)
   exact⟨t,by rw [e'];congr 1;lia⟩
  rwa [← List.range_eq_range'] at this
 ·rw [hS]
end
end L2
namespace Uf
open PySem L2 UfSrt UfFin
abbrev jE:Stmt:=top 48
abbrev wc:Stmt:=top 49
def EE{n:Nat}{i:Int}(h0:0≤i)(h1:i<n):yk n i=some i.toNat:=by unfold yk;rw [if_pos h0,if_pos h1]
def qq{α β:Type}(f:α→β)(xs:List α)(j:Nat)(x:α):(xs.map f).set j (f x)=(xs.set j x).map f:=by rw [List.map_set]
def mX(K:PySem.W.Frag):Sp:=fun vs H Q _=>∃ (a:Addr) (cs:List Int) (n:Nat),vs=[.ref a,.int n]∧aA K H a (cs.map V.int)∧n≤8∧(n=0→cs=[])∧∀ H' q (zs:List Int),aq H H'→H q=none→H' q=some (.lst (zs.map V.int))→zs.length=n→Q (.ref q) H'
def jw:aD ["_law_cells", "_law_many", "_law_found", "_law_k", "_law_cell"] ["_law_cells", "_law_many"] (au jE):=eR
inductive Hq(H:Hp)(a r:Addr)(n:Nat)(i:Nat)(σ:St)(H2:Hp):Prop
 | mk (v3 v4:Option V) (zs:List Int) (q0:σ=[some (.ref a),some (.int n),some (.ref r),v3,v4]) (q1:aq H H2) (q2:H2 r=some (.lst (zs.map V.int))) (q3:zs.length=n)
def Hq.same{H:Hp}{a r:Addr}{n i:Nat}{σ:St}{H2:Hp}(h:Hq H a r n i σ H2):aq H H2:=by
 cases h
 assumption
def xm{f:Addr}{fd:FuncData}(F:dv K "_law_folded" "_law_folded" jE f fd)(T:Txt K mg)(T2:Txt2 mg):bo P w K mg base cS 1 f fd ["_law_cells", "_law_many"] (mX K):=by
 refine F.oK jw fun cdv A outer s H vs Q E hr h=>?_
 ·obtain⟨a,cs,n,rfl,ha,hn,h0,kk⟩:=h
  have hsl:=Ji
  refine⟨_,af (cB 2 jw (tQ rfl rfl T.lst dA rfl T2.rng (aa (pv 1) ae)))
   (af (bq IT rfl (j0 rfl T2.enm (aa (pv 0) ae)) (dt rfl (aL (dX 3 jw) (aL (dX 4 jw) cH)))
    (ai (jo (aE cv (aE fE (aE mJ (bb aR (pv 2) (aE cv (pv 3) (pv 1)) (fun _ _=>rfl)) ak) (pv 4)) ak) (qw (pv 2) (aE cv (pv 3) (pv 1)) set_list))))
   (ai (aI (pv 2)))),?_⟩
  refine⟨_,rfl,n,rfl,by lia,fun r nr=>?_⟩
  have e0:((List.range n).map fun i=>V.int (i:Nat))=((List.range n).map fun i=>((i:Nat):Int)).map V.int:=by rw [List.map_map];rfl
  rw [e0]
  have sr:aq H (upd H r (.lst (((List.range n).map fun i=>((i:Nat):Int)).map V.int))):=ao nr
  refine⟨_,rfl,a,rfl,⟨_,sr.seq ha⟩,hU (K:=K) (a:=a) (xs:=cs.map V.int) (Hq H a r n)
   ⟨none,none,_,rfl,sr,ag,by rw [List.length_map,List.length_range]⟩ (fun i σ H2 _ h=>h.same.seq ha) ?_ ?_⟩
  ·rintro i v p σ H2 hi ⟨v3,v4,zs,rfl,sm,hr2,hzl⟩ np
   obtain⟨c,hc,rfl⟩:=ints_get hi
   have n0:0<n:=by
    rcases Nat.eq_zero_or_pos n with z | z
    ·rw [h0 z] at hc;simp at hc
    ·exact z
   have sp:aq H2 (upd H2 p (.tup [.int (i:Int),.int c])):=ao np
   refine⟨p,_,rfl,bO.of ag,rfl,_,_,rfl,_,_,rfl,rfl,?_⟩
   have smp:=sm.trans sp
   have hrp:=sp _ _ hr2
   generalize upd H2 p (.tup [.int (i:Int),.int c])=H3 at sp smp hrp ⊢
   have i0:0≤(i:Int) % (n:Int):=Lk _ (by lia)
   have i1:(i:Int) % (n:Int)<(n:Int):=KR _ (by lia)
   refine⟨_,rfl,_,rfl,_,rfl,_,_,rfl,rfl,(by lia),r,_,_,_,rfl,rfl,aA.of hrp,ig i0 (by lia),_,_,rfl,rfl,.inr ⟨by decide,by decide⟩,_,rfl,_,_,rfl,rfl,_,_,rfl,rfl,(by show(0:Int)<2147483647;decide),?_⟩
   refine⟨_,rfl,_,rfl,_,rfl,_,_,rfl,rfl,(by lia),r,_,_,_,rfl,rfl,hrp,EE i0 (by rw [List.length_map];lia),?_⟩
   rw [qq]
   exact⟨_,_,_,rfl,aY smp nr,ag,by rw [List.length_set];exact hzl⟩
  ·rintro σ H2 ⟨v3,v4,zs,rfl,sm,hr2,hzl⟩
   exact⟨_,rfl,kk H2 r zs sm nr hr2 hzl⟩
def hE{xs:List Int}{k:Nat}(h:k<xs.length):sS (xs.map V.int) (k:Int)=some (.int (xs.getD k 0)):=by
 have:=ig (xs:=xs) (i:=(k:Int)) (by lia) (by lia)
 rwa [JA] at this
def RG(L:List Str)(j:Nat)(x:Str):Prop:=∃ k,k<L.length∧k / 4=j∧L.getD k ""=x
def RG.one{L:List Str}(hn:L.Nodup){i j:Nat}{x:Str}(h1:RG L i x)(h2:RG L j x):i=j:=by
 obtain⟨k,hk,rfl,e⟩:=h1
 obtain⟨m,hm,rfl,e2⟩:=h2
 rw [List.getD_eq_getElem?_getD,IG hk] at e
 rw [List.getD_eq_getElem?_getD,IG hm] at e2
 have:=(MS hn).mp (show L[k]=L[m] from(show L[k]=x from e).trans (show L[m]=x from e2).symm)
 rw [this]
def RG.mem{L:List Str}{j:Nat}{x:Str}(h:RG L j x):x∈L:=by
 obtain⟨k,hk,_,rfl⟩:=h
 rw [List.getD_eq_getElem?_getD,IG hk]
 exact KC hk
structure Rk(L xs:List Str)(n:Nat):Prop where
 nd:xs.Nodup
 sub:∀ x∈xs,∃ j,j<n∧RG L j x
 one:∀ x∈xs,∀ y∈xs,∀ j,RG L j x→RG L j y→x=y
 le:xs.length≤n
theorem Rk.nil(L:List Str):Rk L [] 0:=⟨.nil,(fun _ h=>nomatch h),(fun _ h=>nomatch h),II _⟩
def Rk.skip{L xs:List Str}{n:Nat}(h:Rk L xs n):Rk L xs (n+1):=⟨h.nd,fun x hx=>let ⟨j,a,b⟩:=h.sub x hx;⟨j,Jp a,b⟩,h.one,Nat.le_succ_of_le h.le⟩
def Rk.snoc{L xs:List Str}{n:Nat}{y:Str}(hn:L.Nodup)(h:Rk L xs n)(hy:RG L n y):Rk L (xs++[y]) (n+1):=by
 have nj:∀ x∈xs,∀ j,RG L j x→j<n:=fun x hx j hj=>by
  obtain⟨i,hi,e⟩:=h.sub x hx
  rw [RG.one hn hj e]
  exact hi
 have ny:y∉xs:=fun z=>JC _ (nj y z n hy)
 refine⟨JT.mpr ⟨h.nd,by simp,fun a ha b hb e=>ny (by rw [← Jd.mp hb,← e];exact ha)⟩,fun x hx=>?_,fun x hx z hz j h1 h2=>?_,by rw [List.length_append];exact Nat.succ_le_succ h.le⟩
 ·rcases Ja.mp hx with q | q
  ·exact(h.skip).sub x q
  ·rw [Jd.mp q]
   exact⟨n,JX _,hy⟩
 ·rcases Ja.mp hx with q | q
  ·rcases Ja.mp hz with r | r
   ·exact h.one x q z r j h1 h2
   ·rw [Jd.mp r] at h2
    have:=nj x q j h1
    rw [RG.one hn h2 hy] at this
    exact absurd this (JC _)
  ·rw [Jd.mp q] at h1 ⊢
   rcases Ja.mp hz with r | r
   ·have:=nj z r j h2
    rw [RG.one hn h1 hy] at this
    exact absurd this (JC _)
   ·exact(Jd.mp r).symm
def F6(L tk gv:List Str):Prop:=∀ g∈gv,∃ j,RG L j g∧∃ t∈tk,RG L j t
def F6.more{L tk gv:List Str}{y:Str}(h:F6 L tk gv):F6 L (tk++[y]) gv:=fun g hg=>let ⟨j,a,t,b,c⟩:=h g hg;⟨j,a,t,Jv _ b,c⟩
structure rO(L tk gv:List Str):Prop where
 t:Rk L tk 3
 g:Rk L gv 3
 ne:tk≠[]
 sub:F6 L tk gv
def yy(K:PySem.W.Frag):Sp:=fun vs H Q _=>∃ (num:Int) (a b:Addr) (ss:List Int) (L:List Str),vs=[.int num,.ref a,.ref b]∧aA K H a (ss.map V.int)∧aA K H b (aF L)∧(1≤ss.length∧ss.length≤3)∧(∀ x∈ss,1≤x∧x≤4)∧L.length=12∧L.Nodup ∧
 ∀ H' t l g tk gv,aq H H'→H l=none→H g=none→H' t=some (.tup [.ref l,.ref g])→H' l=some (.lst (aF tk))→H' g=some (.lst (aF gv))→rO L tk gv→Q (.ref t) H'
def jh:aD ["_law_number", "_law_sizes", "_law_names", "_law_takes", "_law_gives", "_law_which", "_law_r"] ["_law_number", "_law_sizes", "_law_names"] (au wc):=eR
inductive StI(H:Hp)(a b lt lg:Addr)(L:List Str)(wh:Int)(i:Nat)(σ:St)(H2:Hp):Prop
 | mk (num:Int) (v6:Option V) (tk gv:List Str) (q0:σ=[some (.int num),some (.ref a),some (.ref b),some (.ref lt),some (.ref lg),some (.int wh),v6]) (q1:aq H H2) (q2:H2 lt=some (.lst (aF tk))) (q3:H2 lg=some (.lst (aF gv))) (q4:Rk L tk i) (q5:Rk L gv i) (q6:tk≠[]∨wh % 2 ^ i=0) (q7:F6 L tk gv)
def mI(xs:List Str)(x:Str):aF xs++[V.str x]=aF (xs++[x]):=by unfold aF;rw [List.map_append];rfl
def FH(n:Int):PySem.Builtin.bitAnd n 1=n % 2:=PyProof.Rows.bitAnd_m1 n
def Cp{f:Addr}{fd:FuncData}(F:dv K "_law_step" "_law_step" wc f fd)(T:Txt K mg)(T2:Txt2 mg):bo P w K mg base cS 1 f fd ["_law_number", "_law_sizes", "_law_names"] (yy K):=by
 refine F.oK jh fun cdv A outer s H vs Q E hr h=>?_
 ·obtain⟨num,a,b,ss,L,rfl,ha,hb,hs2,hss,hL,hnd,kk⟩:=h
  have hsl:=Ji
  refine⟨_,af (cB 3 jh (bL ae))
   (af (cB 4 jh (bL ae))
   (af (cB 5 jh (aE fE ak (aE cv (pv 0) (aE kH (aE As ak (ay bu rfl T.len cL (aa (pv 1) ae))) ak))))
   (af (cB 0 jh (aE cm (pv 0) ak))
   (af (bq IT rfl (cN rfl T2.rng (aa (ay bu rfl T.len cL (aa (pv 1) ae)) ae)) (dX 6 jh)
    (ai (bH (bj gX (aE iF (aE pf (pv 5) (pv 6)) ak) ak (bC _))
     (af (a9 (cR Jb IZ I0 aV (pv 3) (aa (bb aR (pv 2) (aE fE (aE mJ ak (pv 6)) (aE cv (pv 0) (bb aR (pv 1) (pv 6) (fun _ _=>rfl)))) (fun _ _=>rfl)) ae)))
     (af (bH (bj CZ (aE cv (aE cm (pv 0) ak) ak) ak (bC _))
      (ai (a9 (cR Jb IZ I0 aV (pv 4) (aa (bb aR (pv 2) (aE fE (aE mJ ak (pv 6)) (aE cv (aE cm (pv 0) ak) (bb aR (pv 1) (pv 6) (fun _ _=>rfl)))) (fun _ _=>rfl)) ae)))) aU)
     (ai (cB 0 jh (aE cm (pv 0) ak))))) aU)))
   (ai (aI (jU (aa (pv 3) (aa (pv 4) ae))))))))),?_⟩
  refine⟨IU _,fun lt H1 nlt s1 h1=>⟨IU _,fun lg H2 nlg s2 h2=>?_⟩⟩
  have ntg:lt≠lg:=aj h1 nlg
  have nlg0:H lg=none:=s1.free nlg
  have h12:=s2 _ _ h1
  have s02:=s1.trans s2
  have hlen:∀ {H':Hp},aq H H'→Fh K (.ref a) H' ss.length:=fun s=>.inl ⟨_,s.seq ha,by rw [List.length_map]⟩
  have p2:∃ q:Int,(1:Int)*2 ^ ((ss.length:Nat):Int).toNat-1=q∧1≤q∧q+1=2 ^ ss.length:=by
   rw [JA]
   have:ss.length=1∨ss.length=2∨ss.length=3:=by lia
   rcases this with e | e | e <;> rw [e]
   ·exact⟨1,by decide,by decide,by decide⟩
   ·exact⟨3,by decide,by decide,by decide⟩
   ·exact⟨7,by decide,by decide,by decide⟩
  obtain⟨q,eq,q1,q2⟩:=p2
  refine⟨_,rfl,_,rfl,_,_,rfl,hlen s02,_,_,rfl,rfl,⟨by first | lia | decide,by first | lia | decide,by first | lia | decide⟩,_,_,rfl,rfl,_,_,rfl,rfl,(by rw [eq];lia),_,_,rfl,rfl,?_⟩
  dsimp only [ij]
  rw [eq]
  have w0:1≤1+num % q∧1+num % q≤q:=by
   have:=Lk num (show q≠0 by lia)
   have:=KR num (show 0<q by lia)
   lia
  generalize 1+num % q=wh at w0
  refine⟨_,rfl,_,_,rfl,rfl,⟨by decide,by decide⟩,?_⟩
  refine⟨_,rfl,_,_,rfl,hlen s02,_,rfl,by lia,by lia,km (lo:=0) (n:=((ss.length:Nat):Int).toNat) (StI H a b lt lg L wh)
   ⟨_,none,[],[],rfl,s02,h12,h2,Rk.nil L,Rk.nil L,.inr (by simp),fun _ h=>nomatch h⟩ ?_ ?_⟩
  ·rintro i σ H3 hi ⟨num,v6,tk,gv,rfl,sm,ht,hg,rt,rg,hne,sub⟩
   have hi2:i<ss.length:=by lia
   have sz:1≤ss.getD i 0∧ss.getD i 0≤4:=hss _ (by rw [List.getD_eq_getElem?_getD,IG hi2];exact KC _)
   rw [show(0+((i:Nat):Int))=((i:Nat):Int) by lia]
   have eat:sS (ss.map V.int) ((i:Nat):Int)=some (.int (ss.getD i 0)):=by
    have:=ig (xs:=ss) (i:=((i:Nat):Int)) (by lia) (by lia)
    rwa [JA] at this
   have rgAt:∀ z:Int,0≤z→z<ss.getD i 0→sS (aF L) (4*((i:Nat):Int)+z)=some (.str (L.getD (4*((i:Nat):Int)+z).toNat ""))∧RG L i (L.getD (4*((i:Nat):Int)+z).toNat ""):=fun z h0 h1=>⟨lu (by lia) (by lia),_,by lia,by lia,rfl⟩
   refine⟨_,rfl,_,rfl,_,_,rfl,rfl,(by lia),_,_,rfl,rfl,rfl,_,rfl,?_⟩
   refine AB (fun c=>?_) (fun c=>?_)
   ·obtain⟨at1,ry⟩:=rgAt (num % ss.getD i 0) (Lk _ (by lia)) (KR _ (by lia))
    refine⟨_,rfl,.inl ⟨rfl,_,aA.of ht⟩,_,rfl,_,rfl,_,_,rfl,rfl,.inl ⟨by decide,by decide⟩,_,rfl,_,rfl,_,rfl,a,_,_,_,rfl,rfl,sm.seq ha,eat,_,_,rfl,rfl,(by lia),_,_,rfl,rfl,b,_,_,_,rfl,rfl,sm.seq hb,at1,lt,_,_,rfl,rfl,ht,?_,?_⟩
    ·rw [aw]
     have:=rt.le
     lia
    rw [mI]
    generalize L.getD (4*((i:Nat):Int)+num % ss.getD i 0).toNat ""=y at ry ⊢
    have rt2:=rt.snoc hnd ry
    have hlt3:(upd H3 lt (.lst (aF (tk++[y])))) lt=some (.lst (aF (tk++[y]))):=ag
    have hlg3:(upd H3 lt (.lst (aF (tk++[y])))) lg=some (.lst (aF gv)):=by rw [ah ntg.symm];exact hg
    have sm3:aq H (upd H3 lt (.lst (aF (tk++[y])))):=aY sm nlt
    generalize upd H3 lt (.lst (aF (tk++[y])))=H4 at hlt3 hlg3 sm3 ⊢
    refine⟨_,rfl,_,_,rfl,rfl,⟨by decide,by decide⟩,_,_,rfl,rfl,(by show(0:Int)<16;decide),_,_,rfl,rfl,_,rfl,?_⟩
    refine AB (fun _=>?_) (fun _=>?_)
    ·obtain⟨at2,rz⟩:=rgAt (num / 64 % ss.getD i 0) (Lk _ (by lia)) (KR _ (by lia))
     refine⟨_,rfl,.inl ⟨rfl,_,aA.of hlg3⟩,_,rfl,_,rfl,_,_,rfl,rfl,.inl ⟨by decide,by decide⟩,_,rfl,_,_,rfl,rfl,⟨by decide,by decide⟩,_,rfl,_,rfl,a,_,_,_,rfl,rfl,sm3.seq ha,eat,_,_,rfl,rfl,(by lia),_,_,rfl,rfl,b,_,_,_,rfl,rfl,sm3.seq hb,at2,lg,_,_,rfl,rfl,hlg3,?_,?_⟩
     ·rw [aw]
      have:=rg.le
      lia
     rw [mI]
     refine⟨_,rfl,_,_,rfl,rfl,⟨by decide,by decide⟩,?_⟩
     refine⟨_,_,_,_,rfl,aY sm3 nlg0,by rw [ah ntg];exact hlt3,ag,rt2,rg.snoc hnd rz,.inl (by simp),fun g hg=>?_⟩
     rcases Ja.mp hg with z | z
     ·exact sub.more g z
     ·rw [Jd.mp z]
      exact⟨i,rz,y,Js _ (Jd.mpr rfl),ry⟩
    ·refine⟨_,rfl,_,_,rfl,rfl,⟨by decide,by decide⟩,?_⟩
     exact⟨_,_,_,_,rfl,sm3,hlt3,hlg3,rt2,rg.skip,.inl (by simp),sub.more⟩
   ·have c1:¬ wh / 2 ^ ((i:Nat):Int).toNat % 2=1:=fun z=>c (IL (show V.int (PySem.Builtin.bitAnd (wh / 2 ^ ((i:Nat):Int).toNat) 1)=V.int 1 by rw [FH,z]))
    refine⟨_,_,_,_,rfl,sm,ht,hg,rt.skip,rg.skip,?_,sub⟩
    rcases hne with z | z
    ·exact .inl z
    ·rw [JA] at c1
     have i012:i=0∨i=1∨i=2:=by lia
     rcases i012 with rfl | rfl | rfl
     ·exact .inr (by simp at c1 ⊢;lia)
     ·exact .inr (by simp at c1 z ⊢;lia)
     ·exact .inr (by simp at c1 z ⊢;lia)
  ·rintro σ H3 ⟨num,v6,tk,gv,rfl,sm,ht,hg,rt,rg,hne,sub⟩
   rw [JA] at rt rg hne
   have up:∀ {xs:List Str},Rk L xs ss.length→Rk L xs 3:=fun h=>⟨h.nd,fun x hx=>let ⟨j,a,b⟩:=h.sub x hx;⟨j,by lia,b⟩,h.one,by have:=h.le;lia⟩
   refine⟨_,rfl,_,rfl,by show 2≤sizeLine;lia,fun t H4 nt s4 ht4=>kk H4 t lt lg tk gv (sm.trans s4) nlt nlg0 ht4 (s4 _ _ ht) (s4 _ _ hg) ⟨up rt,up rg,?_,sub⟩⟩
   rcases hne with z | z
   ·exact z
   ·exfalso
    rw [← q2] at z
    have:=Int.emod_eq_of_lt (show 0≤wh by lia) (show wh<q+1 by lia)
    lia
end Uf
end
section
namespace L2
open PySem PySem.Spec PyProof.Rows
section
variable {X:Cx}{N:List Str}{n:Nat}{ci:List Nat}{sc:Scope}
def gf{elt tg iter:Expr}{ifs:List Expr}{pos cpos py:Pos}{y:Str}{j:Nat}{wi:TI}{g:BX→TG}{tt:BX→TT}{te:BX→TE}(hc:X.calm=true)(hN:X.N.Nodup)(hj:X.N[j]?=some y)(hy:X.env.scope.names.lookup y=some .local)(hi:PI X tg iter wi)(S:cM X N n ci sc)
  (hb:∀ z:BX,PG (iK X sc N z) tg (g z)∧FD (iK X sc N z) ifs (tt z)∧PE (iK X sc N z) elt (te z)) (hsw:swapsWith (.ListComp elt [⟨tg,iter,ifs,0⟩] sc cpos) (some (.Name y py)) pos.line X.env=pure true:=by rfl)
  (hs:∀ x,foldedSetIterable iter X.env x=pure x:=by intro _;rfl):PS X (.Assign [.Name y py] (.ListComp elt [⟨tg,iter,ifs,0⟩] sc cpos) pos) (B1 (CO n ci wi g tt te) (ij j)):=by
 intro pins s σ H D0 I h
 rw [exec_Assign_Name_used _ _ _ _ hsw]
 refine IE (ML (IE ?_))
 show wpAny _ X.A (do let _ ← comprehension (.ListComp elt [⟨tg,iter,ifs,0⟩] sc cpos) sc X.env _ (newList []) false (eval iter X.env) (some (assign (.Name y py) X.env))) _ _ s
 refine IE (Kf (MW (use:=some (assign (.Name y py) X.env)) (Q:=fun _ s'=>SP X pins D0 .next s') (E:=X.xe) rfl hs (my (S.nV I.ok)) S.kind S.loc (bM (hi pins s σ H _ I h) fun v s1 h1=>bM h1 fun itv s2 h2=>?_)) (fun _ s' hq=>wpAny_pure (wpAny_pure hq)) fun _ _ e=>e)
 obtain⟨it,fp,tn,J,H2,e,I2,T,st2,f2,rd⟩:=h2
 subst e
 refine Kd (wpAny_newFunctionEnv S.nocell (by intro y hy;simp at hy) (fun h₁ hns₁ hsb₁=>?_) S.kind)
 dsimp only at hns₁ hsb₁ ⊢
 have hD:H2 s2.heap.objs.size=none:=I2.hok.fresh (II _)
 have I3:Inv X pins σ (upd H2 s2.heap.objs.size (.lst [])) { s2 with heap:=s2.heap.push { cls:=.type "list",data:=.seq ([]:List Value).toArray } }:=I2.Eh (t':=s2.toks) (ys:=[]) (its:=[]) .nil (IU _)
 have ob2:∀ b∈fp,∃ o,s2.heap.get? b=some o:=fun b hb=>let ⟨o,e,_⟩:=T.obj _ _ st2 b hb;⟨o,e⟩
 have neD:∀ b∈fp,b≠s2.heap.objs.size:=fun b hb=>let ⟨o,e⟩:=ob2 b hb;IS (IJ e)
 have f3:∀ b∈fp,iE X pins (upd H2 s2.heap.objs.size (.lst [])) b:=fun b hb=>⟨by rw [ah (neD b hb)];exact(f2 b hb).1,(f2 b hb).2⟩
 have ob3:∀ b∈fp,∃ o,(s2.heap.push { cls:=.type "list",data:=.seq ([]:List Value).toArray }).get? b=some o:=fun b hb=>let ⟨o,e⟩:=ob2 b hb;⟨o,IF _ e⟩
 have k3:∀ b o,(s2.heap.push { cls:=.type "list",data:=.seq ([]:List Value).toArray }).get? b=some o→h₁.get? b=some o:=fun b o e =>
  hsb₁.extBut b o (IS (IJ e)) (IF _ e)
 have I4:Inv (iK X sc N ⟨_,{ s2 with heap:=s2.heap.push { cls:=.type "list",data:=.seq ([]:List Value).toArray } },upd H2 s2.heap.objs.size (.lst []),fp⟩) [] (sR n ci σ) (upd H2 s2.heap.objs.size (.lst []))
   { s2 with heap:=h₁,toks:=s2.toks+([]:List (Str × Value)).length }:=oA (s:={ s2 with heap:=s2.heap.push { cls:=.type "list",data:=.seq ([]:List Value).toArray } }) S I3 f3 ob3 k3 hns₁
 have st4:tn 0 h₁:=T.keep _ _ _ st2 fun b hb o e=>k3 b o (IF _ e)
 obtain⟨M,W,w0,turn⟩:=rd ⟨_,{ s2 with heap:=s2.heap.push { cls:=.type "list",data:=.seq ([]:List Value).toArray } },upd H2 s2.heap.objs.size (.lst []),fp⟩ s2.heap.objs.size hD
 obtain⟨bg,bt,be⟩:=hb ⟨_,{ s2 with heap:=s2.heap.push { cls:=.type "list",data:=.seq ([]:List Value).toArray } },upd H2 s2.heap.objs.size (.lst []),fp⟩
 have ok3:=tL S I3 f3 ob3
 have stat:∀ {H':Hp},(∀ b∈fp,H' b=none)→∀ b∈fp,iE (iK X sc N ⟨_,{ s2 with heap:=s2.heap.push { cls:=.type "list",data:=.seq ([]:List Value).toArray } },upd H2 s2.heap.objs.size (.lst []),fp⟩) [] H' b:=fun hn b hb=>by
  obtain⟨_,f1,f2',_,f4,_⟩:=f3 b hb
  refine⟨hn b hb,?_,ok3.exfs b hb,.inl hb,fun x c e=>?_,fun p hp=>absurd hp (by simp)⟩
  ·exact IS (let ⟨o,e⟩:=ob3 b hb;IJ e)
  ·exact f4 x c (cI _ _ (S.nV I3.ok) (by simp) x c e)
 have loop:codeAny (model X.prog X.w) X.A (.compLoop (.ListComp elt [⟨tg,iter,ifs,0⟩] sc cpos) 0 (.ref it) (.ref s2.heap.objs.size) (compEnvC sc (iQ X.env sc.names []) (s2.heap.push { cls:=.type "list",data:=.seq ([]:List Value).toArray }).objs.size X.env))
   (compPost (model X.prog X.w) X.A X.xe (some (assign (.Name y py) X.env)) (fun _ s'=>SP X pins D0 .next s') (.ref s2.heap.objs.size) (s2.heap.push { cls:=.type "list",data:=.seq ([]:List Value).toArray }).objs.size) { s2 with heap:=h₁,toks:=s2.toks+([]:List (Str × Value)).length }:=by
  refine sQ (W:=W) (M:=M) (σ0:=sR n ci σ) (Q:=fun v H'=>D0.nx (σ.set j (some v)) H') hc T bg bt be (fun {pins' σ' H' s'} J'=>?_) stat I4 st4 (fun b hb=>(f3 b hb).1) w0 turn fun σ' H' s' J' q=>?_
  ·exact qG S I3 f3 J'
  ·obtain⟨m',hn',_⟩:=id J'.loc
   have J2:Inv X pins σ H' s':=m5 (s:={ s2 with heap:=s2.heap.push { cls:=.type "list",data:=.seq ([]:List Value).toArray } }) I3 f3 J' (Heap.SameBut.refl _ _)
   show wpAny _ _ (assign (.Name y py) X.env (.ref s2.heap.objs.size)) _ _ s'
   refine wpAny_assign_Name (oz (v:=.ref s2.heap.objs.size) J2 hN hj (.inl hy) rfl (fun s3 J3 ⟨a,sb,ha⟩=>?_) (.inr hy))
   have cC:∀ x c,X.env.cells.lookup x=some c→c≠(s2.heap.push { cls:=.type "list",data:=.seq ([]:List Value).toArray }).objs.size:=fun x c e z=>by
    obtain⟨v,q1⟩:=I3.cell x c e
    have:=q1.lt
    rw [z] at this
    exact absurd this (JC _)
   have lC:X.env.locals≠(s2.heap.push { cls:=.type "list",data:=.seq ([]:List Value).toArray }).objs.size:=fun z=>by
    have q1:=I3.lt
    rw [z] at q1
    exact absurd q1 (JC _)
   have aC:a≠(s2.heap.push { cls:=.type "list",data:=.seq ([]:List Value).toArray }).objs.size:=by
    rcases ha with rfl | ha
    ·exact lC
    ·exact cC _ _ ha
   refine⟨m',hn'.sameBut sb (Jg aC),fun h' hs'=>⟨_,H',J3.turned (t':=s3.toks) (fun b o hb e=>(hs'.2 b hb).trans e) J'.free lC.symm (.inr (Jf I3.sz (II _))) cC (fun p hp z=>?_),q⟩⟩
   have q1:=(I3.pin p hp).1
   rw [z] at q1
   exact absurd (IJ q1) (JC _)
 exact codeAny_compStart_list loop (T.self _ 0 _ _ _ st4 loop)
end
end L2
end
section
namespace Uf
open PySem L2 UfSrt
abbrev lK:Stmt:=top 35
abbrev j4:Stmt:=top 36
abbrev kS:Stmt:=top 37
abbrev Ca:Stmt:=top 38
abbrev j5:Stmt:=top 39
abbrev qm:Stmt:=top 40
abbrev qz:Stmt:=top 41
abbrev iJ:Stmt:=top 42
def dB(tk s:List Str):Bool:=tk.any fun x=>!decide (x∈s)
def second(tk gv s:List Str):Bool:=gv.any fun x=>decide (x∈s) && !decide (x∈tk)
def behind(tk gv s:List Str):List Str:=aH ((s.filter fun x=>!decide (x∈tk))++gv)
def qU{xs ys:List Str}(p:xs.Perm ys)(f:Str→Bool):xs.any f=ys.any f:=by
 rw [Jz,Kr,Kr]
 exact⟨fun⟨x,h,e⟩=>⟨x,p.mem_iff.mp h,e⟩,fun⟨x,h,e⟩=>⟨x,p.mem_iff.mpr h,e⟩⟩
def xr(tk s:List Str):dB (aH tk) s=dB tk s:=qU (df tk) _
def ua(tk gv s:List Str):second (aH tk) (aH gv) s=second tk gv s:=by
 unfold second
 rw [qU (df gv)]
 congr 1
 funext x
 rw [KH.mpr (bE (xs:=tk) (x:=x))]
def uN(tk gv s:List Str):behind (aH tk) (aH gv) s=behind tk gv s:=by
 unfold behind
 refine ka ?_
 have e:(s.filter fun x=>!decide (x∈aH tk))=s.filter fun x=>!decide (x∈tk):=by
  congr 1
  funext x
  rw [KH.mpr (bE (xs:=tk) (x:=x))]
 rw [e]
 exact(df gv).append_left _
def eL(xs:List Str):(aF xs).all eX=true:=by
 unfold aF
 rw [LV,JO]
 intro x _
 rfl
def ji(x:Str)(xs:List Str):Cd (.str x) (aF xs)=decide (x∈xs):=by
 unfold Cd aF
 rw [Mn,Jz,Kr,Jo]
 constructor
 ·rintro⟨y,hy,e⟩
  have e':rn (.str y) (.str x)=true:=e
  have:y=x:=by simpa [rn] using e'
  rw [← this]
  exact hy
 ·intro h
  exact⟨x,h,by show rn (.str x) (.str x)=true;simp [rn]⟩
def kb(K:PySem.W.Frag)(C:Addr)(g:Mv→List Str→Bool):Sp:=fun vs H Q _=>∃ (p a:Addr) (ms:List Mv) (st s:List Str) (m:Mv),vs=[.ref p,.ref a,.str m.1]∧cc C H p ms st∧m∈ms∧bO K H a (aF s)∧s.length≤200∧∀ H',aq H H'→Q (.bl (g m s)) H'
def bY{K:PySem.W.Frag}{H H':Hp}{a:Addr}{xs:List V}(e:aq H H')(h:bO K H a xs):bO K H' a xs:=by
 rcases h with(h | ⟨o,h⟩) | h
 ·exact .inl (.inl (e _ _ h))
 ·exact .inl (.inr ⟨o,e _ _ h⟩)
 ·exact .inr h
def sv:(("takes":Str) == "place_names")=false:=by decide +kernel
def qK:(("takes":Str) == "start_state")=false:=by decide +kernel
def sJ:(("takes":Str) == "taken_by")=false:=by decide +kernel
def qS:(("takes":Str) == "given_by")=false:=by decide +kernel
def yW:(("gives":Str) == "place_names")=false:=by decide +kernel
def zX:(("gives":Str) == "start_state")=false:=by decide +kernel
def yM:(("gives":Str) == "taken_by")=false:=by decide +kernel
def zE:(("gives":Str) == "given_by")=false:=by decide +kernel
def vq:aD ["net", "state", "move"] ["net", "state", "move"] (au lK):=eR
def yD{f C:Addr}{fd:FuncData}(F:dv K "lacks_bead" "lacks_bead" lK f fd)(T:Txt K mg)(hany:mg "any"=none)(CT:gU K C)(DT:jI P w K mg base C "takes" "Net.takes" iz ["self", "move"] 3 (ja C (·.2.1))) :
  bo P w K mg base cS 4 f fd ["net", "state", "move"] (kb K C fun m s=>dB m.2.1 s):=by
 refine F.oK vq fun cdv A outer s H vs Q E hr h=>?_
 ·obtain⟨p,a,ms,st,s',m,rfl,N,hm,ha,hz,k⟩:=h
  refine⟨_,ai (aI (ay (mS rfl) rfl hany zq (aa (bN (N:=["place", "state"]) (n:=1) (ci:=[1]) rfl (aK (bZ (pv 0) CT.cl DT.d.mt DT.g hr DT.d.bd .nil bz (aa (pv 2) ae)))
    (j6 vq)
    (fun z=>⟨jg 0,bV,cY dQ (pv 0) (pv 1) (by with_unfolding_all rfl)⟩)) ae))),?_⟩
  obtain⟨dx,aP,aS,aT,aG,kT,kG,h1,_⟩:=N.at'.ob
  obtain⟨_,_,_,tk4,gv4⟩:=fY (N.so.mv m hm)
  refine⟨_,rfl,p,dx,_,rfl,h1,cW _ _ _ _ sv qK sJ qS,_,rfl,p,ms,st,m,rfl,N,hm,fun H1 q s1 nq hq=>?_⟩
  refine⟨q,rfl,⟨_,aA.of hq⟩,fun z D hD=>cy (a:=q) (xs:=aF (aH m.2.1)) (fun i ys H2=>ys=((aH m.2.1).take i).map (fun x=>V.bl (!decide (x∈s')))∧H2 D=some (.lst ys)∧aq H1 H2) ⟨rfl,ag,ao hD⟩ (fun i ys H2 _ p=>aA.of (p.2.2 _ _ hq)) ?_ ?_⟩
  ·rintro i v ys H2 hi ⟨rfl,hys,sm⟩
   obtain⟨x,hx,rfl⟩:=cZ hi
   refine⟨_,rfl,_,rfl,a,aF s',rfl,.inr (bY (s1.trans sm) ha),rfl,eL s',hys,?_,?_,ag,aY sm hD⟩
   ·rw [List.length_map,Jj,bW,sizeLine_eq]
    lia
   ·rw [av hx,List.map_append,ji]
    rfl
  ·rintro ys H2 ⟨rfl,hys,sm⟩
   rw [aw,Jc] at hys
   refine⟨D,(aH m.2.1).map fun x=>!decide (x∈s'),rfl,aA.of (by rw [hys,List.map_map];rfl),?_⟩
   have e:dB m.2.1 s'=((aH m.2.1).map fun x=>!decide (x∈s')).any id:=by
    rw [← xr,Mn]
    rfl
   rw [← e]
   exact k H2 (s1.trans sm)
def mL:aD ["net", "state", "move", "taken"] ["net", "state", "move"] (au j4):=eR
def xu{f C:Addr}{fd:FuncData}(F:dv K "gives_second" "gives_second" j4 f fd)(T:Txt K mg)(hany:mg "any"=none)(CT:gU K C)(DT:jI P w K mg base C "takes" "Net.takes" iz ["self", "move"] 3 (ja C (·.2.1)))
  (DG:jI P w K mg base C "gives" "Net.gives" kx ["self", "move"] 3 (ja C (·.2.2))) :
  bo P w K mg base cS 4 f fd ["net", "state", "move"] (kb K C fun m s=>second m.2.1 m.2.2 s):=by
 refine F.oK mL fun cdv A outer s H vs Q E hr h=>?_
 ·obtain⟨p,a,ms,st,s',m,rfl,N,hm,ha,hz,k⟩:=h
  refine⟨_,af (cB 3 mL (bZ (pv 0) CT.cl DT.d.mt DT.g hr DT.d.bd .nil bz (aa (pv 2) ae)))
   (ai (aI (ay (mS rfl) rfl hany zq (aa (bN (N:=["place", "state", "taken"]) (n:=1) (ci:=[1,3]) rfl (aK (bZ (pv 0) CT.cl DG.d.mt DG.g hr DG.d.bd .nil bz (aa (pv 2) ae)))
    (j6 mL)
    (fun z=>⟨jg 0,bV,kD (cY j7 (pv 0) (pv 1) (by with_unfolding_all rfl)) (ko (cY dQ (pv 0) (pv 2) (by with_unfolding_all rfl)))⟩)) ae)))),?_⟩
  obtain⟨dx,aP,aS,aT,aG,kT,kG,h1,_⟩:=N.at'.ob
  obtain⟨_,_,_,tk4,gv4⟩:=fY (N.so.mv m hm)
  refine⟨_,rfl,p,dx,_,rfl,h1,cW _ _ _ _ sv qK sJ qS,_,rfl,p,ms,st,m,rfl,N,hm,fun H1 q s1 nq hq=>?_⟩
  refine⟨_,rfl,p,dx,_,rfl,s1 _ _ h1,cW _ _ _ _ yW zX yM zE,_,rfl,p,ms,st,m,rfl,N.same s1,hm,fun H2 q2 s2 nq2 hq2=>?_⟩
  refine⟨q2,rfl,⟨_,aA.of hq2⟩,fun z D hD=>cy (a:=q2) (xs:=aF (aH m.2.2)) (fun i ys H3=>ys=((aH m.2.2).take i).map (fun x=>V.bl (decide (x∈s') && !decide (x∈aH m.2.1)))∧H3 D=some (.lst ys)∧aq H2 H3) ⟨rfl,ag,ao hD⟩ (fun i ys H3 _ p=>aA.of (p.2.2 _ _ hq2)) ?_ ?_⟩
  ·rintro i v ys H3 hi ⟨rfl,hys,sm⟩
   obtain⟨x,hx,rfl⟩:=cZ hi
   have hlen:(((aH m.2.2).take i).map (fun x=>V.bl (decide (x∈s') && !decide (x∈aH m.2.1)))).length<sizeLine:=by
    rw [List.length_map,Jj,bW,sizeLine_eq]
    lia
   refine⟨_,rfl,_,rfl,a,aF s',rfl,.inr (bY (s1.trans (s2.trans sm)) ha),rfl,eL s',_,rfl,?_⟩
   show if Cd (V.str x) (aF s')=true then _ else _
   rw [ji]
   cases c1:decide (x∈s') with
   | false =>
    refine bB ⟨hys,hlen,?_,ag,aY sm hD⟩
    rw [av hx,List.map_append]
    simp [c1]
   | true =>
    refine bF ⟨_,rfl,_,rfl,q,aF (aH m.2.1),rfl,.inl (aA.of (sm _ _ (s2 _ _ hq))),rfl,eL _,hys,hlen,?_,ag,aY sm hD⟩
    rw [av hx,List.map_append,ji]
    simp [c1]
  ·rintro ys H3 ⟨rfl,hys,sm⟩
   rw [aw,Jc] at hys
   refine⟨D,(aH m.2.2).map fun x=>decide (x∈s') && !decide (x∈aH m.2.1),rfl,aA.of (by rw [hys,List.map_map];rfl),?_⟩
   have e:second m.2.1 m.2.2 s'=((aH m.2.2).map fun x=>decide (x∈s') && !decide (x∈aH m.2.1)).any id:=by
    rw [← ua,Mn]
    rfl
   rw [← e]
   exact k H3 (s1.trans (s2.trans sm))
end Uf
end
section
namespace L2
open PySem PySem.Spec PyProof.Rows Uf
def filterMap_some{α β:Type}(g:α→β)(xs:List α):xs.filterMap (fun x=>some (g x))=xs.map g:=by
 rw [← List.filterMap_eq_map]
 rfl
section
variable {K:PySem.W.Frag}{n:Nat}{ci:List Nat}{g:TG}{tt:TT}{te:TE}{σ:St}{H:Hp}{D:Addr}{Q:VK}{α:Type}{J:It}
def Gv(n:Nat)(ci:List Nat)(g:TG)(tt:TT)(te:TE)(σ:St)(x:V)(y:Option V)(H:Hp):Prop :=
 ∀ (no:Hp→Prop) (yes:VK),(y=none→∀ H4,aq H H4→no H4)→(∀ u,y=some u→∀ H4,aq H H4→yes u H4)→g x (sR n ci σ) H fun σ2 H2=>tt σ2 H2 fun b H3=>if b=true then te σ2 H3 yes else no H3
def qp{zs:List α}{v:α→V}{F:α→Option V}(hJ:∀ i H3,aq H H3→(i<zs.length→J.go i H3)∧(zs.length≤i→J.stop i H3)∧∀ x H',J.yld i H3 x H'→i<zs.length→aq H3 H'∧∃ z,zs[i]?=some z∧x=v z)(hl:zs.length≤sizeLine)(hD:H D=none)
  (hs:∀ z∈zs,∀ H3,aq H H3→Gv n ci g tt te σ (v z) (F z) H3) (hd:∀ H3,aq H H3→H3 D=some (.lst (zs.filterMap F))→Q (.ref D) H3):gY n ci J g tt te σ H D Q:=by
 unfold gY
 refine⟨zs.length,fun i ys H3=>ys=(zs.take i).filterMap F∧H3 D=some (.lst ys)∧aq H H3,⟨rfl,ag,ao hD⟩,fun i ys H3 hi ⟨e,hD3,s3⟩=>?_⟩
 obtain⟨j1,j2,j3⟩:=hJ i H3 s3
 by_cases hlt:i<zs.length
 ·refine .inr ⟨hlt,j1 hlt,fun x H' y=>?_⟩
  obtain⟨s4,z,hz,ex⟩:=j3 x H' y hlt
  subst ex
  have et:(zs.take (i+1)).filterMap F=ys++(F z).toList:=by
   rw [av hz,List.filterMap_append,← e,List.filterMap_cons]
   cases F z <;> rfl
  refine hs z (IK hz) H' (s3.trans s4) _ _ (fun h H4 s5=>?_) fun u h H4 s5=>?_
  ·rw [h] at et
   exact⟨by rw [et];simp,(s4.trans s5) _ _ hD3,s3.trans (s4.trans s5)⟩
  ·rw [h] at et
   refine⟨(s4.trans s5) _ _ hD3,?_,et.symm,ag,aY (s3.trans (s4.trans s5)) hD⟩
   have:=List.length_filterMap_le F (zs.take i)
   rw [← e,Jj] at this
   lia
 ·have ei:i=zs.length:=by lia
  refine .inl ⟨j2 (by lia),hd H3 s3 ?_⟩
  rw [hD3,e,ei,Jc]
def iw{zs:List α}{v:α→V}{F:α→Option V}{a:Addr}(ha:aA K H a (zs.map v))(hl:zs.length≤sizeLine)(hD:H D=none)
  (hs:∀ z∈zs,∀ H3,aq H H3→Gv n ci g tt te σ (v z) (F z) H3) (hd:∀ H3,aq H H3→H3 D=some (.lst (zs.filterMap F))→Q (.ref D) H3):gY n ci (DD K a) g tt te σ H D Q:=by
 refine qp (fun i H3 s3=>⟨fun h=>⟨_,_,s3.seq ha,IG (by rw [List.length_map];exact h)⟩,fun h=>⟨_,s3.seq ha,by rw [List.length_map];exact h⟩,fun x H' ⟨e,y⟩ h=>⟨by rw [e];exact aq.refl _,?_⟩⟩) hl hD hs hd
 have:=y _ (s3.seq ha)
 rw [List.getElem?_map] at this
 obtain⟨z,hz,e⟩:=JJ.mp this
 exact⟨z,hz,e.symm⟩
def mM{zs:List α}{v:α→V}{F:α→Option V}{a:Addr}(ha:bO K H a (zs.map v))(hl:zs.length≤sizeLine)(hD:H D=none)
  (hs:∀ z∈zs,∀ H3,aq H H3→Gv n ci g tt te σ (v z) (F z) H3) (hd:∀ H3,aq H H3→H3 D=some (.lst (zs.filterMap F))→Q (.ref D) H3):gY n ci (Eu K a) g tt te σ H D Q:=by
 refine qp (fun i H3 s3=>⟨fun h=>⟨_,_,bY s3 ha,IG (by rw [List.length_map];exact h)⟩,fun h=>⟨_,bY s3 ha,by rw [List.length_map];exact h⟩,fun x H' ⟨e,y⟩ h=>⟨by rw [e];exact aq.refl _,?_⟩⟩) hl hD hs hd
 have:=y _ (bY s3 ha)
 rw [List.getElem?_map] at this
 obtain⟨z,hz,e⟩:=JJ.mp this
 exact⟨z,hz,e.symm⟩
def fA{m:Nat}{F:Nat→Option V}(hl:m≤sizeLine)(hD:H D=none)
  (hs:∀ z,z<m→∀ H3,aq H H3→Gv n ci g tt te σ (.int (z:Nat)) (F z) H3) (hd:∀ H3,aq H H3→H3 D=some (.lst ((List.range m).filterMap F))→Q (.ref D) H3):gY n ci (EA 0 m) g tt te σ H D Q:=by
 refine qp (zs:=List.range m) (v:=fun z=>.int (z:Nat)) (F:=F) (fun i H3 s3=>?_) (by rw [List.length_range];exact hl) hD (fun z hz=>hs z (JK.mp hz)) hd
 rw [List.length_range]
 refine⟨fun h=>h,fun h=>h,fun x H' ⟨e,y⟩ h=>⟨by rw [e];exact aq.refl _,i,Lb h,?_⟩⟩
 rw [y,Int.zero_add]
end
end L2
end
section
namespace Uf
open PySem L2
def Gs(xs:List V)(lo hi:Nat):ix xs (some (lo:Int)) (some (hi:Int))=(xs.drop lo).take (hi-lo):=by
 unfold ix
 have e1:HT.mF xs.length 0 (some (lo:Int))=min lo xs.length:=HT.kY _ _ lo
 have e2:HT.mF xs.length xs.length (some (hi:Int))=min hi xs.length:=HT.kY _ _ hi
 rw [e1,e2]
 by_cases h1:lo≤xs.length
 ·rw [Mq h1]
  by_cases h2:hi≤xs.length
  ·rw [Mq h2]
  ·rw [M3 (by lia),Kp (by rw [K7];lia),Kp (by rw [K7];lia)]
 ·rw [show min lo xs.length=xs.length by lia,List.drop_length,KL (show xs.length≤lo by lia)]
  simp
def Fo(xs:List V)(hi:Nat):ix xs none (some (hi:Int))=xs.take hi:=by
 unfold ix
 have e1:HT.mF xs.length 0 none=0:=HT.sf _ _
 have e2:HT.mF xs.length xs.length (some (hi:Int))=min hi xs.length:=HT.kY _ _ hi
 rw [e1,e2,MA,Nat.sub_zero]
 by_cases h:hi≤xs.length
 ·rw [Mq h]
 ·rw [M3 (by lia),Kp (II _),Kp (by lia)]
def FA(xs:List V)(lo:Nat):ix xs (some (lo:Int)) none=xs.drop lo:=by
 unfold ix
 have e1:HT.mF xs.length 0 (some (lo:Int))=min lo xs.length:=HT.kY _ _ lo
 have e2:HT.mF xs.length xs.length none=xs.length:=HT.sf _ _
 rw [e1,e2]
 by_cases h:lo≤xs.length
 ·rw [Mq h,Kp (by rw [K7];lia)]
 ·rw [M3 (by lia),List.drop_length,KL (by lia)]
  simp
def C3(r:List PySem.Str)(hi:Nat):ix (aF r) none (some (hi:Int))=aF (r.take hi):=by
 rw [Fo]
 unfold aF
 rw [NG]
end Uf
end
section
namespace Uf
open PySem L2 UfSrt
def yo(ms:List Mv)(x:Str):List Str:=((ms.find? fun m=>decide (m.1=x)).map (·.2.1)).getD []
def BS(ms:List Mv)(x:Str):List Str:=((ms.find? fun m=>decide (m.1=x)).map (·.2.2)).getD []
theorem find_name:∀ {ms:List Mv} {m:Mv},(names ms).Nodup→m∈ms→(ms.find? fun n=>decide (n.1=m.1))=some m
 | [],_,_,h=>by simp at h
 | n::ms,m,hn,h=>by
  obtain⟨n1,n2⟩:=JQ.mp (show(n.1::names ms).Nodup from hn)
  rcases IP.mp h with rfl | h
  ·simp
  ·have ne:¬ n.1=m.1:=fun z=>n1 (by rw [z];exact IV.mpr ⟨m,h,rfl⟩)
   rw [KY]
   simp only [ne,decide_false]
   exact find_name n2 h
def ff{ms:List Mv}{m:Mv}(hn:(names ms).Nodup)(h:m∈ms):yo ms m.1=m.2.1:=by unfold yo;rw [find_name hn h];rfl
def gM{ms:List Mv}{m:Mv}(hn:(names ms).Nodup)(h:m∈ms):BS ms m.1=m.2.2:=by unfold BS;rw [find_name hn h];rfl
def dD(ms:List Mv)(s:List Str)(x:Str):Bool:=dB (yo ms x) s
def g0(ms:List Mv)(s:List Str)(x:Str):Bool:=second (yo ms x) (BS ms x) s
def cO(ms:List Mv)(s:List Str)(x:Str):List Str:=behind (yo ms x) (BS ms x) s
def jq(ms:List Mv)(s:List Str):List Str:=((aH (names ms)).filter fun x=>!dD ms s x).filter fun x=>!g0 ms s x
def hX(ms:List Mv)(s:List Str):Option Str:=(aH (names ms)).find? fun x=>!dD ms s x&&g0 ms s x
def dc{ms:List Mv}{x:Str}(h:x∈aH (names ms)):∃ m∈ms,m.1=x:=by
 obtain⟨m,hm,e⟩:=IV.mp (bE.mp h)
 exact⟨m,hm,e⟩
def rf(K:PySem.W.Frag)(C:Addr):Sp:=fun vs H Q _=>∃ (p a:Addr) (ms:List Mv) (st s:List Str) (m:Mv),vs=[.ref p,.ref a,.str m.1]∧cc C H p ms st∧m∈ms∧bO K H a (aF s)∧s.length≤50 ∧
 ∀ H' q,aq H H'→H q=none→H' q=some (.tup (aF (behind m.2.1 m.2.2 s)))→Q (.ref q) H'
def jv:aD ["net", "state", "move", "taken", "left"] ["net", "state", "move"] (au kS):=eR
def xA{f C:Addr}{fd:FuncData}(F:dv K "state_behind" "state_behind" kS f fd)(T:Txt K mg)(CT:gU K C)(DT:jI P w K mg base C "takes" "Net.takes" iz ["self", "move"] 3 (ja C (·.2.1)))
  (DG:jI P w K mg base C "gives" "Net.gives" kx ["self", "move"] 3 (ja C (·.2.2))) :
  bo P w K mg base cS 4 f fd ["net", "state", "move"] (rf K C):=by
 refine F.oK jv fun cdv A outer s H vs Q E hr h=>?_
 ·obtain⟨p,a,ms,st,s',m,rfl,N,hm,ha,hz,k⟩:=h
  refine⟨_,af (cB 3 jv (bZ (pv 0) CT.cl DT.d.mt DT.g hr DT.d.bd .nil bz (aa (pv 2) ae)))
   (af (gf (j:=4) (N:=["place", "taken"]) (n:=1) (ci:=[3]) rfl jv.nd rfl rfl (gR (pv 1))
    (j6 jv)
    (fun z=>⟨jg 0,fg (bj dQ (pv 0) (pv 1) (by with_unfolding_all rfl)),pv 0⟩))
   (ai (aI (a8 bK rfl T.tup fj (aa (ay dz rfl T.aH cn (aa (aE jj (pv 4) (bZ (pv 0) CT.cl DG.d.mt DG.g hr DG.d.bd .nil bz (aa (pv 2) ae))) ae)) ae))))),?_⟩
  obtain⟨dx,aP,aS,aT,aG,kT,kG,h1,_⟩:=N.at'.ob
  obtain⟨_,_,_,tk4,gv4⟩:=fY (N.so.mv m hm)
  refine⟨_,rfl,p,dx,_,rfl,h1,cW _ _ _ _ sv qK sJ qS,_,rfl,p,ms,st,m,rfl,N,hm,fun H1 q s1 nq hq=>?_⟩
  refine⟨_,rfl,a,rfl,⟨_,bY s1 ha⟩,fun z D hD=>yA (a:=a) (xs:=aF s') (fun i ys H2=>ys=aF ((s'.take i).filter fun x=>!decide (x∈aH m.2.1))∧H2 D=some (.lst ys)∧aq H1 H2) ⟨rfl,ag,ao hD⟩ (fun i ys H2 _ p=>bY (s1.trans p.2.2) ha) ?_ ?_⟩
  ·rintro i v ys H2 hi ⟨rfl,hys,sm⟩
   obtain⟨x,hx,rfl⟩:=cZ hi
   have hlen:(aF ((s'.take i).filter fun x=>!decide (x∈aH m.2.1))).length<sizeLine:=by
    rw [aw,sizeLine_eq]
    have:=JB (fun x=>!decide (x∈aH m.2.1)) (s'.take i)
    rw [Jj] at this
    lia
   refine⟨_,rfl,_,rfl,q,aF (aH m.2.1),rfl,.inl (aA.of (sm _ _ hq)),rfl,eL _,_,rfl,?_⟩
   show if (!Cd (V.str x) (aF (aH m.2.1)))=true then _ else _
   rw [ji]
   cases c1:decide (x∈aH m.2.1) with
   | true =>
    refine bB ⟨?_,hys,sm⟩
    rw [av hx,J9]
    simp [c1]
   | false =>
    refine bF ⟨_,rfl,hys,hlen,?_,ag,aY sm hD⟩
    rw [av hx,J9]
    unfold aF
    simp [c1]
  ·rintro ys H2 ⟨rfl,hys,sm⟩
   rw [aw,Jc] at hys
   refine⟨_,rfl,_,rfl,p,dx,_,rfl,(s1.trans sm) _ _ h1,cW _ _ _ _ yW zX yM zE,_,rfl,p,ms,st,m,rfl,N.same (s1.trans sm),hm,fun H3 q2 s3 nq2 hq2=>?_⟩
   have lf:(s'.filter fun x=>!decide (x∈aH m.2.1)).length≤50:=Jf (JB _ _) hz
   have hsl:=Ji
   refine⟨D,q2,_,_,rfl,rfl,s3 _ _ hys,hq2,?_,fun q3 nq3=>?_⟩
   ·rw [aw,aw,bW]
    dsimp only
    lia
   have e1:aF (s'.filter fun x=>!decide (x∈aH m.2.1))++aF (aH m.2.2)=aF ((s'.filter fun x=>!decide (x∈aH m.2.1))++aH m.2.2):=by unfold aF;rw [List.map_append]
   rw [e1]
   refine⟨q3,_,rfl,aA.of ag,?_,fun q4 nq4=>⟨q4,_,rfl,.inl ⟨aA.of ag,fun q5 nq5=>?_⟩⟩⟩
   ·rw [List.length_append,bW]
    lia
   have s5:=(ao (o:=.lst (aF ((s'.filter fun x=>!decide (x∈aH m.2.1))++aH m.2.2))) nq3).trans (ao (o:=.lst (aF (aH ((s'.filter fun x=>!decide (x∈aH m.2.1))++aH m.2.2)))) nq4)
   have sA:aq H H3:=s1.trans (sm.trans s3)
   refine k _ q5 ((sA.trans s5).trans (ao nq5)) ((sA.trans s5).free nq5) ?_
   rw [ag,← uN]
   rfl
def Dj(K:PySem.W.Frag)(C:Addr):Sp:=fun vs H Q _=>∃ (p a:Addr) (ms:List Mv) (st s:List Str),vs=[.ref p,.ref a]∧cc C H p ms st∧bO K H a (aF s)∧s.length≤50 ∧
 ∀ H' q,aq H H'→H q=none→H' q=some (.lst (aF (jq ms s)))→Q (.ref q) H'
def vE:aD ["net", "state", "supplied"] ["net", "state"] (au Ca):=eR
def yw:(("moves":Str) == "place_names")=false:=by decide +kernel
def zM:(("moves":Str) == "start_state")=false:=by decide +kernel
def zv:(("moves":Str) == "taken_by")=false:=by decide +kernel
def zC:(("moves":Str) == "given_by")=false:=by decide +kernel
def Er{f C:Addr}{fd:FuncData}(F:dv K "may" "may" Ca f fd)(CT:gU K C)(DM:jI P w K mg base C "moves" "Net.moves" oF ["self"] 1 (pW C))
  (DL:gJ P w K mg base "lacks_bead" lK ["net", "state", "move"] 4 (kb K C fun m s=>dB m.2.1 s))
  (DS:gJ P w K mg base "gives_second" j4 ["net", "state", "move"] 4 (kb K C fun m s=>second m.2.1 m.2.2 s)) :
  bo P w K mg base cS 5 f fd ["net", "state"] (Dj K C):=by
 refine F.oK vE fun cdv A outer s H vs Q E hr h=>?_
 ·obtain⟨p,a,ms,st,s',rfl,N,ha,hz,k⟩:=h
  refine⟨_,af (gf (j:=2) (N:=["move", "net", "state"]) (n:=1) (ci:=[0,1]) rfl vE.nd rfl rfl (aK (cq (pv 0) CT.cl DM.d.mt DM.g (hr.mono (by decide)) DM.d.bd .nil bz))
    (j6 vE)
    (fun z=>⟨jg 0,fg (cz (cf (eA DL hr (aa (pv 1) (aa (pv 2) (aa (pv 0) ae)))))),pv 0⟩))
   (ai (aI (bN (N:=["move", "net", "state"]) (n:=1) (ci:=[0,1]) rfl (aK (pv 2))
    (j6 vE)
    (fun z=>⟨jg 0,fg (cz (cf (eA DS hr (aa (pv 1) (aa (pv 2) (aa (pv 0) ae)))))),pv 0⟩)))),?_⟩
  obtain⟨dx,aP,aS,aT,aG,kT,kG,h1,_⟩:=N.at'.ob
  have l12:(names ms).length≤12:=by unfold names;rw [List.length_map];exact N.so.ml
  have hsl:=Ji
  refine⟨_,rfl,p,dx,_,rfl,h1,cW _ _ _ _ yw zM zv zC,p,ms,st,rfl,N,fun H1 q s1 nq hq=>?_⟩
  refine⟨q,rfl,⟨_,aA.of hq⟩,fun z D hD=>cy (a:=q) (xs:=aF (aH (names ms))) (fun i ys H2=>ys=aF (((aH (names ms)).take i).filter fun x=>!dD ms s' x)∧H2 D=some (.lst ys)∧aq H1 H2) ⟨rfl,ag,ao hD⟩ (fun i ys H2 _ p=>aA.of (p.2.2 _ _ hq)) ?_ ?_⟩
  ·rintro i v ys H2 hi ⟨rfl,hys,sm⟩
   obtain⟨x,hx,rfl⟩:=cZ hi
   obtain⟨m,hm,rfl⟩:=dc (IK hx)
   have hlen:(aF (((aH (names ms)).take i).filter fun x=>!dD ms s' x)).length<sizeLine:=by
    rw [aw,hsl]
    have:=JB (fun x=>!dD ms s' x) ((aH (names ms)).take i)
    rw [Jj,bW] at this
    lia
   refine⟨_,rfl,_,rfl,_,rfl,p,a,ms,st,s',m,rfl,N.same (s1.trans sm),hm,bY (s1.trans sm) ha,by lia,fun H3 s3=>⟨_,rfl,?_⟩⟩
   have el:dB m.2.1 s'=dD ms s' m.1:=by unfold dD;rw [ff N.so.nd hm]
   show if (!dB m.2.1 s')=true then _ else _
   rw [el]
   cases c1:dD ms s' m.1 with
   | true =>
    refine bB ⟨?_,s3 _ _ hys,sm.trans s3⟩
    rw [av hx,J9]
    simp [c1]
   | false =>
    refine bF ⟨_,rfl,s3 _ _ hys,hlen,?_,ag,aY (sm.trans s3) hD⟩
    rw [av hx,J9]
    unfold aF
    simp [c1]
  ·rintro ys H2 ⟨rfl,hys,sm⟩
   rw [aw,Jc] at hys
   generalize hL:(aH (names ms)).filter (fun x=>!dD ms s' x)=L at hys
   have LL:L.length≤12:=by
    rw [← hL]
    have:=JB (fun x=>!dD ms s' x) (aH (names ms))
    rw [bW] at this
    lia
   have Lm:∀ x∈L,∃ m∈ms,m.1=x:=fun x hx=>by
    rw [← hL] at hx
    exact dc (Jl.mp hx).1
   have sA:aq H H2:=s1.trans sm
   refine⟨_,rfl,D,rfl,⟨_,aA.of hys⟩,fun z D2 hD2=>cy (a:=D) (xs:=aF L) (fun i ys H3=>ys=aF ((L.take i).filter fun x=>!g0 ms s' x)∧H3 D2=some (.lst ys)∧aq H2 H3) ⟨rfl,ag,ao hD2⟩ (fun i ys H3 _ p=>aA.of (p.2.2 _ _ hys)) ?_ ?_⟩
   ·rintro i v ys H3 hi ⟨rfl,hys3,sm3⟩
    obtain⟨x,hx,rfl⟩:=cZ hi
    obtain⟨m,hm,rfl⟩:=Lm x (IK hx)
    have hlen:(aF ((L.take i).filter fun x=>!g0 ms s' x)).length<sizeLine:=by
     rw [aw,hsl]
     have:=JB (fun x=>!g0 ms s' x) (L.take i)
     rw [Jj] at this
     lia
    refine⟨_,rfl,_,rfl,_,rfl,p,a,ms,st,s',m,rfl,N.same (sA.trans sm3),hm,bY (sA.trans sm3) ha,by lia,fun H4 s4=>⟨_,rfl,?_⟩⟩
    have el:second m.2.1 m.2.2 s'=g0 ms s' m.1:=by unfold g0;rw [ff N.so.nd hm,gM N.so.nd hm]
    show if (!second m.2.1 m.2.2 s')=true then _ else _
    rw [el]
    cases c1:g0 ms s' m.1 with
    | true =>
     refine bB ⟨?_,s4 _ _ hys3,sm3.trans s4⟩
     rw [av hx,J9]
     simp [c1]
    | false =>
     refine bF ⟨_,rfl,s4 _ _ hys3,hlen,?_,ag,aY (sm3.trans s4) hD2⟩
     rw [av hx,J9]
     unfold aF
     simp [c1]
   ·rintro ys H3 ⟨rfl,hys3,sm3⟩
    rw [aw,Jc] at hys3
    refine k H3 D2 (sA.trans sm3) (sA.free hD2) ?_
    rw [hys3,← hL]
    rfl
end Uf
end
section
namespace UfBfs
variable {σ μ:Type}[DecidableEq σ]
structure G(σ μ:Type) where
 may:σ→List μ
 nxt:σ→μ→σ
 bad:σ→Option μ
inductive oj(g:G σ μ)(s:σ):List μ→σ→Prop where
 | nil:oj g s [] s
 | snoc {r:List μ} {t:σ} {m:μ}:oj g s r t→m∈g.may t→oj g s (r++[m]) (g.nxt t m)
def At(g:G σ μ)(s:σ)(k:Nat)(t:σ):Prop:=∃ r,r.length=k∧oj g s r t
def At.zero(g:G σ μ)(s:σ):At g s 0 s:=⟨[],rfl,.nil⟩
def At.succ{g:G σ μ}{s t:σ}{k:Nat}{m:μ}(h:At g s k t)(hm:m∈g.may t):At g s (k+1) (g.nxt t m):=by
 obtain⟨r,hl,hr⟩:=h
 exact⟨r++[m],by simp [hl],.snoc hr hm⟩
def At.inv{g:G σ μ}{s t:σ}{k:Nat}(h:At g s (k+1) t):∃ u m,At g s k u∧m∈g.may u∧t=g.nxt u m:=by
 obtain⟨r,hl,hr⟩:=h
 cases hr with
 | nil=>simp at hl
 | snoc hr hm=>exact⟨_,_,⟨_,by simpa using hl,hr⟩,hm,rfl⟩
def At.A4{g:G σ μ}{s t:σ}(h:At g s 0 t):t=s:=by
 obtain⟨r,hl,hr⟩:=h
 cases hr with
 | nil=>rfl
 | snoc hr hm=>simp at hl
def Told(g:G σ μ)(s:σ):Option (List μ)→Prop
 | none=>∀ k t,At g s k t→g.bad t=none
 | some row=>∃ r t m,row=r++[m]∧oj g s r t∧g.bad t=some m∧∀ k u,At g s k u→g.bad u≠none→r.length≤k
abbrev cA(σ μ:Type):=List (σ × Option (σ × μ))
def look(w:cA σ μ)(t:σ):Option (Option (σ × μ)):=(w.find? fun p=>decide (p.1=t)).map (·.2)
def oX{w:cA σ μ}{t:σ}:look w t=none↔t∉w.map (·.1):=by
 unfold look
 rw [Option.map_eq_none_iff,Ll]
 constructor
 ·intro h hm
  obtain⟨p,hp,e⟩:=IV.mp hm
  exact absurd (IL e) (by simpa using h p hp)
 ·intro h p hp
  simp only [Jo]
  intro e
  exact h (IV.mpr ⟨p,hp,e⟩)
def ik{w v:cA σ μ}{t:σ}:look (w++v) t=(look w t).or (look v t):=by
 unfold look
 rw [List.find?_append]
 cases List.find? (fun p=>decide (p.1=t)) w <;> simp
def eJ{w:cA σ μ}{t u:σ}{x:Option (σ × μ)}{y:Option (σ × μ)}(h:look w t=some y):look (w++[(u,x)]) t=some y:=by
 rw [ik,h];rfl
def jb{w:cA σ μ}{u:σ}{x:Option (σ × μ)}(h:look w u=none):look (w++[(u,x)]) u=some x:=by
 rw [ik,h]
 simp [look]
def iC(g:G σ μ)(t:σ)(acc:cA σ μ × List σ)(m:μ):cA σ μ × List σ :=
 if (look acc.1 (g.nxt t m)).isSome then acc else(acc.1++[(g.nxt t m,some (t,m))],acc.2++[g.nxt t m])
def tryAll(g:G σ μ)(acc:cA σ μ × List σ)(t:σ):cA σ μ × List σ:=(g.may t).foldl (iC g t) acc
def eZ(g:G σ μ)(ts:List σ)(w:cA σ μ):cA σ μ × List σ:=ts.foldl (tryAll g) (w,[])
def pairs(g:G σ μ)(ts:List σ):List (σ × μ):=ts.flatMap fun t=>(g.may t).map fun m=>(t,m)
theorem qY(g:G σ μ):∀ (ts:List σ) (acc:cA σ μ × List σ),ts.foldl (tryAll g) acc=(pairs g ts).foldl (fun a p=>iC g p.1 a p.2) acc
 | [],acc=>rfl
 | t::ts,acc=>by
  rw [JD,qY g ts]
  unfold pairs
  rw [List.flatMap_cons,Kn,List.foldl_map]
  rfl
def ki{g:G σ μ}{ts:List σ}{p:σ × μ}:p∈pairs g ts↔p.1∈ts∧p.2∈g.may p.1:=by
 unfold pairs
 rw [Me]
 constructor
 ·rintro⟨t,ht,hm⟩
  obtain⟨m,hm',rfl⟩:=IV.mp hm
  exact⟨ht,hm'⟩
 ·rintro⟨h1,h2⟩
  exact⟨p.1,h1,IV.mpr ⟨p.2,h2,rfl⟩⟩
structure IC(g:G σ μ)(w0:cA σ μ)(done:List (σ × μ))(w:cA σ μ)(r:List σ):Prop where
 old:∀ t x,look w0 t=some x→look w t=some x
 new:∀ t∈r,look w0 t=none∧∃ p∈done,t=g.nxt p.1 p.2∧look w t=some (some p)
 only:∀ t x,look w t=some x→look w0 t=some x∨t∈r
 full:∀ p∈done,∃ x,look w (g.nxt p.1 p.2)=some x
 keys:w.map (·.1)=w0.map (·.1)++r
 nd:(w0.map (·.1)).Nodup→(w.map (·.1)).Nodup
theorem mP(g:G σ μ)(w0:cA σ μ):∀ (ps done:List (σ × μ)) (w:cA σ μ) (r:List σ),IC g w0 done w r →
  IC g w0 (done++ps) (ps.foldl (fun a p=>iC g p.1 a p.2) (w,r)).1 (ps.foldl (fun a p=>iC g p.1 a p.2) (w,r)).2
 | [],done,w,r,h=>by simpa using h
 | p::ps,done,w,r,h=>by
  rw [JD]
  have e:done++p::ps=(done++[p])++ps:=by simp
  rw [e]
  cases hl:look w (g.nxt p.1 p.2) with
  | some x =>
   have e1:iC g p.1 (w,r) p.2=(w,r):=by unfold iC;rw [if_pos (by rw [hl];rfl)]
   rw [e1]
   refine mP g w0 ps (done++[p]) w r ⟨h.old,fun t ht=>?_,h.only,fun q hq=>?_,h.keys,h.nd⟩
   ·obtain⟨h1,q,hq,h2,h3⟩:=h.new t ht
    exact⟨h1,q,Jv _ hq,h2,h3⟩
   ·rcases Ja.mp hq with hq | hq
    ·exact h.full q hq
    ·have:q=p:=by simpa using hq
     subst this
     exact⟨x,hl⟩
  | none =>
   have e1:iC g p.1 (w,r) p.2=(w++[(g.nxt p.1 p.2,some p)],r++[g.nxt p.1 p.2]):=by
    unfold iC
    rw [if_neg (by rw [hl];simp)]
   rw [e1]
   have hw0:look w0 (g.nxt p.1 p.2)=none:=by
    cases q:look w0 (g.nxt p.1 p.2) with
    | none=>rfl
    | some x=>rw [h.old _ _ q] at hl;cases hl
   refine mP g w0 ps (done++[p]) _ _ ⟨fun t x q=>eJ (h.old t x q),fun t ht=>?_,fun t x q=>?_,fun q hq=>?_,?_,fun hn=>?_⟩
   ·rcases Ja.mp ht with ht | ht
    ·obtain⟨h1,q,hq,h2,h3⟩:=h.new t ht
     exact⟨h1,q,Jv _ hq,h2,eJ h3⟩
    ·have:t=g.nxt p.1 p.2:=by simpa using ht
     subst this
     exact⟨hw0,p,by simp,rfl,jb hl⟩
   ·cases q0:look w t with
    | some y =>
     rw [eJ q0] at q
     have e2:y=x:=Jk q
     subst e2
     rcases h.only t y q0 with z | z
     ·exact .inl z
     ·exact .inr (Jv _ z)
    | none =>
     rw [ik,q0] at q
     by_cases ht:g.nxt p.1 p.2=t
     ·exact .inr (by simp [ht])
     ·simp [look,ht] at q
   ·rcases Ja.mp hq with hq | hq
    ·obtain⟨x,hx⟩:=h.full q hq
     exact⟨x,eJ hx⟩
    ·have:q=p:=by simpa using hq
     subst this
     exact⟨_,jb hl⟩
   ·rw [List.map_append,h.keys]
    simp
   ·rw [List.map_append]
    have hk:=oX.mp hl
    refine JT.mpr ⟨h.nd hn,by simp,fun a ha b hb=>?_⟩
    have:b=g.nxt p.1 p.2:=by simpa using hb
    subst this
    rintro rfl
    exact hk ha
def oo(g:G σ μ)(ts:List σ)(w:cA σ μ):IC g w (pairs g ts) (eZ g ts w).1 (eZ g ts w).2:=by
 have h:=mP g w (pairs g ts) [] w [] ⟨fun _ _ q=>q,fun t ht=>by simp at ht,fun _ _ q=>.inl q,fun p hp=>by simp at hp,by simp,id⟩
 unfold eZ
 rw [qY]
 simpa using h
def fR(g:G σ μ)(s:σ)(k:Nat)(t:σ):Prop:=At g s k t∧∀ j,At g s j t→k≤j
def fR.uniq{g:G σ μ}{s t:σ}{k j:Nat}(h:fR g s k t)(h':fR g s j t):k=j:=Nat.le_antisymm (h.2 j h'.1) (h'.2 k h.1)
def At.dist{g:G σ μ}{s t:σ}:∀ {k:Nat},At g s k t→∃ j,j≤k∧fR g s j t:=by
 intro k
 induction k using Nat.strongRecOn with
 | ind k ih =>
  intro h
  by_cases hm:∀ j,At g s j t→k≤j
  ·exact⟨k,II _,h,hm⟩
  ·have ⟨j,hj⟩:=Classical.not_forall.mp hm
   have ⟨hj1,hj2⟩:=Classical.not_imp.mp hj
   obtain⟨i,hi,hd⟩:=ih j (by lia) hj1
   exact⟨i,by lia,hd⟩
def fR.pred{g:G σ μ}{s t:σ}{k:Nat}(h:fR g s (k+1) t):∃ u m,fR g s k u∧m∈g.may u∧t=g.nxt u m:=by
 obtain⟨u,m,hu,hm,e⟩:=h.1.inv
 refine⟨u,m,⟨hu,fun j hj=>?_⟩,hm,e⟩
 have:=h.2 (j+1) (by rw [e];exact hj.succ hm)
 lia
structure Good(g:G σ μ)(s:σ)(L:Nat)(w:cA σ μ)(ts:List σ):Prop where
 root:look w s=some none
 way:∀ t x,look w t=some x→∃ k,k≤L∧fR g s k t∧(match x with | none=>t=s | some (u,m)=>∃ j,k=j+1∧fR g s j u∧m∈g.may u∧t=g.nxt u m)
 all:∀ k t,k≤L→fR g s k t→∃ x,look w t=some x
 ts:∀ t,t∈ts↔fR g s L t
 fine:∀ k t,k<L→fR g s k t→g.bad t=none
def Good.start(g:G σ μ)(s:σ):Good g s 0 [(s,none)] [s]:=by
 have d0:fR g s 0 s:=⟨At.zero g s,fun _ _=>IU _⟩
 refine⟨by simp [look],fun t x h=>?_,fun k t hk h=>?_,fun t=>?_,fun k t hk=>absurd hk (Nat.not_lt_zero _)⟩
 ·by_cases ht:s=t
  ·subst ht
   have:x=none:=by simpa [look] using h.symm
   subst this
   exact⟨0,II _,d0,rfl⟩
  ·simp [look,ht] at h
 ·have:k=0:=by lia
  subst this
  have:=h.1.A4
  subst this
  exact⟨none,by simp [look]⟩
 ·constructor
  ·intro h
   have:t=s:=by simpa using h
   subst this
   exact d0
  ·intro h
   have:=h.1.A4
   simp [this]
def Good.next{g:G σ μ}{s:σ}{L:Nat}{w:cA σ μ}{ts:List σ}(h:Good g s L w ts)(hb:∀ t∈ts,g.bad t=none):Good g s (L+1) (eZ g ts w).1 (eZ g ts w).2:=by
 have lv:=oo g ts w
 have hnew:∀ t∈(eZ g ts w).2,fR g s (L+1) t∧∃ p:σ × μ,fR g s L p.1∧p.2∈g.may p.1∧t=g.nxt p.1 p.2∧look (eZ g ts w).1 t=some (some p):=fun t ht=>by
  obtain⟨h0,p,hp,e,hl⟩:=lv.new t ht
  obtain⟨p1,p2⟩:=ki.mp hp
  have dp:=(h.ts p.1).mp p1
  have at1:At g s (L+1) t:=by rw [e];exact dp.1.succ p2
  refine⟨⟨at1,fun j hj=>?_⟩,p,dp,p2,e,hl⟩
  obtain⟨i,hi,di⟩:=hj.dist
  by_cases hiL:i≤L
  ·obtain⟨x,hx⟩:=h.all i t hiL di
   rw [h0] at hx
   cases hx
  ·lia
 refine⟨lv.old _ _ h.root,fun t x hx=>?_,fun k t hk hd=>?_,fun t=>⟨fun ht=>(hnew t ht).1,fun hd=>?_⟩,fun k t hk hd=>?_⟩
 ·rcases lv.only t x hx with q | q
  ·obtain⟨k,hk,hd,hx⟩:=h.way t x q
   exact⟨k,by lia,hd,hx⟩
  ·obtain⟨hd,p,dp,pm,e,hl⟩:=hnew t q
   rw [hl] at hx
   cases hx
   exact⟨L+1,II _,hd,L,rfl,dp,pm,e⟩
 ·by_cases hkL:k≤L
  ·obtain⟨x,hx⟩:=h.all k t hkL hd
   exact⟨x,lv.old _ _ hx⟩
  ·have:k=L+1:=by lia
   subst this
   obtain⟨u,m,du,hm,e⟩:=hd.pred
   rw [e]
   exact lv.full (u,m) (ki.mpr ⟨(h.ts u).mpr du,hm⟩)
 ·obtain⟨u,m,du,hm,e⟩:=hd.pred
  obtain⟨x,hx⟩:=lv.full (u,m) (ki.mpr ⟨(h.ts u).mpr du,hm⟩)
  rw [← e] at hx
  rcases lv.only t x hx with q | q
  ·obtain⟨k,hk,hd',_⟩:=h.way t x q
   have:=hd.uniq hd'
   lia
  ·exact q
 ·by_cases hkL:k<L
  ·exact h.fine k t hkL hd
  ·have:k=L:=by lia
   subst this
   exact hb t ((h.ts t).mpr hd)
theorem Good.none{g:G σ μ}{s:σ}{L:Nat}{w:cA σ μ}(h:Good g s L w []):Told g s (none:Option (List μ)):=by
 have far:∀ d k t,k=L+d→¬ fR g s k t:=by
  intro d
  induction d with
  | zero =>
   rintro k t rfl hd
   have:=(h.ts t).mpr hd
   simp at this
  | succ d ih =>
   rintro k t rfl hd
   obtain⟨u,_,du,_⟩:=fR.pred (k:=L+d) hd
   exact ih _ u rfl du
 intro k t hk
 obtain⟨j,_,dj⟩:=hk.dist
 by_cases hj:j<L
 ·exact h.fine j t hj dj
 ·exact absurd dj (far (j-L) j t (by lia))
def gc(w:cA σ μ):Nat→σ→List μ
 | 0,_=>[]
 | n+1,t=>match look w t with
  | some (some (u,m))=>gc w n u++[m]
  | _=>[]
theorem Good.row{g:G σ μ}{s:σ}{L:Nat}{w:cA σ μ}{ts:List σ}(h:Good g s L w ts):∀ (k:Nat) (t:σ),k≤L→fR g s k t→oj g s (gc w k t) t∧(gc w k t).length=k
 | 0,t,_,hd=>by
  have:=hd.1.A4
  subst this
  exact⟨.nil,rfl⟩
 | k+1,t,hk,hd=>by
  obtain⟨x,hx⟩:=h.all (k+1) t hk hd
  obtain⟨j,hj,hd',hm⟩:=h.way t x hx
  have e:j=k+1:=hd'.uniq hd
  subst e
  cases x with
  | none =>
   have:t=s:=hm
   subst this
   have:=hd.2 0 (At.zero g t)
   lia
  | some um =>
   obtain⟨u,m⟩:=um
   obtain⟨i,ei,du,hmay,et⟩:=hm
   have:i=k:=by lia
   subst this
   obtain⟨q1,q2⟩:=Good.row h i u (by lia) du
   unfold gc
   rw [hx]
   dsimp only
   refine⟨?_,by simp [q2]⟩
   rw [et]
   exact .snoc q1 hmay
theorem Good.some{g:G σ μ}{s t:σ}{L:Nat}{w:cA σ μ}{ts:List σ}{m:μ}(h:Good g s L w ts)(ht:t∈ts)(hb:g.bad t=some m):Told g s (some (gc w L t++[m])):=by
 have hd:=(h.ts t).mp ht
 obtain⟨q1,q2⟩:=h.row L t (II _) hd
 refine⟨_,t,m,rfl,q1,hb,fun k u hk hu=>?_⟩
 rw [q2]
 obtain⟨j,hj,dj⟩:=hk.dist
 by_cases hjL:j<L
 ·exact absurd (h.fine j u hjL dj) hu
 ·lia
end UfBfs
end
section
namespace UfBfs
variable {σ μ:Type}[DecidableEq σ]
structure QI(g:G σ μ)(s:σ)(k:Nat)(ws:List (σ × Nat)):Prop where
 nd:(ws.map (·.1)).Nodup
 dist:∀ p∈ws,fR g s p.2 p.1
 mono:ws.Pairwise fun p q=>p.2≤q.2
 head:ws[0]?=some (s,0)
 closed:∀ p∈ws.take k,∀ m∈g.may p.1,g.nxt p.1 m∈ws.map (·.1)
 fine:∀ p∈ws.take k,g.bad p.1=none
 near:∀ q,ws[k]?=some q→∀ p∈ws,p.2≤q.2+1
end UfBfs
end
section
namespace Uf
open PySem L2 UfSrt
def HQ:Option Str→V
 | some x=>.str x
 | none=>.non
def BJ{L:List Str}{p:Str→Bool}{i:Nat}{x:Str}(hx:L[i]?=some x)(hp:p x=true)(hb:∀ y∈L.take i,p y=false):L.find? p=some x:=by
 have e:L=L.take i++(x::L.drop (i+1)):=by
  have hi:=(IM.mp hx).1
  have e2:L.drop i=x::L.drop (i+1):=by
   rw [K5 hi]
   rw [IG hi] at hx
   rw [Jk hx]
  rw [← e2,Kg]
 rw [e,List.find?_append]
 have n:(L.take i).find? p=none:=Ll.mpr fun y hy=>by rw [hb y hy];simp
 rw [n]
 simp [hp]
def oU(K:PySem.W.Frag)(C:Addr):Sp:=fun vs H Q _=>∃ (p a:Addr) (ms:List Mv) (st s:List Str),vs=[.ref p,.ref a]∧cc C H p ms st∧bO K H a (aF s)∧s.length≤50∧∀ H',aq H H'→Q (HQ (hX ms s)) H'
def og:aD ["net", "state", "move"] ["net", "state"] (au j5):=eR
def uc{f C:Addr}{fd:FuncData}(F:dv K "crowder" "crowder" j5 f fd)(CT:gU K C)(DM:jI P w K mg base C "moves" "Net.moves" oF ["self"] 1 (pW C))
  (DL:gJ P w K mg base "lacks_bead" lK ["net", "state", "move"] 4 (kb K C fun m s=>dB m.2.1 s))
  (DS:gJ P w K mg base "gives_second" j4 ["net", "state", "move"] 4 (kb K C fun m s=>second m.2.1 m.2.2 s)) :
  bo P w K mg base cS 5 f fd ["net", "state"] (oU K C):=by
 refine F.oK og fun cdv A outer s H vs Q E hr h=>?_
 ·obtain⟨p,a,ms,st,s',rfl,N,ha,hz,k⟩:=h
  refine⟨_,af (bq IT rfl (aK (cq (pv 0) CT.cl DM.d.mt DM.g (hr.mono (by decide)) DM.d.bd .nil bz)) (dX 2 og)
    (ai (bH (PW.pt (pw_and (cz (cf (eA DL hr (aa (pv 0) (aa (pv 1) (aa (pv 2) ae)))))) (pw_and1 (cf (eA DS hr (aa (pv 0) (aa (pv 1) (aa (pv 2) ae)))))))) (ai (aI (pv 2))) aU)))
   (ai (aI ir)),?_⟩
  obtain⟨dx,aP,aS,aT,aG,kT,kG,h1,_⟩:=N.at'.ob
  refine⟨_,rfl,p,dx,_,rfl,h1,cW _ _ _ _ yw zM zv zC,p,ms,st,rfl,N,fun H1 q s1 nq hq=>?_⟩
  refine⟨q,rfl,⟨_,aA.of hq⟩,br (K:=K) (a:=q) (xs:=aF (aH (names ms))) (fun i σ H2=>∃ v:Option V,σ=[some (.ref p),some (.ref a),v]∧aq H1 H2∧∀ y∈(aH (names ms)).take i,(!dD ms s' y&&g0 ms s' y)=false)
   ⟨none,rfl,aq.refl _,fun y hy=>by simp at hy⟩ (fun i σ H2 _ ⟨_,_,sm,_⟩=>aA.of (sm _ _ hq)) ?_ ?_⟩
  ·rintro i v σ H2 hi ⟨v0,rfl,sm,hb⟩
   obtain⟨x,hx,rfl⟩:=cZ hi
   obtain⟨m,hm,rfl⟩:=dc (IK hx)
   have sA:aq H H2:=s1.trans sm
   refine⟨_,rfl,_,rfl,_,rfl,p,a,ms,st,s',m,rfl,N.same sA,hm,bY sA ha,by lia,fun H3 s3=>⟨_,rfl,?_⟩⟩
   have el:dB m.2.1 s'=dD ms s' m.1:=by unfold dD;rw [ff N.so.nd hm]
   have es:second m.2.1 m.2.2 s'=g0 ms s' m.1:=by unfold g0;rw [ff N.so.nd hm,gM N.so.nd hm]
   show if (!dB m.2.1 s')=true then _ else _
   rw [el]
   have more:(!dD ms s' m.1&&g0 ms s' m.1)=false→∀ y∈(aH (names ms)).take (i+1),(!dD ms s' y&&g0 ms s' y)=false:=fun e y hy=>by
    rw [av hx] at hy
    rcases Ja.mp hy with hy | hy
    ·exact hb y hy
    ·have:y=m.1:=by simpa using hy
     rw [this]
     exact e
   cases c1:dD ms s' m.1 with
   | true =>
    refine bB ?_
    refine bB ?_
    exact⟨_,rfl,sm.trans s3,more (by rw [c1];rfl)⟩
   | false =>
    refine bF ?_
    refine⟨_,rfl,_,rfl,_,rfl,p,a,ms,st,s',m,rfl,N.same (sA.trans s3),hm,bY (sA.trans s3) ha,by lia,fun H4 s4=>⟨_,rfl,?_⟩⟩
    show if second m.2.1 m.2.2 s'=true then _ else _
    rw [es]
    cases c2:g0 ms s' m.1 with
    | false =>
     refine bB ?_
     exact⟨_,rfl,(sm.trans s3).trans s4,more (by rw [c1,c2];rfl)⟩
    | true =>
     refine bF ?_
     refine⟨_,rfl,?_⟩
     have e:hX ms s'=some m.1:=BJ hx (by rw [c1,c2];rfl) hb
     have q1:=k H4 (sA.trans (s3.trans s4))
     rw [e] at q1
     exact q1
  ·rintro σ H2 ⟨v0,rfl,sm,hb⟩
   rw [aw,Jc] at hb
   have e:hX ms s'=none:=Ll.mpr fun y hy=>by rw [hb y hy];simp
   have q1:=k H2 (s1.trans sm)
   rw [e] at q1
   exact q1
end Uf
end
section
namespace Uf
open PySem L2 UfSrt UfFin
def graph(ms:List Mv):UfBfs.G (List Str) Str:=⟨jq ms,cO ms,hX ms⟩
def ju(t:List Str):List Key:=t.map Sum.inr
def lx(t:List Str):(ju t).map kV=aF t:=by
 unfold ju aF
 rw [List.map_map]
 rfl
theorem ph:∀ {t u:List Str},ju t=ju u→t=u
 | [],[],_=>rfl
 | [],_::_,h=>by simp [ju] at h
 | _::_,[],h=>by simp [ju] at h
 | x::t,y::u,h=>by
  unfold ju at h
  rw [JG,JG] at h
  obtain⟨h1,h2⟩:=List.cons.inj h
  have e:x=y:=by injection h1
  rw [e,ph (t:=t) (u:=u) h2]
def mq(H:Hp)(a:Addr)(ts:List (List Str)):Prop:=∃ qs:List Addr,H a=some (.lst (qs.map V.ref))∧Paired (fun t q=>H q=some (.tup (aF t))) ts qs
def uh(H:Hp)(x:Option (List Str × Str))(v:V):Prop:=match x with
 | none=>v=.non
 | some (u,m)=>∃ q b,v=.ref q∧H q=some (.tup [.ref b,.str m])∧H b=some (.tup (aF u))
def uP(H H':Hp):Prop:=∀ b xs,H b=some (.tup xs)→H' b=some (.tup xs)
def _root_.L2.aq.dh{H H':Hp}(s:aq H H'):uP H H':=fun b xs e=>s b _ e
def m7{H:Hp}{a:Addr}{o u:HO}(e:H a=some o)(n:∀ xs,o≠.tup xs):uP H (upd H a u):=fun b xs q=>by
 rw [ah (aJ q e (fun z=>n xs z.symm))]
 exact q
def uh.dh{H H':Hp}{x:Option (List Str × Str)}{v:V}(s:uP H H')(h:uh H x v):uh H' x v:=by
 cases x with
 | none=>exact h
 | some p =>
  obtain⟨q,b,h1,h2,h3⟩:=h
  exact⟨q,b,h1,s _ _ h2,s _ _ h3⟩
abbrev WP(H:Hp):UfBfs.cA (List Str) Str→List (List Key × V)→Prop:=Paired fun p kv=>kv.1=ju p.1∧uh H p.2 kv.2
def jf(H:Hp)(d:Addr)(w:UfBfs.cA (List Str) Str):Prop:=∃ kvs,H d=some (.dT kvs)∧WP H w kvs
theorem WP.dh{H H':Hp}{w:UfBfs.cA (List Str) Str}{kvs:List (List Key × V)}(s:uP H H')(h:WP H w kvs):WP H' w kvs:=Paired.cu h fun _ _ z=>⟨z.1,z.2.dh s⟩
theorem WP.none{H:Hp}{t:List Str}:∀ {w:UfBfs.cA (List Str) Str} {kvs:List (List Key × V)},WP H w kvs→UfBfs.look w t=none→de kvs (ju t)=.none
 | _,_,.nil,_=>rfl
 | p::w,kv::kvs,.cons h r,e=>by
  by_cases ht:p.1=t
  ·simp [UfBfs.look,ht] at e
  ·have e':UfBfs.look w t=Option.none:=by simpa [UfBfs.look,ht] using e
   rw [cj (fun z=>ht (ph (h.1.symm.trans z)))]
   exact WP.none r e'
theorem WP.some{H:Hp}{t:List Str}{x:Option (List Str × Str)}:∀ {w:UfBfs.cA (List Str) Str} {kvs:List (List Key × V)},WP H w kvs→UfBfs.look w t=some x→∃ v,de kvs (ju t)=.some v∧uh H x v
 | _,_,.nil,e=>by simp [UfBfs.look] at e
 | p::w,kv::kvs,.cons h r,e=>by
  by_cases ht:p.1=t
  ·have e':p.2=x:=by simpa [UfBfs.look,ht] using e
   refine⟨kv.2,cx (by rw [h.1,ht]),?_⟩
   rw [← e']
   exact h.2
  ·have e':UfBfs.look w t=Option.some x:=by simpa [UfBfs.look,ht] using e
   rw [cj (fun z=>ht (ph (h.1.symm.trans z)))]
   exact WP.some r e'
structure iV(ms:List Mv)(st t:List Str):Prop where
 ris:cQ t
 sub:∀ x∈t,x∈cF ms st
def rX(ms:List Mv)(st:List Str):cQ (cF ms st):=cQ.aH (UfSet.mh _)
def iV.len{ms:List Mv}{st t:List Str}(so:Sound ms st)(h:iV ms st t):t.length≤12:=Jf (dI h.ris.nd h.sub) so.pl
def ug{ms:List Mv}{st:List Str}(so:Sound ms st){l:List (List Str)}(hn:l.Nodup)(h:∀ t∈l,iV ms st t):l.length≤4096:=by
 have h1:=dI hn fun t ht=>(h t ht).ris.vo (rX ms st) (h t ht).sub
 rw [mR] at h1
 refine Jf h1 (Jf (Jr (by decide) so.pl) (by decide))
def jW{ms:List Mv}{st:List Str}{x:Str}:x∈cF ms st↔x∈st∨∃ m∈ms,x∈m.2.1∨x∈m.2.2:=by
 unfold cF
 rw [bE,UfSet.qb,Ja]
 unfold kC
 rw [Me]
 simp only [Ja]
def uR{ms:List Mv}{st:List Str}(so:Sound ms st):iV ms st (aH st):=⟨cQ.aH (dE so.su),fun x hx=>jW.mpr (.inl (bE.mp hx))⟩
def Bj{ms:List Mv}{t:List Str}{x:Str}:x∈jq ms t↔x∈names ms∧dD ms t x=false∧g0 ms t x=false:=by
 unfold jq
 rw [Jl,Jl,bE]
 simp [and_assoc]
def wU{ms:List Mv}{st t:List Str}{m:Mv}(so:Sound ms st)(h:iV ms st t)(hm:m∈ms)(hs:second m.2.1 m.2.2 t=false):iV ms st (behind m.2.1 m.2.2 t):=by
 obtain⟨_,u2,_⟩:=fY (so.mv m hm)
 have gn:m.2.2.Nodup:=dE u2
 refine⟨cQ.aH (JT.mpr ⟨h.ris.nd.sublist LG,gn,fun a ha b hb=>?_⟩),fun x hx=>?_⟩
 ·rintro rfl
  obtain⟨h1,h2⟩:=Jl.mp ha
  have h3:second m.2.1 m.2.2 t=true:=Kr.mpr ⟨a,hb,by simp at h2;simp [h1,h2]⟩
  rw [hs] at h3
  cases h3
 ·unfold behind at hx
  rcases Ja.mp (bE.mp hx) with z | z
  ·exact h.sub x (Jl.mp z).1
  ·exact jW.mpr (.inr ⟨m,hm,.inr z⟩)
def yZ{ms:List Mv}{st t:List Str}{x:Str}(so:Sound ms st)(h:iV ms st t)(hx:x∈jq ms t):∃ m∈ms,m.1=x∧dB m.2.1 t=false∧second m.2.1 m.2.2 t=false∧cO ms t x=behind m.2.1 m.2.2 t∧iV ms st (cO ms t x):=by
 obtain⟨h1,h2,h3⟩:=Bj.mp hx
 obtain⟨m,hm,rfl⟩:=IV.mp h1
 unfold dD at h2
 unfold g0 at h3
 rw [ff so.nd hm] at h2 h3
 rw [gM so.nd hm] at h3
 have e:cO ms t m.1=behind m.2.1 m.2.2 t:=by
  unfold cO
  rw [ff so.nd hm,gM so.nd hm]
 exact⟨m,hm,rfl,h2,h3,e,by rw [e];exact wU so h hm h3⟩
def cc.but{C:Addr}{H H':Hp}{p d:Addr}{ms:List Mv}{st:List Str}{kvs:List (List Key × V)}(hd:H d=some (.dT kvs))(b:jr d H H')(h:cc C H p ms st):cc C H' p ms st:=by
 obtain⟨⟨dx,aP,aS,aT,aG,kT,kG,h1,h2,h3,h4,h5,h6,h7⟩,so⟩:=h
 have up:∀ {c:Addr} {o:HO},H c=some o→(∀ k,o≠.dT k)→H' c=some o:=fun e n=>b _ _ e (aJ e hd (n _))
 exact⟨⟨dx,aP,aS,aT,aG,kT,kG,up h1 (fun _ z=>nomatch z),up h2 (fun _ z=>nomatch z),up h3 (fun _ z=>nomatch z),up h4 (fun _ z=>nomatch z),up h5 (fun _ z=>nomatch z),h6.same fun c xs e=>up e (fun _ z=>nomatch z),h7.same fun c xs e=>up e (fun _ z=>nomatch z)⟩,so⟩
structure Acc(ms:List Mv)(st:List Str)(acc:UfBfs.cA (List Str) Str × List (List Str)):Prop where
 nd:(acc.1.map (·.1)).Nodup
 fine:∀ t∈acc.1.map (·.1),iV ms st t
 len:acc.2.length≤acc.1.length
def Acc.try{ms:List Mv}{st t:List Str}{acc:UfBfs.cA (List Str) Str × List (List Str)}{m:Str}(h:Acc ms st acc)(hf:iV ms st (cO ms t m)):Acc ms st (UfBfs.iC (graph ms) t acc m):=by
 unfold UfBfs.iC
 show Acc ms st (if (UfBfs.look acc.1 (cO ms t m)).isSome=true then acc else(acc.1++[(cO ms t m,some (t,m))],acc.2++[cO ms t m]))
 cases e:UfBfs.look acc.1 (cO ms t m) with
 | some x=>exact h
 | none =>
  have hn:=UfBfs.oX.mp e
  refine⟨?_,fun u hu=>?_,by have:=h.len;simp;lia⟩
  ·show((acc.1++[(cO ms t m,some (t,m))]).map (·.1)).Nodup
   rw [List.map_append]
   refine JT.mpr ⟨h.nd,by simp,fun a ha b hb=>?_⟩
   have:b=cO ms t m:=by simpa using hb
   subst this
   rintro rfl
   exact hn ha
  ·have hu:u∈(acc.1++[(cO ms t m,some (t,m))]).map (·.1):=hu
   rw [List.map_append] at hu
   rcases Ja.mp hu with z | z
   ·exact h.fine u z
   ·have:u=cO ms t m:=by simpa using z
    rw [this]
    exact hf
def Acc.i9{ms:List Mv}{st:List Str}{acc:UfBfs.cA (List Str) Str × List (List Str)}(so:Sound ms st)(h:Acc ms st acc):acc.1.length≤4096:=by
 have:=ug so h.nd h.fine
 rw [List.length_map] at this
 exact this
def vW(C:Addr):Sp:=fun vs H Q _=>∃ (p a d:Addr) (ms:List Mv) (st:List Str) (ts:List (List Str)) (wy:UfBfs.cA (List Str) Str),vs=[.ref p,.ref a,.ref d]∧cc C H p ms st∧mq H a ts∧jf H d wy∧(∀ t∈ts,iV ms st t)∧Acc ms st (wy,[]) ∧
 ∀ H' q,jr d H H'→H q=none→mq H' q (UfBfs.eZ (graph ms) ts wy).2→jf H' d (UfBfs.eZ (graph ms) ts wy).1→Acc ms st (UfBfs.eZ (graph ms) ts wy)→Q (.ref q) H'
def jX:aD ["net", "states", "ways", "reached", "state", "move", "behind"] ["net", "states", "ways"] (au qm):=eR
inductive Io(H:Hp)(p a d r:Addr)(ms:List Mv)(st:List Str)(ts:List (List Str))(wy:UfBfs.cA (List Str) Str)(i:Nat)(σ:St)(H2:Hp):Prop
 | mk (v4 v5 v6:Option V) (acc:UfBfs.cA (List Str) Str × List (List Str)) (q0:acc=(ts.take i).foldl (UfBfs.tryAll (graph ms)) (wy,[])) (q1:σ=[some (.ref p),some (.ref a),some (.ref d),some (.ref r),v4,v5,v6]) (q2:jr d H H2) (q3:mq H2 r acc.2) (q4:jf H2 d acc.1) (q5:Acc ms st acc)
inductive HR(H:Hp)(p a d r tq q:Addr)(ms:List Mv)(st t:List Str)(acc:UfBfs.cA (List Str) Str × List (List Str))(j:Nat)(σ:St)(H4:Hp):Prop
 | mk (v5 v6:Option V) (acc':UfBfs.cA (List Str) Str × List (List Str)) (q0:acc'=((jq ms t).take j).foldl (UfBfs.iC (graph ms) t) acc) (q1:σ=[some (.ref p),some (.ref a),some (.ref d),some (.ref r),some (.ref tq),v5,v6]) (q2:jr d H H4) (q3:H4 q=some (.lst (aF (jq ms t)))) (q4:mq H4 r acc'.2) (q5:jf H4 d acc'.1) (q6:Acc ms st acc')
def Io.but{H:Hp}{p a d r:Addr}{ms:List Mv}{st:List Str}{ts:List (List Str)}{wy:UfBfs.cA (List Str) Str}{i:Nat}{σ:St}{H2:Hp}(h:Io H p a d r ms st ts wy i σ H2):jr d H H2:=by
 cases h
 assumption
def HR.at_{H:Hp}{p a d r tq q:Addr}{ms:List Mv}{st t:List Str}{acc:UfBfs.cA (List Str) Str × List (List Str)}{j:Nat}{σ:St}{H4:Hp}(h:HR H p a d r tq q ms st t acc j σ H4):H4 q=some (.lst (aF (jq ms t))):=by
 cases h
 assumption
def yP{f C:Addr}{fd:FuncData}(F:dv K "newly_reached" "newly_reached" qm f fd)
  (DM:gJ P w K mg base "may" Ca ["net", "state"] 5 (Dj K C))
  (DB:gJ P w K mg base "state_behind" kS ["net", "state", "move"] 4 (rf K C)) :
  bo P w K mg base cS 6 f fd ["net", "states", "ways"] (vW C):=by
 refine F.oK jX fun cdv A outer s H vs Q E hr h=>?_
 ·obtain⟨p,a,d,ms,st,ts,wy,rfl,N,⟨qs,hq,hp⟩,⟨kvs0,hd0,wp0⟩,hts,ac0,k⟩:=h
  have hu:=dY hr
  refine⟨_,af (cB 3 jX (dR ae))
   (af (bq IT rfl (aK (pv 1)) (dX 4 jX)
    (ai (bq IT rfl (aK (eA DM hr (aa (pv 0) (aa (pv 4) ae)))) (dX 5 jX)
     (af (cB 6 jX (eA DB (hr.mono (by decide)) (aa (pv 0) (aa (pv 4) (aa (pv 5) ae)))))
      (ai (bH (ke (oE hu (pv 6) (pv 2)))
       (af (fX hu (pv 2) (pv 6) (fD (aa (pv 4) (aa (pv 5) ae))) rfl)
        (ai (a9 (cR Jb IZ I0 aV (pv 3) (aa (pv 6) ae))))) aU))))))
   (ai (aI (pv 3)))),?_⟩
  clear hu
  dsimp only [iR,Cx.vG]
  refine⟨IU _,fun r nr=>?_⟩
  have s0:aq H (upd H r (.lst [])):=ao nr
  have so:=N.so
  have hsl:=Ji
  have nda:a≠d:=aJ hq hd0 (fun z=>nomatch z)
  refine⟨_,rfl,a,rfl,⟨_,aA.of (s0 _ _ hq)⟩,br (K:=K) (a:=a) (xs:=qs.map V.ref) (Io H p a d r ms st ts wy)
   ⟨none,none,none,(wy,[]),rfl,rfl,fun c o e _=>s0 _ _ e,⟨[],ag,.nil⟩,⟨kvs0,s0 _ _ hd0,wp0.dh s0.dh⟩,ac0⟩ (fun i σ H2 _ h=>aA.of (h.but _ _ hq nda)) ?_ ?_⟩
  ·rintro i v σ H2 hi ⟨v4,v5,v6,acc,ea,rfl,b2,S2,W2,ac2⟩
   obtain⟨tq,hqi,rfl⟩:=fF hi
   obtain⟨t,ht,htq⟩:=bA hp hqi
   have hft:iV ms st t:=hts t (IK ht)
   have ntd:tq≠d:=aJ htq hd0 (fun z=>nomatch z)
   have htq2:=b2 _ _ htq ntd
   refine⟨_,rfl,_,rfl,p,tq,ms,st,t,rfl,N.but hd0 b2,bO.of htq2,by have:=hft.len so;lia,fun H3 q s3 nq hq3=>?_⟩
   obtain⟨rs2,hr2,hrp2⟩:=S2
   obtain⟨kvs2,hd2,wp2⟩:=W2
   have nqd:d≠q:=aj hd2 nq
   have nqr:r≠q:=aj hr2 nq
   have ets:ts.take (i+1)=ts.take i++[t]:=av ht
   refine⟨q,rfl,⟨_,aA.of hq3⟩,br (K:=K) (a:=q) (xs:=aF (jq ms t)) (HR H p a d r tq q ms st t acc)
    ⟨v5,v6,acc,rfl,rfl,b2.then s3,hq3,⟨rs2,s3 _ _ hr2,Paired.cu hrp2 fun _ _ e=>s3 _ _ e⟩,⟨kvs2,s3 _ _ hd2,wp2.dh s3.dh⟩,ac2⟩ (fun j σ H4 _ h=>aA.of h.at_) ?_ ?_⟩
   ·rintro j v σ H4 hj ⟨v5,v6,acc',ea',rfl,b4,hq4,S4,W4,ac4⟩
    obtain⟨x,hx,rfl⟩:=cZ hj
    obtain⟨m,hm,rfl,_,hsec,eb,hfb⟩:=yZ so hft (IK hx)
    refine⟨_,rfl,_,rfl,_,rfl,p,tq,ms,st,t,m,rfl,N.but hd0 b4,hm,bO.of (b4 _ _ htq ntd),by have:=hft.len so;lia,fun H5 q5 s5 nq5 hq5=>?_⟩
    obtain⟨rs4,hr4,hrp4⟩:=S4
    obtain⟨kvs4,hd4,wp4⟩:=W4
    have hd5:=s5 _ _ hd4
    have hr5:=s5 _ _ hr4
    have wp5:WP H5 acc'.1 kvs4:=wp4.dh s5.dh
    have hrp5:=Paired.cu hrp4 fun t q (e:H4 q=some (.tup (aF t)))=>s5 q _ e
    have hq5k:H5 q5=some (.tup ((ju (cO ms t m.1)).map kV)):=by rw [lx,eb];exact hq5
    have etk:(jq ms t).take (j+1)=(jq ms t).take j++[m.1]:=av hx
    have efold:((jq ms t).take (j+1)).foldl (UfBfs.iC (graph ms) t) acc=UfBfs.iC (graph ms) t acc' m.1:=by rw [etk,Kn,← ea'];rfl
    have i9:=ac4.i9 so
    have lkv:kvs4.length=acc'.1.length:=(IX wp4).symm
    have lrs:rs4.length=acc'.2.length:=(IX hrp4).symm
    have al:=ac4.len
    refine⟨_,rfl,_,rfl,d,_,rfl,fz.t hd5 hq5k,_,rfl,?_⟩
    cases hl:UfBfs.look acc'.1 (cO ms t m.1) with
    | some y =>
     obtain⟨v,hv,_⟩:=wp5.some hl
     rw [hv]
     refine bB ?_
     have e1:UfBfs.iC (graph ms) t acc' m.1=acc':=by
      unfold UfBfs.iC
      exact if_pos (by show(UfBfs.look acc'.1 (cO ms t m.1)).isSome=true;rw [hl];rfl)
     exact⟨_,_,acc',by rw [efold,e1],rfl,b4.then s5,s5 _ _ hq4,⟨rs4,hr5,hrp5⟩,⟨kvs4,hd5,wp5⟩,ac4⟩
    | none =>
     rw [wp5.none hl]
     refine bF ?_
     have e1:UfBfs.iC (graph ms) t acc' m.1=(acc'.1++[(cO ms t m.1,some (t,m.1))],acc'.2++[cO ms t m.1]):=by
      unfold UfBfs.iC
      exact if_neg (by show ¬(UfBfs.look acc'.1 (cO ms t m.1)).isSome=true;rw [hl];simp)
     refine⟨_,rfl,_,rfl,by show 2≤sizeLine;lia,fun q6 nq6=>?_⟩
     have s6:aq H5 (upd H5 q6 (.tup [.ref tq,.str m.1])):=ao nq6
     have hd6:=s6 _ _ hd5
     have hr6:=s6 _ _ hr5
     have h6:(upd H5 q6 (.tup [.ref tq,.str m.1])) q6=some (.tup [.ref tq,.str m.1]):=ag
     have b6:jr d H (upd H5 q6 (.tup [.ref tq,.str m.1])):=(b4.then s5).then s6
     have wp6:=wp5.dh s6.dh
     have hrp6:=Paired.cu hrp5 fun t q (e:H5 q=some (.tup (aF t)))=>s6 q _ e
     have hq6k:=s6 _ _ hq5k
     have hq6:=s6 _ _ hq5
     have hqq6:=s6 _ _ (s5 _ _ hq4)
     have htq6:=b6 _ _ htq ntd
     generalize upd H5 q6 (.tup [.ref tq,.str m.1])=H6 at s6 hd6 hr6 h6 b6 wp6 hrp6 hq6k hq6 hqq6 htq6 ⊢
     refine⟨_,rfl,_,rfl,d,_,rfl,jN.t hd6 hq6k (by lia),?_⟩
     have pk:putK kvs4 (ju (cO ms t m.1)) (V.ref q6)=kvs4++[(ju (cO ms t m.1),V.ref q6)]:=jA _ (wp5.none hl)
     rw [pk]
     have t7:uP H6 (upd H6 d (.dT (kvs4++[(ju (cO ms t m.1),V.ref q6)]))):=m7 hd6 (fun _ z=>nomatch z)
     have nrd:r≠d:=aJ hr6 hd6 (fun z=>nomatch z)
     have nqd6:q≠d:=aJ hqq6 hd6 (fun z=>nomatch z)
     have hr7:(upd H6 d (.dT (kvs4++[(ju (cO ms t m.1),V.ref q6)]))) r=some (.lst (rs4.map V.ref)):=by rw [ah nrd];exact hr6
     refine⟨_,rfl,.inl ⟨rfl,_,aA.of hr7⟩,_,rfl,r,_,_,rfl,rfl,hr7,by rw [List.length_map];lia,?_⟩
     have hd7:(upd H6 d (.dT (kvs4++[(ju (cO ms t m.1),V.ref q6)]))) d=some (.dT (kvs4++[(ju (cO ms t m.1),V.ref q6)])):=ag
     have hq7:(upd H6 d (.dT (kvs4++[(ju (cO ms t m.1),V.ref q6)]))) q=some (.lst (aF (jq ms t))):=by rw [ah nqd6];exact hqq6
     have b7:jr d H (upd H6 d (.dT (kvs4++[(ju (cO ms t m.1),V.ref q6)]))):=b6.put
     have w7:WP (upd H6 d (.dT (kvs4++[(ju (cO ms t m.1),V.ref q6)]))) (acc'.1++[(cO ms t m.1,some (t,m.1))]) (kvs4++[(ju (cO ms t m.1),V.ref q6)]) :=
      JZ (wp6.dh t7) ⟨rfl,q6,tq,rfl,t7 _ _ h6,t7 _ _ htq6⟩
     have r7:=JZ (Paired.cu hrp6 fun t q (e:H6 q=some (.tup (aF t)))=>t7 q _ e) (a:=cO ms t m.1) (b:=q5) (by have z:=t7 _ _ hq6;rw [← eb] at z;exact z)
     generalize upd H6 d (.dT (kvs4++[(ju (cO ms t m.1),V.ref q6)]))=H7 at t7 hr7 hd7 hq7 b7 w7 r7 ⊢
     have t8:uP H7 (upd H7 r (.lst (rs4.map V.ref++[V.ref q5]))):=m7 hr7 (fun _ z=>nomatch z)
     have nqr7:q≠r:=fun z=>nqr z.symm
     refine⟨_,_,(acc'.1++[(cO ms t m.1,some (t,m.1))],acc'.2++[cO ms t m.1]),by rw [efold,e1],rfl,b7.new nr,by rw [ah nqr7];exact hq7,⟨rs4++[q5],by rw [ag,List.map_append];rfl,Paired.cu r7 fun t q (e:H7 q=some (.tup (aF t)))=>t8 q _ e⟩,⟨_,by rw [ah nrd.symm];exact hd7,w7.dh t8⟩,?_⟩
     have:=ac4.try (t:=t) (m:=m.1) hfb
     rw [e1] at this
     exact this
   ·rintro σ H4 ⟨v5,v6,acc',ea',rfl,b4,hq4,S4,W4,ac4⟩
    rw [aw,Jc] at ea'
    refine⟨_,_,_,acc',?_,rfl,b4,S4,W4,ac4⟩
    rw [ets,Kn,← ea,ea']
    rfl
  ·rintro σ H2 ⟨v4,v5,v6,acc,ea,rfl,b2,S2,W2,ac2⟩
   have el:(qs.map V.ref).length=ts.length:=by rw [List.length_map,← IX hp]
   rw [el,Jc] at ea
   have e:acc=UfBfs.eZ (graph ms) ts wy:=ea
   subst e
   exact⟨_,rfl,k H2 r b2 nr S2 W2 ac2⟩
end Uf
end
section
namespace UfM
structure Wb where
 tk:Nat→Nat→Prop
 gv:Nat→Option Nat
 own:Nat→Nat→Prop
def Wb.past(w:Wb)(s o:Nat):Prop:=∃ g,w.gv s=some g∧w.own g o
def Wb.forked(w:Wb)(P:Nat→Prop):Prop:=∃ o1 o2 u,o1≠o2∧P o1∧P o2∧w.tk u o1∧w.tk u o2
structure Wb.m6(w:Wb)(a b:Nat):Prop where
 ab:∀ o,w.tk a o→¬ w.past b o
 ba:∀ o,w.tk b o→¬ w.past a o
 nf:¬ w.forked fun o=>w.past a o∨w.past b o
theorem Wb.m6.symm{w:Wb}{a b:Nat}(h:w.m6 a b):w.m6 b a :=
 ⟨h.ba,h.ab,fun⟨o1,o2,u,n,p1,p2,t1,t2⟩=>h.nf ⟨o1,o2,u,n,p1.symm,p2.symm,t1,t2⟩⟩
structure Wb.Step(w w':Wb)(e:Nat)(T New:Nat→Prop):Prop where
 tk:∀ s o,w'.tk s o↔w.tk s o∨(o=e∧T s)
 gvN:∀ s,New s→w'.gv s=some e
 gvO:∀ s,¬ New s→w'.gv s=w.gv s
 ownE:∀ j,w'.own e j↔j=e∨∃ t,T t∧w.past t j
 ownO:∀ o j,o≠e→(w'.own o j↔w.own o j)
 old:∀ t,T t→¬ New t
 fresh:∀ s,¬ w.tk s e
 noE:∀ s,w.gv s≠some e
 noP:∀ s,¬ w.past s e
 bare:∀ s o,New s→¬ w.tk s o
 ne:∃ t,T t
 ord:∀ s o,w.tk s o→¬ w.past s o
 free:∀ s,¬ w.forked (w.past s)
 side:∀ a b,T a→T b→a≠b→w.m6 a b
section
variable {w w':Wb}{e:Nat}{T New:Nat→Prop}
def Wb.Step.dH(h:w.Step w' e T New){s o:Nat}(hs:¬ New s):w'.past s o↔w.past s o:=by
 constructor
 ·rintro⟨g,h1,h2⟩
  rw [h.gvO s hs] at h1
  have hg:g≠e:=fun z=>h.noE s (by rw [h1,z])
  exact⟨g,h1,(h.ownO g o hg).mp h2⟩
 ·rintro⟨g,h1,h2⟩
  have hg:g≠e:=fun z=>h.noE s (by rw [h1,z])
  exact⟨g,by rw [h.gvO s hs];exact h1,(h.ownO g o hg).mpr h2⟩
def Wb.Step.iZ(h:w.Step w' e T New){s o:Nat}(hs:New s):w'.past s o↔o=e∨∃ t,T t∧w.past t o:=by
 constructor
 ·rintro⟨g,h1,h2⟩
  rw [h.gvN s hs] at h1
  cases h1
  exact(h.ownE o).mp h2
 ·exact fun q=>⟨e,h.gvN s hs,(h.ownE o).mpr q⟩
def Wb.Step.pX(h:w.Step w' e T New){a b:Nat}(ha:¬ New a)(hb:¬ New b):w'.m6 a b↔w.m6 a b:=by
 constructor
 ·rintro⟨h1,h2,h3⟩
  refine⟨fun o p q=>h1 o ((h.tk a o).mpr (.inl p)) ((h.dH hb).mpr q),fun o p q=>h2 o ((h.tk b o).mpr (.inl p)) ((h.dH ha).mpr q),fun⟨o1,o2,u,n,p1,p2,t1,t2⟩=>h3 ⟨o1,o2,u,n,?_,?_,(h.tk u o1).mpr (.inl t1),(h.tk u o2).mpr (.inl t2)⟩⟩
  ·exact p1.imp (h.dH ha).mpr (h.dH hb).mpr
  ·exact p2.imp (h.dH ha).mpr (h.dH hb).mpr
 ·rintro⟨h1,h2,h3⟩
  have old:∀ {u o:Nat},(w.past a o∨w.past b o)→w'.tk u o→w.tk u o:=fun {u o} p t=>by
   rcases(h.tk u o).mp t with z | ⟨z,_⟩
   ·exact z
   ·subst z
    exact absurd p (fun q=>q.elim (h.noP a) (h.noP b))
  refine⟨fun o p q=>?_,fun o p q=>?_,fun⟨o1,o2,u,n,p1,p2,t1,t2⟩=>?_⟩
  ·have q:=(h.dH hb).mp q
   exact h1 o (old (.inr q) p) q
  ·have q:=(h.dH ha).mp q
   exact h2 o (old (.inl q) p) q
  ·have p1:=p1.imp (h.dH ha).mp (h.dH hb).mp
   have p2:=p2.imp (h.dH ha).mp (h.dH hb).mp
   exact h3 ⟨o1,o2,u,n,p1,p2,old p1 t1,old p2 t2⟩
def Wb.Step.clear(h:w.Step w' e T New){P:Nat→Prop}(hP:∀ o,P o→o≠e)(hf:¬ w.forked P)(hT:∀ t,T t→(∀ o,w.tk t o→¬ P o)∧¬ w.forked fun o=>P o∨w.past t o) :
  ¬ w'.forked fun o=>P o∨o=e∨∃ t,T t∧w.past t o:=by
 rintro⟨o1,o2,u,n,p1,p2,t1,t2⟩
 have tko:∀ {o:Nat},o≠e→w'.tk u o→w.tk u o:=fun {o} ne t=>((h.tk u o).mp t).elim id fun z=>absurd z.1 ne
 have neP:∀ {t o:Nat},w.past t o→o≠e:=fun {t o} p z=>h.noP t (by rw [← z];exact p)
 have withE:∀ o,o≠e→w'.tk u e→(P o∨o=e∨∃ t,T t∧w.past t o)→w'.tk u o→False:=fun o ne te p t=>by
  have hu:T u:=((h.tk u e).mp te).elim (fun z=>absurd z (h.fresh u)) fun z=>z.2
  have to:=tko ne t
  rcases p with p | p | ⟨t',ht,p⟩
  ·exact(hT u hu).1 o to p
  ·exact ne p
  ·by_cases z:t'=u
   ·subst z
    exact h.ord t' o to p
   ·exact(h.side u t' hu ht (fun q=>z q.symm)).ab o to p
 by_cases e1:o1=e
 ·subst e1
  exact withE o2 (fun z=>n z.symm) t1 p2 t2
 ·by_cases e2:o2=e
  ·subst e2
   exact withE o1 n t2 p1 t1
  ·have k1:=tko e1 t1
   have k2:=tko e2 t2
   rcases p1 with p1 | p1 | ⟨a,ha,p1⟩
   ·rcases p2 with p2 | p2 | ⟨b,hb,p2⟩
    ·exact hf ⟨o1,o2,u,n,p1,p2,k1,k2⟩
    ·exact e2 p2
    ·exact(hT b hb).2 ⟨o1,o2,u,n,.inl p1,.inr p2,k1,k2⟩
   ·exact e1 p1
   ·rcases p2 with p2 | p2 | ⟨b,hb,p2⟩
    ·exact(hT a ha).2 ⟨o1,o2,u,n,.inr p1,.inl p2,k1,k2⟩
    ·exact e2 p2
    ·by_cases z:a=b
     ·subst z
      exact h.free a ⟨o1,o2,u,n,p1,p2,k1,k2⟩
     ·exact(h.side a b ha hb z).nf ⟨o1,o2,u,n,.inl p1,.inr p2,k1,k2⟩
def Wb.Step.EZ(h:w.Step w' e T New){s n:Nat}(hs:¬ New s)(hn:New n):w'.m6 s n↔∀ t,T t→s≠t∧w.m6 s t:=by
 constructor
 ·rintro⟨h1,h2,h3⟩ t ht
  have up:∀ {o:Nat},w.past t o→w'.past n o:=fun {o} p=>(h.iZ hn).mpr (.inr ⟨t,ht,p⟩)
  refine⟨?_,⟨fun o p q=>h1 o ((h.tk s o).mpr (.inl p)) (up q),fun o p q=>?_,fun⟨o1,o2,u,ne,p1,p2,t1,t2⟩=>h3 ⟨o1,o2,u,ne,?_,?_,(h.tk u o1).mpr (.inl t1),(h.tk u o2).mpr (.inl t2)⟩⟩⟩
  ·rintro rfl
   exact h1 e ((h.tk s e).mpr (.inr ⟨rfl,ht⟩)) ((h.iZ hn).mpr (.inl rfl))
  ·have ne:o≠e:=fun z=>h.noP s (by rw [← z];exact q)
   exact h3 ⟨o,e,t,ne,.inl ((h.dH hs).mpr q),.inr ((h.iZ hn).mpr (.inl rfl)),(h.tk t o).mpr (.inl p),(h.tk t e).mpr (.inr ⟨rfl,ht⟩)⟩
  ·exact p1.imp (h.dH hs).mpr up
  ·exact p2.imp (h.dH hs).mpr up
 ·intro k
  have nT:¬ T s:=fun z=>(k s z).1 rfl
  obtain⟨t0,ht0⟩:=h.ne
  refine⟨fun o p q=>?_,fun o p=>?_,?_⟩
  ·rcases(h.tk s o).mp p with p | ⟨_,p⟩
   ·rcases(h.iZ hn).mp q with q | ⟨t,ht,q⟩
    ·subst q
     exact h.fresh s p
    ·exact(k t ht).2.ab o p q
   ·exact nT p
  ·rcases(h.tk n o).mp p with p | ⟨_,p⟩
   ·exact absurd p (h.bare n o hn)
   ·exact absurd hn (h.old n p)
  ·have c:=h.clear (P:=w.past s) (fun o p z=>h.noP s (by rw [← z];exact p)) (fun f=>(k t0 ht0).2.nf (let ⟨o1,o2,u,n,p1,p2,t⟩:=f;⟨o1,o2,u,n,.inl p1,.inl p2,t⟩)) fun t ht=>⟨(k t ht).2.ba,(k t ht).2.nf⟩
   rintro⟨o1,o2,u,ne,p1,p2,t⟩
   exact c ⟨o1,o2,u,ne,p1.imp (h.dH hs).mp (h.iZ hn).mp,p2.imp (h.dH hs).mp (h.iZ hn).mp,t⟩
def Wb.Step.C4(h:w.Step w' e T New){n:Nat}(hn:New n):¬ w'.forked (w'.past n):=by
 have c:=h.clear (P:=fun _=>False) (fun _ z=>z.elim) (fun⟨_,_,_,_,z,_⟩=>z) fun t ht=>⟨fun _ _ z=>z,fun⟨o1,o2,u,n,p1,p2,t'⟩=>h.free t ⟨o1,o2,u,n,p1.resolve_left id,p2.resolve_left id,t'⟩⟩
 rintro⟨o1,o2,u,ne,p1,p2,t⟩
 exact c ⟨o1,o2,u,ne,.inr ((h.iZ hn).mp p1),.inr ((h.iZ hn).mp p2),t⟩
def Wb.Step.Ff(h:w.Step w' e T New){s:Nat}(hs:¬ New s):¬ w'.forked (w'.past s):=by
 rintro⟨o1,o2,u,ne,p1,p2,t1,t2⟩
 have p1:=(h.dH hs).mp p1
 have p2:=(h.dH hs).mp p2
 have old:∀ {o:Nat},w.past s o→w'.tk u o→w.tk u o:=fun {o} p t=>((h.tk u o).mp t).elim id fun z=>absurd p (by rw [z.1];exact h.noP s)
 exact h.free s ⟨o1,o2,u,ne,p1,p2,old p1 t1,old p2 t2⟩
def Wb.Step.among(h:w.Step w' e T New){a b:Nat}(ha:New a)(hb:New b):w'.m6 a b:=by
 have no:∀ {n o:Nat},New n→¬ w'.tk n o:=fun {n o} hn p=>by
  rcases(h.tk n o).mp p with p | ⟨_,p⟩
  ·exact h.bare n o hn p
  ·exact h.old n p hn
 refine⟨fun o p=>absurd p (no ha),fun o p=>absurd p (no hb),?_⟩
 rintro⟨o1,o2,u,ne,p1,p2,t⟩
 have q:∀ {o:Nat},w'.past a o∨w'.past b o→w'.past a o:=fun {o} p=>p.elim id fun z=>(h.iZ ha).mpr ((h.iZ hb).mp z)
 exact h.C4 ha ⟨o1,o2,u,ne,q p1,q p2,t⟩
def Wb.Step.Iv(h:w.Step w' e T New)(s o:Nat)(p:w'.tk s o):¬ w'.past s o:=by
 by_cases hs:New s
 ·rcases(h.tk s o).mp p with p | ⟨_,p⟩
  ·exact absurd p (h.bare s o hs)
  ·exact absurd hs (h.old s p)
 ·rw [h.dH hs]
  rcases(h.tk s o).mp p with p | ⟨p,_⟩
  ·exact h.ord s o p
  ·rw [p]
   exact h.noP s
end
end UfM
end
section
set_option maxHeartbeats 400000
namespace Uf
open PySem L2 UfSrt
def kq{ms:List Mv}{st:List Str}(hn:(names ms).Nodup)(J:List Str→Prop)(h0:J (aH st))(hs:∀ t m,J t→m∈ms→dB m.2.1 t=false→second m.2.1 m.2.2 t=false→J (behind m.2.1 m.2.2 t))(hc:∀ t m,J t→m∈ms→dB m.2.1 t=false→second m.2.1 m.2.2 t=false):UfBfs.Told (graph ms) (aH st) none:=by
 have all:∀ k t,UfBfs.At (graph ms) (aH st) k t→J t:=fun k=>by
  induction k with
  | zero =>
   intro t h
   rw [h.A4]
   exact h0
  | succ k ih =>
   intro t h
   obtain⟨u,x,hu,hx,rfl⟩:=h.inv
   have hx:x∈jq ms u:=hx
   unfold jq at hx
   obtain⟨hx,x2⟩:=Jl.mp hx
   obtain⟨hx,x1⟩:=Jl.mp hx
   obtain⟨m,hm,rfl⟩:=dc hx
   unfold dD at x1
   unfold g0 at x2
   rw [ff hn hm] at x1 x2
   rw [gM hn hm] at x2
   show J (cO ms u m.1)
   unfold cO
   rw [ff hn hm,gM hn hm]
   exact hs u m (ih u hu) hm (by simpa using x1) (by simpa using x2)
 intro k t h
 show hX ms t=none
 unfold hX
 refine Ll.mpr fun x hx z=>?_
 obtain⟨m,hm,rfl⟩:=dc hx
 unfold dD g0 at z
 rw [ff hn hm,gM hn hm] at z
 simp at z
 have:=hc t m (all k t h) hm z.1
 rw [z.2] at this
 cases this
structure Ih(E:Str→Str→Prop)(tk gv:List Str):Prop where
 c1:∀ p∈gv,p∉tk→∃ q∈tk,E p q
 c2:∀ p∈gv,∀ r,E p r→∃ q∈tk,q=r∨E q r
 c3:∀ p∈gv,∀ q∈gv,¬ E p q
def xi{ms:List Mv}{st:List Str}(E:Str→Str→Prop)(hsy:∀ a b,E a b→E b a)(hn:(names ms).Nodup)(h0:∀ a∈st,∀ b∈st,¬ E a b)(hm:∀ m∈ms,(∃ a∈m.2.1,∃ b∈m.2.1,E a b)∨Ih E m.2.1 m.2.2) :
  UfBfs.Told (graph ms) (aH st) none:=by
 have has:∀ {tk t:List Str},dB tk t=false→∀ x∈tk,x∈t:=fun {tk t} h x hx=>by
  unfold dB at h
  have:=List.any_eq_false.mp h x hx
  simpa using this
 refine kq hn (fun t=>∀ a∈t,∀ b∈t,¬ E a b) (fun a ha b hb=>h0 a (bE.mp ha) b (bE.mp hb)) (fun t m J hmm hl hs a ha b hb e=>?_) fun t m J hmm hl=>?_
 ·rcases hm m hmm with⟨x,hx,y,hy,exy⟩ | X
  ·exact J x (has hl x hx) y (has hl y hy) exy
  ·unfold behind at ha hb
   have ha:=Ja.mp (bE.mp ha)
   have hb:=Ja.mp (bE.mp hb)
   have mix:∀ p r,p∈m.2.2→r∈t.filter (fun x=>!decide (x∈m.2.1))→E p r→False:=fun p r hp hr epr=>by
    obtain⟨hr1,hr2⟩:=Jl.mp hr
    have hr2:r∉m.2.1:=by simpa using hr2
    obtain⟨q,hq,z | z⟩:=X.c2 p hp r epr
    ·exact hr2 (by rw [← z];exact hq)
    ·exact J q (has hl q hq) r hr1 z
   rcases ha with ha | ha
   ·rcases hb with hb | hb
    ·exact J a (Jl.mp ha).1 b (Jl.mp hb).1 e
    ·exact mix b a hb ha (hsy _ _ e)
   ·rcases hb with hb | hb
    ·exact mix a b ha hb e
    ·exact X.c3 a ha b hb e
 ·cases h:second m.2.1 m.2.2 t with
  | false=>rfl
  | true =>
   unfold second at h
   obtain⟨p,hp,z⟩:=Kr.mp h
   simp at z
   rcases hm m hmm with⟨x,hx,y,hy,exy⟩ | X
   ·exact absurd exy (J x (has hl x hx) y (has hl y hy))
   ·obtain⟨q,hq,e⟩:=X.c1 p hp z.2
    exact absurd e (J p z.1 q (has hl q hq))
end Uf
end
section
namespace Uf
open PySem L2 UfSrt UfFin
abbrev pY:Stmt:=top 50
structure mw(L tk gv:List Str):Prop where
 tn:tk.Nodup
 ti:∀ x∈tk,x∈L
 t1:1≤tk.length
 t4:tk.length≤4
 gn:gv.Nodup
 gi:∀ x∈gv,x∈L
 g4:gv.length≤4
structure y9(ms:List Mv)(S:List Str):Prop where
 net:gz ms S=true
 fit:Fits ms S
def fV{xs:List Str}(h:∀ x∈xs,isNm x=true)(hl:xs.length≤200):Short xs:=⟨hl,fun x hx=>by have:=sM (h x hx);lia⟩
def qV{ms:List Mv}{S L:List Str}(lms:ms.length≤8)(hnm:unlike (names ms)=true)(hL:unlike L=true)(lL:L.length≤12)(he:∀ m∈ms,mw L m.2.1 m.2.2)(hS:S.Nodup)(hi:∀ x∈S,x∈L):y9 ms S:=by
 have mv:∀ m∈ms,gW m.2.1 m.2.2=true:=fun m hm=>by
  have h:=he m hm
  unfold gW
  rw [je hL h.tn h.ti,je hL h.gn h.gi,IL h.t1,IL h.t4,IL h.g4]
  rfl
 have hdd:∀ x∈UfSet.dd (S++kC ms),x∈L:=fun x hx=>by
  rcases Ja.mp (UfSet.qb.mp hx) with z | z
  ·exact hi x z
  ·unfold kC at z
   obtain⟨m,hm,hxm⟩:=Me.mp z
   rcases Ja.mp hxm with z | z
   ·exact(he m hm).ti x z
   ·exact(he m hm).gi x z
 have ldd:(UfSet.dd (S++kC ms)).length≤12:=Jf (dI (UfSet.mh _) hdd) lL
 have lS:S.length≤12:=Jf (dI hS hi) lL
 have lpl:∀ l:List Mv,(∀ m∈l,mw L m.2.1 m.2.2)→(kC l).length≤8*l.length:=fun l=>by
  induction l with
  | nil=>intro _;exact II _
  | cons m r ih =>
   intro hl
   have h1:=ih fun m hm=>hl m (List.mem_cons_of_mem _ hm)
   have a1:=(hl m List.mem_cons_self).t4
   have a2:=(hl m List.mem_cons_self).g4
   unfold kC at h1 ⊢
   rw [List.flatMap_cons,List.length_append,List.length_append,Jh]
   lia
 have lp:=lpl ms he
 have ln:(names ms).length=ms.length:=by unfold names;rw [List.length_map]
 have sL:=fun x hx=>kz hL (x:=x) hx
 constructor
 ·unfold gz
  rw [IL (show ms.length≤12 by lia),hnm,JO.mpr mv,je hL hS hi,IL (show(cF ms S).length≤12 by unfold cF;rw [bW];lia)]
  rfl
 ·exact⟨fV (fun x hx=>kz hnm hx) (by lia),fun m hm=>fV (fun x hx=>sL x ((he m hm).ti x hx)) (by have:=(he m hm).t4;lia),fun m hm=>fV (fun x hx=>sL x ((he m hm).gi x hx)) (by have:=(he m hm).g4;lia),fV (fun x hx=>sL x (hi x hx)) (by lia),by rw [List.length_append];lia,by lia⟩
def rO.ends{L tk gv:List Str}(h:rO L tk gv):mw L tk gv:=by
 have:=h.t.le
 have:=h.g.le
 refine⟨h.t.nd,fun x hx=>let ⟨_,_,r⟩:=h.t.sub x hx;r.mem,?_,by lia,h.g.nd,fun x hx=>let ⟨_,_,r⟩:=h.g.sub x hx;r.mem,by lia⟩
 exact LI.mpr h.ne
def xg{ms:List Mv}{S L:List Str}{n:Nat}(hn:(names ms).Nodup)(hL:L.Nodup)(he:∀ m∈ms,rO L m.2.1 m.2.2)(hS:Rk L S n):UfBfs.Told (graph ms) (aH S) none:=by
 refine xi (fun a b=>a≠b∧∃ j,RG L j a∧RG L j b) (fun a b ⟨n,j,h1,h2⟩=>⟨n.symm,j,h2,h1⟩) hn (fun a ha b hb ⟨n,j,h1,h2⟩=>n (hS.one a ha b hb j h1 h2)) fun m hm=>.inr ?_
 have h:=he m hm
 refine⟨fun p hp np=>?_,fun p hp r ⟨n,k,h1,h2⟩=>?_,fun p hp q hq ⟨n,j,h1,h2⟩=>n (h.g.one p hp q hq j h1 h2)⟩
 ·obtain⟨j,hj,t,ht,hjt⟩:=h.sub p hp
  exact⟨t,ht,fun z=>np (z ▸ ht),j,hj,hjt⟩
 ·obtain⟨j,hj,t,ht,hjt⟩:=h.sub p hp
  have:=RG.one hL h1 hj
  subst this
  by_cases z:t=r
  ·exact⟨t,ht,.inl z⟩
  ·exact⟨t,ht,.inr ⟨z,k,hjt,h2⟩⟩
def uD(H:Hp)(a:Addr)(ms:List Mv):Prop:=∃ qs:List Addr,H a=some (.lst (qs.map V.ref))∧Paired (lN H) ms qs
theorem uD.same{H H':Hp}{a:Addr}{ms:List Mv}(s:aq H H')(h:uD H a ms):uD H' a ms:=by
 obtain⟨qs,h1,h2⟩:=h
 exact⟨qs,s _ _ h1,Paired.cu h2 fun _ _=>lN.same s⟩
def Di:bootBuiltins "min"=some (.builtin "min"):=by decide +kernel
def Dl(H:Hp)(Q:VK):Prop:=∀ H' t mv st ms S,aq H H'→H' t=some (.tup [.ref mv,.ref st])→uD H' mv ms→H' st=some (.lst (aF S))→y9 ms S→UfBfs.Told (graph ms) (aH S) none→Q (.ref t) H'
def iI(K:PySem.W.Frag):Sp:=fun vs H Q _=>∃ (a:Addr) (ns:List Int),vs=[.ref a,.int 8]∧aA K H a (ns.map V.int)∧ns.length≤63∧Dl H Q
def cG:aD ["_law_script", "_law_most", "_law_head", "_law_naming", "_law_sizes", "_law_names", "_law_start", "_law_r", "_law_at", "_law_moves", "_law_many", "_law_number", "_law_takes", "_law_gives"] ["_law_script", "_law_most"] (au pY):=eR
def BU:List Int:=[2,3,1,2,3,2,4,3]
def F2:∀ k<8,1≤BU.getD k 0∧BU.getD k 0≤4:=by decide
def Cs:List Int:=[3,24,192]
def F5:List Int:=[2,64,2048]
def Dd:∀ k<3,(0<Cs.getD k 0∧Cs.getD k 0<1073741824)∧0<F5.getD k 0∧F5.getD k 0<1073741824:=by decide
inductive RsI(H:Hp)(a:Addr)(hd nm:Int)(zs nl st:Addr)(L:List Str)(i:Nat)(σ:St)(H2:Hp):Prop
 | mk (v7 v8:Option V) (S:List Str) (q0:σ=[some (.ref a),some (.int 8),some (.int hd),some (.int nm),some (.ref zs),some (.ref nl),some (.ref st),v7,v8,none,none,none,none,none]) (q1:aq H H2) (q2:H2 st=some (.lst (aF S))) (q3:Rk L S i)
inductive RmI(H:Hp)(a:Addr)(hd nm:Int)(zs nl st mv:Addr)(v7 v8:Option V)(mn:Nat)(L:List Str)(i:Nat)(σ:St)(H2:Hp):Prop
 | mk (v11 v12 v13:Option V) (ms:List Mv) (qs:List Addr) (q0:σ=[some (.ref a),some (.int 8),some (.int hd),some (.int nm),some (.ref zs),some (.ref nl),some (.ref st),v7,v8,some (.ref mv),some (.int mn),v11,v12,v13]) (q1:∀ c o,H c=some o→c≠mv→H2 c=some o) (q2:H2 mv=some (.lst (qs.map V.ref))) (q3:Paired (fun(m:Mv) q=>∃ l g,H2 q=some (.tup [.str m.1,.ref l,.ref g])∧l≠mv∧g≠mv∧H2 l=some (.lst (aF m.2.1))∧H2 g=some (.lst (aF m.2.2))) ms qs) (q4:names ms=sT (nm / 4048) i) (q5:∀ m∈ms,rO L m.2.1 m.2.2)
def yJ{f:Addr}{fd:FuncData}(F:dv K "_law_rings" "_law_rings" pY f fd)(T:Txt K mg)(T2:Txt2 mg)(mi:mg "min"=none)
  (DC:gJ P w K mg base "_law_cell_at" nh ["_law_script", "_law_k"] 1 (lX K))
  (DN:gJ P w K mg base "_law_name" rR ["_law_cell", "_law_k"] 1 uM)
  (DF:gJ P w K mg base "_law_folded" jE ["_law_cells", "_law_many"] 1 (mX K))
  (DS:gJ P w K mg base "_law_step" wc ["_law_number", "_law_sizes", "_law_names"] 1 (yy K)) :
  bo P w K mg base cS 2 f fd ["_law_script", "_law_most"] (iI K):=by
 refine F.oK cG fun cdv A outer s H vs Q E hr h=>?_
 ·obtain⟨a,ns,rfl,ha,hz,kk⟩:=h
  have hsl:=Ji
  have hr1:cw 1 _:=hr
  refine⟨_,af (cB 2 cG (eA DC hr1 (aa (pv 0) (aa ak ae))))
   (af (cB 3 cG (eA DC hr1 (aa (pv 0) (aa ak ae))))
   (af (gf (j:=4) (N:=["_law_r", "_law_head"]) (n:=1) (ci:=[2]) rfl cG.nd rfl rfl (cN rfl T2.rng (aa (aE fE ak (aE cv (pv 2) ak)) ae)) (j6 cG) (fun z=>⟨jg 0,bV,bb aR (bL (aa ak (aa ak (aa ak (aa ak (aa ak (aa ak (aa ak (aa ak ae))))))))) (aE cv (aE cm (pv 1) (bb aR (bL (aa ak (aa ak (aa ak ae)))) (pv 0) (fun _ _=>rfl))) ak) (fun _ _=>rfl)⟩))
   (af (gf (j:=5) (N:=["_law_k", "_law_naming"]) (n:=1) (ci:=[3]) rfl cG.nd rfl rfl (cN rfl T2.rng (aa ak ae)) (j6 cG) (fun z=>⟨jg 0,bV,eA DN hr1 (aa (pv 1) (aa (pv 0) ae))⟩))
   (af (cB 6 cG (bL ae))
   (af (bq IT rfl (cN rfl T2.rng (aa (ay bu rfl T.len cL (aa (pv 4) ae)) ae)) (dX 7 cG)
    (af (cB 8 cG (aE cm (eA DC hr1 (aa (pv 0) (aa ak ae))) (bb aR (bL (aa ak (aa ak (aa ak ae)))) (pv 7) (fun _ _=>rfl))))
    (ai (bH (bj vO (aE cv (aE cm (pv 8) ak) ak) ak (bC _)) (ai (a9 (cR Jb IZ I0 aV (pv 6) (aa (bb aR (pv 5) (aE fE (aE mJ ak (pv 7)) (aE cv (pv 8) (bb aR (pv 4) (pv 7) (fun _ _=>rfl)))) (fun _ _=>rfl)) ae)))) aU))))
   (af (cB 9 cG (bL ae))
   (af (cB 10 cG (ay (oW rfl) rfl mi Di (aa (pv 1) (aa (ay bu rfl T.len cL (aa (dU fZ (pv 0) (eK ak) gh) ae)) ae))))
   (af (bq IT rfl (aK (eA DF hr1 (aa (dU fZ (pv 0) (eK ak) gh) (aa (pv 10) ae)))) (dX 11 cG)
    (af (jo (eA DS hr1 (aa (pv 11) (aa (pv 4) (aa (pv 5) ae)))) (dt rfl (aL (dX 12 cG) (aL (dX 13 cG) cH))))
    (ai (a9 (cR Jb IZ I0 aV (pv 9) (aa (jU (aa (eA DN hr1 (aa (aE cm (pv 3) ak) (aa (ay bu rfl T.len cL (aa (pv 9) ae)) ae))) (aa (pv 12) (aa (pv 13) ae)))) ae))))))
   (ai (aI (jU (aa (pv 9) (aa (pv 6) ae))))))))))))),?_⟩
  have cell:∀ {H':Hp},aq H H'→aA K H' a (ns.map V.int):=fun s=>s.seq ha
  refine⟨_,rfl,a,ns,0,rfl,ha,hz,?_⟩
  generalize ns.getD 0 0=hd
  refine⟨_,rfl,a,ns,1,rfl,ha,hz,?_⟩
  generalize ns.getD 1 0=nm
  refine⟨_,rfl,_,_,rfl,rfl,(by show(0:Int)<3;decide),_,_,rfl,rfl,_,rfl,by lia,by lia,fun z D1 hD1=>fA (m:=(1+hd % 3).toNat) (F:=fun r=>some (V.int (BU.getD (hd / Cs.getD r 0 % 8).toNat 0))) (by lia) hD1 (fun r hr3 H3 s3 no yes _ hyes=>?_) fun H1 s1 hz1=>?_⟩
  ·refine⟨by show 8≤sizeLine;lia,fun l H4 _ s4 hl=>⟨_,rfl,by show 3≤sizeLine;lia,fun l2 H5 _ s5 hl2=>⟨_,rfl,l2,_,_,_,rfl,rfl,aA.of (xs:=Cs.map V.int) hl2,hE (by show r<3;lia),_,_,rfl,rfl,(Dd r (by lia)).1,_,_,rfl,rfl,(by show(0:Int)<8;decide),l,_,_,_,rfl,rfl,aA.of (xs:=BU.map V.int) (s5 _ _ hl),ig (by lia) (by show _<((8:Nat):Int);lia),hyes _ rfl _ (s4.trans s5)⟩⟩⟩
  rw [filterMap_some] at hz1
  have ess:((List.range (1+hd % 3).toNat).map fun r=>V.int (BU.getD (hd / Cs.getD r 0 % 8).toNat 0))=((List.range (1+hd % 3).toNat).map fun r=>BU.getD (hd / Cs.getD r 0 % 8).toNat 0).map V.int:=by rw [List.map_map];rfl
  rw [ess] at hz1
  have hss:∀ x∈(List.range (1+hd % 3).toNat).map fun r=>BU.getD (hd / Cs.getD r 0 % 8).toNat 0,1≤x∧x≤4:=fun x hx=>by
   obtain⟨r,_,rfl⟩:=IV.mp hx
   exact F2 _ (by lia)
  have lss:((List.range (1+hd % 3).toNat).map fun r=>BU.getD (hd / Cs.getD r 0 % 8).toNat 0).length=(1+hd % 3).toNat:=by rw [List.length_map,List.length_range]
  generalize ((List.range (1+hd % 3).toNat).map fun r=>BU.getD (hd / Cs.getD r 0 % 8).toNat 0)=ss at hz1 hss lss
  have l13:1≤ss.length∧ss.length≤3:=by lia
  refine⟨_,rfl,by decide,by decide,fun z D2 hD2=>fA (m:=12) (F:=fun k=>some (V.str (hC nm k))) (by lia) hD2 (fun k hk H3 s3 no yes _ hyes=>⟨_,rfl,_,rfl,nm,k,rfl,by lia,hyes _ rfl _ (aq.refl _)⟩) fun H2 s2 hn2=>?_⟩
  rw [filterMap_some,show((List.range 12).map fun k=>V.str (hC nm k))=aF (sT nm 12) by unfold sT aF;rw [List.map_map];rfl] at hn2
  have uL:=fJ nm (n:=12) (by decide)
  have lL:=lE nm 12
  have nL:=dE uL
  generalize sT nm 12=L at hn2 uL lL nL
  refine⟨IU _,fun st H4 nst s4 hst=>?_⟩
  have s02:=s1.trans s2
  have s04:=s02.trans s4
  have hz4:=(s2.trans s4) _ _ hz1
  have hn4:=s4 _ _ hn2
  have nst0:H st=none:=s02.free nst
  refine⟨_,rfl,_,ss.length,rfl,.inl ⟨_,aA.of hz4,by rw [List.length_map]⟩,_,rfl,by lia,by lia,km (lo:=0) (n:=((ss.length:Nat):Int).toNat) (RsI H2 a hd nm D1 D2 st L) ⟨none,none,[],rfl,s4,hst,Rk.nil L⟩ ?_ ?_⟩
  ·rintro i σ H5 hi ⟨v7,v8,S,rfl,s5,hst5,rk⟩
   have hi2:i<ss.length:=by lia
   have s05:=s02.trans s5
   have hz5:=(s2.trans s5) _ _ hz1
   have hn5:=s5 _ _ hn2
   rw [show(0+((i:Nat):Int))=((i:Nat):Int) by lia]
   refine⟨_,rfl,a,ns,2,rfl,cell s05,hz,by show 3≤sizeLine;lia,fun l H6 _ s6 hl=>⟨_,rfl,l,_,_,_,rfl,rfl,aA.of (xs:=F5.map V.int) hl,hE (by show i<3;lia),_,_,rfl,rfl,(Dd i (by lia)).2,?_⟩⟩
   have hst6:=s6 _ _ hst5
   refine⟨_,rfl,_,_,rfl,rfl,⟨by decide,by decide⟩,_,_,rfl,rfl,(by show(0:Int)<8;decide),_,_,rfl,rfl,_,rfl,?_⟩
   refine AB (fun _=>?_) (fun _=>⟨_,_,S,rfl,s5.trans s6,hst6,rk.skip⟩)
   have sz:1≤ss.getD i 0∧ss.getD i 0≤4:=hss _ (by rw [List.getD_eq_getElem?_getD,IG hi2];exact KC _)
   have b0:=Lk (ns.getD 2 0 / F5.getD i 0) (show ss.getD i 0≠0 by lia)
   have b1:=KR (ns.getD 2 0 / F5.getD i 0) (show 0<ss.getD i 0 by lia)
   refine⟨_,rfl,.inl ⟨rfl,_,aA.of hst6⟩,_,rfl,_,rfl,_,_,rfl,rfl,.inl ⟨by decide,by decide⟩,_,rfl,_,rfl,_,rfl,D1,_,_,_,rfl,rfl,aA.of (s6 _ _ hz5),hE hi2,_,_,rfl,rfl,(by lia),_,_,rfl,rfl,D2,_,_,_,rfl,rfl,aA.of (s6 _ _ hn5),lu (by lia) (by lia),st,_,_,rfl,rfl,hst6,by rw [aw];have:=rk.le;lia,?_⟩
   rw [mI]
   exact⟨_,_,_,rfl,aY (s5.trans s6) nst,ag,rk.snoc nL ⟨_,by lia,by lia,rfl⟩⟩
  ·rintro σ H5 ⟨v7,v8,S,rfl,s5,hst5,rk⟩
   refine⟨IU _,fun mv H6 nmv s6 hmv=>?_⟩
   have s26:=s5.trans s6
   have s06:=s02.trans s26
   have nmv2:H2 mv=none:=s5.free nmv
   have nms:st≠mv:=aj hst5 nmv
   have e3:ix (ns.map V.int) (some (3:Int)) none=(ns.drop 3).map V.int:=by rw [show(3:Int)=((3:Nat):Int) from rfl,FA,NH]
   generalize hcs:ns.drop 3=cs at e3
   have lcs:cs.length≤60:=by rw [← hcs,K7];lia
   refine⟨_,rfl,_,rfl,_,rfl,a,_,rfl,cell s06,fun q3 n3=>?_⟩
   rw [e3]
   have s7:aq H6 (upd H6 q3 (.lst (cs.map V.int))):=ao n3
   refine⟨_,cs.length,rfl,.inl ⟨_,aA.of ag,by rw [List.length_map]⟩,_,_,rfl,?_⟩
   generalize upd H6 q3 (.lst (cs.map V.int))=H7 at s7 ⊢
   rw [show(if ((cs.length:Nat):Int)<8 then((cs.length:Nat):Int) else 8)=((min 8 cs.length:Nat):Int) by split <;> lia]
   generalize hmn:min 8 cs.length=mn
   refine⟨_,rfl,_,rfl,a,_,rfl,cell (s06.trans s7),fun q4 n4=>?_⟩
   rw [e3]
   have s8:aq H7 (upd H7 q4 (.lst (cs.map V.int))):=ao n4
   refine⟨_,rfl,q4,cs,mn,rfl,aA.of ag,by lia,fun z=>Kh (by lia),fun H9 q5 zs s9 nq5 hq5 hzl=>?_⟩
   generalize upd H7 q4 (.lst (cs.map V.int))=H8 at s8 s9 nq5
   have s69:=s7.trans (s8.trans s9)
   have s29:=s26.trans s69
   have hst9:=(s6.trans s69) _ _ hst5
   have hq5m:q5≠mv:=(aj ((s7.trans s8) _ _ hmv) nq5).symm
   refine⟨q5,rfl,⟨_,aA.of hq5⟩,br (K:=K) (a:=q5) (xs:=zs.map V.int) (RmI H9 a hd nm D1 D2 st mv v7 v8 mn L) ⟨none,none,none,[],[],rfl,fun _ _ e _=>e,s69 _ _ hmv,.nil,rfl,(fun _ h=>nomatch h)⟩ (fun i σ H2 _ h=>by obtain⟨_,_,_,_,_,_,b,_⟩:=h;exact aA.of (b _ _ hq5 hq5m)) ?_ ?_⟩
   ·rintro i v σ Ha hi ⟨v11,v12,v13,ms,qs,rfl,ba,hmva,hqs,enm,hst⟩
    obtain⟨c,hc,rfl⟩:=ints_get hi
    have il:=(IM.mp hc).1
    have lms:ms.length=i:=by have:=J4 List.length enm;rw [lE] at this;unfold names at this;rwa [List.length_map] at this
    have lqs:=IX hqs
    have k2:∀ {c o},H2 c=some o→Ha c=some o:=fun {c o} e=>ba _ _ (s29 _ _ e) (aj e nmv2)
    refine⟨_,rfl,_,rfl,_,rfl,c,D1,D2,ss,L,rfl,aA.of (k2 (s2 _ _ hz1)),aA.of (k2 hn2),l13,hss,lL,nL,fun Hb t l g tk gv sb nl ng ht hl hg sk=>⟨t,_,rfl,bO.of ht,rfl,_,_,rfl,_,_,rfl,rfl,?_⟩⟩
    have hmvb:=sb _ _ hmva
    refine⟨_,rfl,.inl ⟨rfl,_,aA.of hmvb⟩,_,rfl,_,_,rfl,rfl,⟨by decide,by decide⟩,_,rfl,_,qs.length,rfl,.inl ⟨_,aA.of hmvb,by rw [List.length_map]⟩,nm / 4048,qs.length,rfl,by lia,_,rfl,_,rfl,by show 3≤sizeLine;lia,fun u Hc nu sc hu=>⟨mv,_,_,rfl,rfl,sc _ _ hmvb,by rw [List.length_map];lia,?_⟩⟩
    have lm:l≠mv:=(aj hmva nl).symm
    have gm:g≠mv:=(aj hmva ng).symm
    refine⟨_,_,_,ms++[(hC (nm / 4048) qs.length,tk,gv)],qs++[u],rfl,fun c o e n=>by rw [ah n];exact sc _ _ (sb _ _ (ba c o e n)),by rw [ag,List.map_append];rfl,JZ (Paired.cu hqs fun m q ⟨l,g,e1,e2,e3,e4,e5⟩=>⟨l,g,?_,e2,e3,?_,?_⟩) ⟨l,g,?_,lm,gm,?_,?_⟩,?_,fun m hm=>?_⟩
    ·rw [ah (aJ (sc _ _ (sb _ _ e1)) (sc _ _ hmvb) (fun z=>nomatch z))];exact sc _ _ (sb _ _ e1)
    ·rw [ah e2];exact sc _ _ (sb _ _ e4)
    ·rw [ah e3];exact sc _ _ (sb _ _ e5)
    ·rw [ah (aJ hu (sc _ _ hmvb) (fun z=>nomatch z))];exact hu
    ·rw [ah lm];exact sc _ _ hl
    ·rw [ah gm];exact sc _ _ hg
    ·rw [qF,← enm]
     unfold names
     rw [List.map_append,← lqs,lms]
     rfl
    ·rcases Ja.mp hm with z | z
     ·exact hst m z
     ·rw [Jd.mp z]
      exact sk
   ·rintro σ Ha ⟨v11,v12,v13,ms,qs,rfl,ba,hmva,hqs,enm,hst⟩
    rw [List.length_map,hzl] at enm
    have lms:ms.length=mn:=by have:=J4 List.length enm;rw [lE] at this;unfold names at this;rwa [List.length_map] at this
    have s0a:aq H Ha:=fun c o e=>ba _ _ ((s02.trans s29) _ _ e) (aj (s02 _ _ e) nmv2)
    have un:unlike (names ms)=true:=by rw [enm];exact fJ _ (by lia)
    refine⟨_,rfl,_,rfl,by show 2≤sizeLine;lia,fun t Hb nt sb ht=>kk Hb t mv st ms S (s0a.trans sb) ht ⟨qs,sb _ _ hmva,Paired.cu hqs fun m q ⟨l,g,e1,_,_,e4,e5⟩=>⟨l,g,sb _ _ e1,sb _ _ e4,sb _ _ e5⟩⟩ (sb _ _ (ba _ _ hst9 nms)) (qV (L:=L) (by lia) un uL (by lia) (fun m hm=>(hst m hm).ends) rk.nd fun x hx=>let ⟨_,_,r⟩:=rk.sub x hx;r.mem) (xg (dE un) nL hst rk)⟩
end Uf
end
section
namespace L2
open PySem PySem.Spec PyProof.Rows UfSrt
section
variable {X:Cx}
def xF{pins:List (Addr × Obj)}{s:Shared}{σ:St}{H:Hp}{A:Around}{p q:Addr}{a b:List Str}(I:Inv X pins σ H s)(h1:bO X.K H p (aF a))(h2:bO X.K H q (aF b))(hu:A.units<cLine):SeqAt.EqAt A s (.ref p) (.ref q) (decide (a=b)):=by
 obtain⟨its,r1,p1,_⟩:=I.tuple h1
 obtain⟨its2,r2,p2,_⟩:=I.tuple h2
 have inj:∀ {a b:List Str},aF a=aF b→a=b:=fun {a b} e=>by
  unfold aF at e
  exact MI (fun _ _ z=>by injection z) |>.mp e
 by_cases e:p=q
 ·subst e
  have:a=b:=inj (I.o7 h1 h2)
  rw [IL this]
  exact KW _
 ·have l1:=r1.length
  have l2:=r2.length
  unfold aF at l1 l2
  rw [List.length_map] at l1 l2
  have:=Ls (A:=A) (e:=fun j=>decide (a[j]?=b[j]?)) p1 p2 hu fun j h1 h2=>by
   have h1':j<its.length:=by simpa using h1
   have h2':j<its2.length:=by simpa using h2
   have g1:a[j]?=some a[j]:=IG (by lia)
   have g2:b[j]?=some b[j]:=IG (by lia)
   obtain⟨w,e1,e2⟩:=r1.get (show(aF a)[j]?=some (.str a[j]) by unfold aF;rw [List.getElem?_map,g1];rfl)
   obtain⟨w',e3,e4⟩:=r2.get (show(aF b)[j]?=some (.str b[j]) by unfold aF;rw [List.getElem?_map,g2];rfl)
   rw [IG h1'] at e1
   rw [IG h2'] at e3
   cases e1
   cases e3
   have:=iy (A:=A.in1) (s:=s) e2 e4 rfl rfl
   have e5:rn (.str a[j]) (.str b[j])=decide (a[j]?=b[j]?):=by
    show(a[j]==b[j])=_
    rw [Jz,KJ,Jo,g1,g2]
    exact⟨fun z=>by rw [z],fun z=>Jk z⟩
   rw [e5] at this
   exact this
  have e6:((List.range (min its.toArray.size its2.toArray.size)).all (fun j=>decide (a[j]?=b[j]?))&&its.toArray.size==its2.toArray.size)=decide (a=b):=by
   rw [IY,IY,← l1,← l2,Jz,Ka,JO,KJ,Jo]
   constructor
   ·rintro⟨h,hl⟩
    refine L6 fun j=>?_
    by_cases hj:j<a.length
    ·exact JF (h j (JK.mpr (by lia)))
    ·rw [Jm (by lia),Jm (by lia)]
   ·rintro rfl
    exact⟨fun j _=>IL rfl,rfl⟩
  rw [e6] at this
  exact .of_refs e this
def Be(X:Cx):R2:=fun x y H Q=>∃ p q qs ts t,x=.ref p∧y=.ref q∧X.A.units+1<cLine∧H p=some (.tup (aF t))∧H q=some (.lst (qs.map V.ref))∧Paired (fun t q=>H q=some (.tup (aF t))) ts qs∧Q (.bl (!decide (t∈ts))) H
def nI:gr X (compareOp .NotIn) (Be X):=by
 intro pins s σ H x y v u Q I rx ry h
 obtain⟨p,q,qs,ts,t,rfl,rfl,hu,hp,hq,hpq,k⟩:=h
 cases rx
 cases ry
 obtain⟨its,r,pl,hz⟩:=I.list (aA.of (K:=X.K) hq)
 let e:Value→Bool:=fun u=>match u with
  | .ref b=>match H b with
   | some (.tup xs)=>decide (xs=aF t)
   | _=>false
  | _=>false
 have inj:∀ {a b:List Str},aF a=aF b→a=b:=fun {a b} z=>by
  unfold aF at z
  exact MI (fun _ _ z=>by injection z) |>.mp z
 have he:∀ (b:Addr) (t':List Str),H b=some (.tup (aF t'))→e (.ref b)=decide (t'=t):=fun b t' hb=>by
  show(match H b with | some (.tup xs)=>decide (xs=aF t) | _=>false)=_
  rw [hb]
  exact KH.mpr ⟨inj,fun z=>by rw [z]⟩
 have all:∀ {ts:List (List Str)} {qs:List Addr} {us:List Value},Paired (fun t q=>H q=some (.tup (aF t))) ts qs→Vals (qs.map V.ref) us→(∀ w∈us,SeqAt.EqAt X.A.in1 s w (.ref p) (e w))∧us.any e=decide (t∈ts):=by
  intro ts qs us h
  induction h generalizing us with
  | nil =>
   intro hv
   cases hv
   exact⟨(fun w hw=>by cases hw),by simp⟩
  | @cons t' q' ts qs h0 ht ih =>
   intro hv
   cases hv with
   | cons r0 rt =>
    cases r0
    obtain⟨i1,i2⟩:=ih rt
    refine⟨fun w hw=>?_,?_⟩
    ·rcases IP.mp hw with rfl | hw
     ·rw [he q' t' h0]
      exact xF I (bO.of h0) (bO.of hp) (by show X.A.units+1<cLine;exact hu)
     ·exact i1 w hw
    ·rw [K0,i2,he q' t' h0]
     rw [Jz,Mr,Jo,Jo,Jo,IP]
     exact⟨fun z=>z.imp Eq.symm id,fun z=>z.imp Eq.symm id⟩
 obtain⟨a1,a2⟩:=all hpq r
 refine SeqAt.notIn_listAt e pl.isList (fun w hw=>a1 w (by simpa using hw)) ⟨.bl _,H,I,rfl,?_⟩
 rw [show its.toArray.any e=its.any e by simp,a2]
 exact k
end
end L2
end
section
namespace Uf
open PySem L2 UfSrt UfFin
abbrev lF:Stmt:=top 51
def Bd(a b:List Str):aF a++aF b=aF (a++b):=(List.map_append ..).symm
structure Cf(L:List Str)(ms:List Mv):Prop where
 nd:L.Nodup
 ll:L.length≤12
 e:∀ m∈ms,mw L m.2.1 m.2.2
structure uv(L t:List Str):Prop where
 ris:cQ t
 sub:∀ x∈t,x∈L
def uv.len{L t:List Str}(hl:L.length≤12)(h:uv L t):t.length≤12:=Jf (dI h.ris.nd h.sub) hl
def uv.next{L t tk gv:List Str}(h:uv L t)(hg:∀ x∈gv,x∈L)(gn:gv.Nodup)(hs:second tk gv t=false):uv L (behind tk gv t):=by
 refine⟨cQ.aH (JT.mpr ⟨h.ris.nd.sublist LG,gn,fun a ha b hb=>?_⟩),fun x hx=>?_⟩
 ·rintro rfl
  obtain⟨h1,h2⟩:=Jl.mp ha
  have h3:second tk gv t=true:=Kr.mpr ⟨a,hb,by simp at h2;simp [h1,h2]⟩
  rw [hs] at h3
  cases h3
 ·unfold behind at hx
  rcases Ja.mp (bE.mp hx) with z | z
  ·exact h.sub x (Jl.mp z).1
  ·exact hg x z
def Goes(W:List (List Str))(t:List Str)(m:Mv):Prop:=dB m.2.1 t=false→second m.2.1 m.2.2 t=false∧behind m.2.1 m.2.2 t∈W
def Goes.more{W W':List (List Str)}{t:List Str}{m:Mv}(h:Goes W t m)(s:∀ x∈W,x∈W'):Goes W' t m:=fun z=>⟨(h z).1,s _ (h z).2⟩
structure E9(L:List Str)(ms:List Mv)(s0:List Str)(k:Nat)(ts:List (List Str)):Prop where
 nd:ts.Nodup
 inn:∀ t∈ts,uv L t
 st:s0∈ts
 le:k≤ts.length
 go:∀ j t,j<k→ts[j]?=some t→∀ m∈ms,Goes ts t m
def E9.i9{L:List Str}{ms:List Mv}{s0:List Str}{k:Nat}{ts:List (List Str)}(hi:Cf L ms)(h:E9 L ms s0 k ts):ts.length≤4096:=by
 have h1:ts.length≤(subs (aH L)).length:=dI h.nd fun t ht=>(h.inn t ht).ris.vo (cQ.aH hi.nd) fun x hx=>bE.mpr ((h.inn t ht).sub x hx)
 rw [mR,bW] at h1
 exact Jf h1 (Jr (by decide) hi.ll:2 ^ L.length≤2 ^ 12)
def E9.told{L:List Str}{ms:List Mv}{S:List Str}{ts:List (List Str)}(h:E9 L ms (aH S) ts.length ts)(hn:(names ms).Nodup):UfBfs.Told (graph ms) (aH S) none:=by
 have go:∀ t∈ts,∀ m∈ms,Goes ts t m:=fun t ht=>by
  obtain⟨j,hj⟩:=Kw.mp ht
  exact h.go j t (IM.mp hj).1 hj
 exact kq hn (fun t=>t∈ts) h.st (fun t m J hm hl _=>(go t J m hm hl).2) fun t m J hm hl=>(go t J m hm hl).1
def x5(tk s:List Str):(tk.map fun x=>decide (x∈s)).all id = !dB tk s:=by
 unfold dB
 rw [LV,List.not_any_eq_all_not]
 congr 1
 funext x
 simp
def tP(tk gv s:List Str):(gv.map fun x=>decide (x∈s.filter fun y=>!decide (y∈tk))).any id=second tk gv s:=by
 unfold second
 rw [Mn]
 congr 1
 funext x
 rw [Jz]
 simp [Jl]
theorem e7{α β:Type}(p:α→Bool)(g:α→β):∀ xs:List α,xs.filterMap (fun x=>if p x then some (g x) else none)=(xs.filter p).map g
 | []=>rfl
 | x::xs=>by
  rw [List.filterMap_cons,La]
  cases p x
  ·exact e7 p g xs
  ·show _::_=_
   rw [e7 p g xs]
   rfl
def ra(K:PySem.W.Frag):Sp:=fun vs H Q _=>∃ (a b:Addr) (L S:List Str) (ms:List Mv),vs=[.ref a,.ref b]∧uD H a ms∧Cf L ms∧(names ms).Nodup∧aA K H b (aF S)∧S.Nodup∧(∀ x∈S,x∈L) ∧
 ∀ H' r,aq H H'→(r=false→UfBfs.Told (graph ms) (aH S) none)→Q (.bl r) H'
def cK:aD ["_law_moves", "_law_start", "_law_row", "_law_at", "_law_move", "_law_takes", "_law_gives", "_law_left", "_law_there"] ["_law_moves", "_law_start"] (au lF):=eR
inductive OdI(H:Hp)(a b wq:Addr)(L s0:List Str)(ms:List Mv)(m:Nat)(σ:St)(H2:Hp):Prop
 | mk (k:Nat) (ts:List (List Str)) (v4 v5 v6 v7 v8:Option V) (q0:σ=[some (.ref a),some (.ref b),some (.ref wq),some (.int (k:Int)),v4,v5,v6,v7,v8]) (q1:aq H H2) (q2:mq H2 wq ts) (q3:E9 L ms s0 k ts) (q4:m=5000-k)
inductive OdJ(H:Hp)(a b wq hq:Addr)(L s0 t:List Str)(ms:List Mv)(k:Nat)(i:Nat)(σ:St)(H2:Hp):Prop
 | mk (ts:List (List Str)) (qs:List Addr) (v4 v5 v6 v7 v8:Option V) (q0:σ=[some (.ref a),some (.ref b),some (.ref wq),some (.int (k:Int)),v4,v5,v6,v7,v8]) (q1:aq H H2) (q2:H2 wq=some (.lst (qs.map V.ref))) (q3:Paired (fun t q=>H2 q=some (.tup (aF t))) ts qs) (q4:E9 L ms s0 k ts) (q5:ts[k]?=some t) (q6:∀ m∈ms.take i,Goes ts t m) (q7:qs[k]?=some hq) (q8:H2 hq=some (.tup (aF t)))
def xh{f:Addr}{fd:FuncData}(F:dv K "_law_crowds" "_law_crowds" lF f fd)(T:Txt K mg)(T2:Txt2 mg):bo P w K mg base cS 1 f fd ["_law_moves", "_law_start"] (ra K):=by
 refine F.oK cK fun cdv A outer s H vs Q E hr h=>?_
 ·obtain⟨a,b,L,S,ms,rfl,hsa,hin,hnn,hb,Sn,SL,kk⟩:=h
  have hsl:=Ji
  have hu1:=dY hr
  refine⟨_,af (cB 2 cK (bL (aa (a8 bK rfl T.tup fj (aa (ay dz rfl T.aH cn (aa (pv 1) ae)) ae)) ae)))
   (af (cB 3 cK ak)
   (af (jB IT (bj vO (pv 3) (ay bu rfl T.len cL (aa (pv 2) ae)) (bC _))
    (af (bq IT rfl (aK (pv 0)) (dt rfl (aL (dX 4 cK) (aL (dX 5 cK) (aL (dX 6 cK) cH))))
     (ai (bH (cf (ay (iq rfl) rfl T.all qX (aa (bN (N:=["_law_place", "_law_row", "_law_at"]) (n:=1) (ci:=[2,3]) rfl (aK (pv 5))
       (j6 cK)
       (fun z=>⟨jg 0,bV,cY j7 (pv 0) (bb aR (pv 1) (pv 2) (fun _ _=>rfl)) (by with_unfolding_all rfl)⟩)) ae)))
      (af (cB 7 cK (bN (N:=["_law_place", "_law_takes"]) (n:=1) (ci:=[5]) rfl (gR (bb aR (pv 2) (pv 3) (fun _ _=>rfl)))
       (j6 cK)
       (fun z=>⟨jg 0,fg (bj dQ (pv 0) (pv 1) (by with_unfolding_all rfl)),pv 0⟩)))
      (af (bH (cf (ay (mS rfl) rfl T2.any zq (aa (bN (N:=["_law_place", "_law_left"]) (n:=1) (ci:=[7]) rfl (aK (pv 6))
       (j6 cK)
       (fun z=>⟨jg 0,bV,cY j7 (pv 0) (pv 1) (by with_unfolding_all rfl)⟩)) ae))) (ai (aI jP)) aU)
      (af (cB 8 cK (a8 bK rfl T.tup fj (aa (ay dz rfl T.aH cn (aa (aE jj (pv 7) (pv 6)) ae)) ae)))
      (ai (bH (bj nI (pv 8) (pv 2) (by with_unfolding_all rfl)) (ai (a9 (cR Jb IZ I0 aV (pv 2) (aa (pv 8) ae)))) aU))))) aU)))
    (ai (cB 3 cK (aE fE (pv 3) ak)))))
   (ai (aI jP)))),?_⟩
  have ll:=hin.ll
  have lS:S.length≤12:=Jf (dI Sn SL) ll
  obtain⟨qs0,hqs0,hpe⟩:=hsa
  refine⟨_,rfl,b,S,rfl,hb,by lia,fun q1 n1=>⟨q1,_,rfl,.inl ⟨aA.of ag,fun a0 na0=>?_⟩⟩⟩
  have s1:=(ao (o:=.lst (aF (aH S))) n1).trans (ao (o:=.tup (aF (aH S))) na0)
  have ha0:(upd (upd H q1 (.lst (aF (aH S)))) a0 (.tup (aF (aH S)))) a0=some (.tup (aF (aH S))):=ag
  generalize upd (upd H q1 (.lst (aF (aH S)))) a0 (.tup (aF (aH S)))=H1 at s1 ha0 ⊢
  refine⟨by show 1≤sizeLine;lia,fun wq H2 nwq s2 hwq=>?_⟩
  have nwq0:H wq=none:=s1.free nwq
  have ha2:=s2 _ _ ha0
  have s02:=s1.trans s2
  have st0:uv L (aH S):=⟨cQ.aH Sn,fun x hx=>SL x (bE.mp hx)⟩
  refine⟨OdI H a b wq L (aH S) ms,⟨_,0,[aH S],none,none,none,none,none,rfl,s02,⟨[a0],hwq,.cons ha2 .nil⟩,⟨by simp,fun t ht=>by rw [Jd.mp ht];exact st0,by simp,IU _,fun j t hj=>absurd hj (by lia)⟩,rfl⟩,?_⟩
  rintro m σ H3 ⟨k,ts,v4,v5,v6,v7,v8,rfl,s3,⟨qs,hqs,hpq⟩,oq,rfl⟩
  have i9:=oq.i9 hin
  have lpq:=IX hpq
  refine⟨_,rfl,_,rfl,_,ts.length,rfl,.inl ⟨_,aA.of hqs,by rw [List.length_map,lpq]⟩,_,_,rfl,rfl,_,rfl,?_⟩
  by_cases hk:k<ts.length
  ·rw [IL (show((k:Nat):Int)<((ts.length:Nat):Int) by lia)]
   refine bF ⟨fun σ' H'=>∃ m',m'<5000-k∧OdI H a b wq L (aH S) ms m' σ' H',fun σ' H' h=>h,?_⟩
   have htk:ts[k]?=some ts[k]:=IG hk
   have hqk:qs[k]?=some (qs[k]'(by lia)):=IG (by lia)
   obtain⟨t',ht',hq'⟩:=bA hpq hqk
   generalize qs[k]'(by lia)=hq at hqk hq'
   rw [htk] at ht'
   obtain rfl:ts[k]=t':=Jk ht'
   generalize ts[k]=t at htk hq'
   have hst:=oq.inn t (IK htk)
   have lt12:=hst.len ll
   refine⟨_,rfl,a,rfl,⟨_,aA.of (s3 _ _ hqs0)⟩,br (K:=K) (a:=a) (xs:=qs0.map V.ref) (OdJ H a b wq hq L (aH S) t ms k)
    ⟨ts,qs,_,_,_,_,_,rfl,s3,hqs,hpq,oq,htk,(fun e he=>by simp at he),hqk,hq'⟩ (fun i σ H4 _ h=>by obtain⟨_,_,_,_,_,_,_,_,b,_⟩:=h;exact aA.of (b _ _ hqs0)) ?_ ?_⟩
   ·rintro i v σ H4 hi ⟨ts,qs,v4,v5,v6,v7,v8,rfl,s4,hqs,hpq,oq,htk,hgo,hqk,hq4⟩
    obtain⟨q,hqi,rfl⟩:=fF hi
    obtain⟨m,hmi,l,g,htq,hl,hg⟩:=bA hpe hqi
    have en:=hin.e m (IK hmi)
    have et4:=en.t4
    have eg4:=en.g4
    have etk:ms.take (i+1)=ms.take i++[m]:=av hmi
    have addM:∀ {ts':List (List Str)},(∀ x∈ts,x∈ts')→Goes ts' t m→∀ m'∈ms.take (i+1),Goes ts' t m':=fun {ts'} hsub hne m' hm'=>by
     rw [etk] at hm'
     rcases Ja.mp hm' with z | z
     ·exact(hgo m' z).more hsub
     ·rw [Jd.mp z]
      exact hne
    have hatk:∀ {H':Hp},aq H4 H'→aA K H' wq (qs.map V.ref):=fun s=>aA.of (s _ _ hqs)
    have atk:sS (qs.map V.ref) (k:Int)=some (.ref hq):=bh (j:=k) (by rw [List.getElem?_map,hqk];rfl)
    refine⟨q,_,rfl,bO.of (s4 _ _ htq),rfl,_,_,rfl,_,_,rfl,_,_,rfl,rfl,?_⟩
    refine⟨_,rfl,l,rfl,⟨_,aA.of (s4 _ _ hl)⟩,fun z D hD=>iw (zs:=m.2.1) (v:=V.str) (F:=fun x=>some (V.bl (decide (x∈t)))) (aA.of (s4 _ _ hl)) (by lia) hD (fun x hx H5 s5 no yes _ hyes=>⟨_,rfl,_,rfl,_,rfl,wq,_,_,_,rfl,rfl,hatk s5,atk,hq,aF t,rfl,.inr (bO.of (s5 _ _ hq4)),rfl,eL t,hyes _ (by rw [ji];rfl) _ (aq.refl _)⟩) fun H5 s5 hD5=>?_⟩
    rw [filterMap_some] at hD5
    refine⟨D,m.2.1.map fun x=>decide (x∈t),rfl,aA.of (by rw [List.map_map];exact hD5),?_⟩
    rw [x5]
    refine⟨_,rfl,?_⟩
    have s05:=s4.trans s5
    have hq5:=s5 _ _ hq4
    have hpq5:Paired (fun t q=>H5 q=some (.tup (aF t))) ts qs:=Paired.cu hpq fun _ _ e=>s5 _ _ e
    cases c1:dB m.2.1 t with
    | true=>exact bB ⟨ts,qs,_,_,_,_,_,rfl,s05,s5 _ _ hqs,hpq5,oq,htk,addM (fun x hx=>hx) (fun z=>by rw [c1] at z;cases z),hqk,hq5⟩
    | false =>
     refine bF ?_
     refine⟨_,rfl,_,rfl,wq,_,_,_,rfl,rfl,hatk s5,atk,hq,rfl,⟨_,bO.of hq5⟩,fun z D1 hD1=>mM (zs:=t) (v:=V.str) (F:=fun x=>if !decide (x∈m.2.1) then some (V.str x) else none) (bO.of hq5) (by lia) hD1 (fun x hx H6 s6 no yes hno hyes=>⟨_,rfl,_,rfl,l,aF m.2.1,rfl,.inl (aA.of ((s05.trans s6) _ _ hl)),rfl,eL _,_,rfl,?_⟩) fun H6 s6 hre=>?_⟩
     ·show if (!Cd (V.str x) (aF m.2.1))=true then _ else _
      rw [ji]
      cases c2:decide (x∈m.2.1) with
      | true=>exact bB (hno (by rw [c2];rfl) _ (aq.refl _))
      | false=>exact bF ⟨_,rfl,hyes _ (by rw [c2];rfl) _ (aq.refl _)⟩
     rw [e7] at hre
     have hre:H6 D1=some (.lst (aF (t.filter fun x=>!decide (x∈m.2.1)))):=hre
     have lre:(t.filter fun x=>!decide (x∈m.2.1)).length≤12:=Jf (JB _ _) lt12
     have s06:=s05.trans s6
     refine⟨_,rfl,g,rfl,⟨_,aA.of (s06 _ _ hg)⟩,fun z D2 hD2=>iw (zs:=m.2.2) (v:=V.str) (F:=fun x=>some (V.bl (decide (x∈t.filter fun y=>!decide (y∈m.2.1))))) (aA.of (s06 _ _ hg)) (by lia) hD2 (fun x hx H7 s7 no yes _ hyes=>⟨_,rfl,_,rfl,D1,aF (t.filter fun y=>!decide (y∈m.2.1)),rfl,.inl (aA.of (s7 _ _ hre)),rfl,eL _,hyes _ (by rw [ji];rfl) _ (aq.refl _)⟩) fun H7 s7 hD7=>?_⟩
     rw [filterMap_some] at hD7
     refine⟨D2,m.2.2.map fun x=>decide (x∈t.filter fun y=>!decide (y∈m.2.1)),rfl,aA.of (by rw [List.map_map];exact hD7),?_⟩
     rw [tP]
     refine⟨_,rfl,?_⟩
     have s07:=s06.trans s7
     cases c2:second m.2.1 m.2.2 t with
     | true=>exact bF (kk _ true s07 fun z=>nomatch z)
     | false =>
      refine bB ?_
      refine⟨_,rfl,_,rfl,D1,g,_,_,rfl,rfl,s7 _ _ hre,s07 _ _ hg,by rw [aw,aw];lia,fun c3 nc3=>?_⟩
      rw [Bd]
      obtain⟨H8,eU,s8,hc3⟩:=nE nc3 (.lst (aF ((t.filter fun x=>!decide (x∈m.2.1))++m.2.2)))
      rw [eU]
      refine⟨c3,_,rfl,aA.of hc3,by rw [List.length_append];lia,fun q4 n4=>⟨q4,_,rfl,.inl ⟨aA.of ag,fun tq ntq=>?_⟩⟩⟩
      have s9:=(ao (o:=.lst (aF (aH ((t.filter fun x=>!decide (x∈m.2.1))++m.2.2)))) n4).trans (ao (o:=.tup (aF (aH ((t.filter fun x=>!decide (x∈m.2.1))++m.2.2)))) ntq)
      have htq9:(upd (upd H8 q4 (.lst (aF (aH ((t.filter fun x=>!decide (x∈m.2.1))++m.2.2))))) tq (.tup (aF (aH ((t.filter fun x=>!decide (x∈m.2.1))++m.2.2))))) tq=some (.tup (aF (behind m.2.1 m.2.2 t))):=ag
      generalize upd (upd H8 q4 (.lst (aF (aH ((t.filter fun x=>!decide (x∈m.2.1))++m.2.2))))) tq (.tup (aF (aH ((t.filter fun x=>!decide (x∈m.2.1))++m.2.2))))=H9 at s9 htq9 ⊢
      have s59:=s6.trans (s7.trans (s8.trans s9))
      have s49:=s5.trans s59
      have s09:=s4.trans s49
      have hqs9:=s49 _ _ hqs
      have hpq9:Paired (fun t q=>H9 q=some (.tup (aF t))) ts qs:=Paired.cu hpq fun _ _ e=>s49 _ _ e
      have hq9:=s49 _ _ hq4
      have i9:=oq.i9 hin
      have lpq:=IX hpq
      refine⟨_,rfl,_,rfl,tq,wq,qs,ts,behind m.2.1 m.2.2 t,rfl,rfl,hu1,htq9,hqs9,hpq9,_,rfl,?_⟩
      by_cases hb':behind m.2.1 m.2.2 t∈ts
      ·rw [IL hb']
       exact bB ⟨ts,qs,_,_,_,_,_,rfl,s09,hqs9,hpq9,oq,htk,addM (fun x hx=>hx) (fun _=>⟨c2,hb'⟩),hqk,hq9⟩
      ·rw [decide_eq_false hb']
       refine bF ?_
       refine⟨_,rfl,.inl ⟨rfl,_,aA.of hqs9⟩,_,rfl,wq,_,_,rfl,rfl,hqs9,by rw [List.length_map];lia,?_⟩
       have up:∀ {b:Addr} {xs:List V},H9 b=some (.tup xs)→(upd H9 wq (.lst (qs.map V.ref++[V.ref tq]))) b=some (.tup xs):=fun {b xs} e=>by rw [ah (aJ e hqs9 (fun z=>nomatch z))];exact e
       have hlt:k<ts.length:=(IM.mp htk).1
       refine⟨ts++[behind m.2.1 m.2.2 t],qs++[tq],_,_,_,_,_,rfl,aY s09 nwq0,by rw [ag,List.map_append];rfl,JZ (Paired.cu hpq9 fun _ _ e=>up e) (up htq9),⟨?_,fun t' ht'=>?_,Jv _ oq.st,by have:=oq.le;rw [List.length_append];lia,fun j t' hj hjt m' hm'=>?_⟩,by rw [Jx hlt];exact htk,addM (fun x hx=>Jv _ hx) (fun _=>⟨c2,Js _ (Jd.mpr rfl)⟩),by rw [Jx (by lia)];exact hqk,up hq9⟩
       ·refine JT.mpr ⟨oq.nd,by simp,fun x hx y hy=>?_⟩
        rw [Jd.mp hy]
        rintro rfl
        exact hb' hx
       ·rcases Ja.mp ht' with z | z
        ·exact oq.inn t' z
        ·rw [Jd.mp z]
         exact hst.next en.gi en.gn c2
       ·rw [Jx (by have:=oq.le;lia)] at hjt
        exact(oq.go j t' hj hjt m' hm').more fun x hx=>Jv _ hx
   ·rintro σ H4 ⟨ts,qs,v4,v5,v6,v7,v8,rfl,s4,hqs,hpq,oq,htk,hgo,hqk,hq4⟩
    rw [List.length_map,← IX hpe,Jc] at hgo
    have hk2:k<ts.length:=(IM.mp htk).1
    have i9:=oq.i9 hin
    refine⟨_,rfl,_,_,rfl,rfl,5000-(k+1),by lia,k+1,ts,_,_,_,_,_,by push_cast;rfl,s4,⟨qs,hqs,hpq⟩,⟨oq.nd,oq.inn,oq.st,hk2,fun j t' hj hjt=>?_⟩,rfl⟩
    by_cases e:j=k
    ·subst e
     rw [htk] at hjt
     cases hjt
     exact hgo
    ·exact oq.go j t' (by lia) hjt
  ·rw [decide_eq_false (show ¬((k:Nat):Int)<((ts.length:Nat):Int) by lia)]
   have ek:k=ts.length:=by have:=oq.le;lia
   subst ek
   exact bB (kk _ false s3 fun _=>oq.told hnn)
abbrev wz:Stmt:=top 52
abbrev pB:Stmt:=top 53
def pick(L:List Str)(c:Nat→Bool):List Str:=((List.range 7).filter c).map fun k=>L.getD k ""
def ma{L:List Str}(hl:L.length=7)(c:Nat→Bool):∀ x∈pick L c,x∈L:=fun x hx=>by
 obtain⟨k,hk,rfl⟩:=IV.mp hx
 have:k<L.length:=by rw [hl];exact JK.mp (Jl.mp hk).1
 rw [List.getD_eq_getElem?_getD,IG this]
 exact KC this
def pH{L:List Str}(hl:L.length=7)(hn:L.Nodup)(c:Nat→Bool):(pick L c).Nodup:=by
 refine Lr.mpr ((Md.filter _).imp_of_mem fun {a b} ha hb n e=>n ?_)
 have h1:a<L.length:=by rw [hl];exact JK.mp (Jl.mp ha).1
 have h2:b<L.length:=by rw [hl];exact JK.mp (Jl.mp hb).1
 rw [List.getD_eq_getElem?_getD,IG h1,List.getD_eq_getElem?_getD,IG h2] at e
 exact(MS hn).mp e
def oi{L:List Str}(hl:L.length=7)(hn:L.Nodup)(c d:Nat→Bool){tk:List Str}(ht:(tk=(pick L c).take 4∧tk≠[])∨∃ x∈L,tk=[x]):mw L tk ((pick L d).take 4):=by
 have g4:((pick L d).take 4).length≤4:=by rw [Jj];exact Ng _ _
 have gn:=(pH hl hn d).sublist (Lq 4 _)
 have gi:∀ x∈(pick L d).take 4,x∈L:=fun x hx=>ma hl d x (Kb hx)
 rcases ht with⟨rfl,ne⟩ | ⟨x,hx,rfl⟩
 ·exact⟨(pH hl hn c).sublist (Lq 4 _),fun x hx=>ma hl c x (Kb hx),LI.mpr ne,by rw [Jj];exact Ng _ _,gn,gi,g4⟩
 ·exact⟨by simp,fun y hy=>by rw [Jd.mp hy];exact hx,II _,by show 1≤4;decide,gn,gi,g4⟩
def CK:List Int:=[1,7,49,343,2401,16807,117649]
def GQ:∀ k<7,0<CK.getD k 0∧CK.getD k 0<1073741824:=by decide
def AK(S:List Str):UfBfs.Told (graph []) (aH S) none:=kq .nil (fun _=>True) trivial (fun _ _ _ _ _ _=>trivial) fun _ _ _ h=>nomatch h
def cU:aD ["_law_script", "_law_most", "_law_naming", "_law_names", "_law_start", "_law_moves", "_law_number", "_law_ways", "_law_takes", "_law_gives", "_law_more"] ["_law_script", "_law_most"] (au wz):=eR
inductive FrI(H:Hp)(a nl st:Addr)(nm:Int)(L S:List Str)(i:Nat)(σ:St)(H2:Hp):Prop
 | mk (mv:Addr) (v6 v7 v8 v9 v10:Option V) (ms:List Mv) (q0:σ=[some (.ref a),some (.int 8),some (.int nm),some (.ref nl),some (.ref st),some (.ref mv),v6,v7,v8,v9,v10]) (q1:aq H H2) (q2:uD H2 mv ms) (q3:names ms=sT (nm / 4048) ms.length) (q4:ms.length≤i) (q5:Cf L ms) (q6:UfBfs.Told (graph ms) (aH S) none)
def B0{f:Addr}{fd:FuncData}(F:dv K "_law_free" "_law_free" wz f fd)(T:Txt K mg)(T2:Txt2 mg)(mi:mg "min"=none)
  (DC:gJ P w K mg base "_law_cell_at" nh ["_law_script", "_law_k"] 1 (lX K))
  (DN:gJ P w K mg base "_law_name" rR ["_law_cell", "_law_k"] 1 uM)
  (DF:gJ P w K mg base "_law_folded" jE ["_law_cells", "_law_many"] 1 (mX K))
  (DX:gJ P w K mg base "_law_crowds" lF ["_law_moves", "_law_start"] 1 (ra K)) :
  bo P w K mg base cS 2 f fd ["_law_script", "_law_most"] (iI K):=by
 refine F.oK cU fun cdv A outer s H vs Q E hr h=>?_
 ·obtain⟨a,ns,rfl,ha,hz,kk⟩:=h
  have hsl:=Ji
  have hr1:cw 1 _:=hr
  have hu:=dY hr
  refine⟨_,af (cB 2 cU (eA DC hr1 (aa (pv 0) (aa ak ae))))
   (af (cB 3 cU (bN (N:=["_law_k", "_law_naming"]) (n:=1) (ci:=[2]) rfl (cN rfl T2.rng (aa ak ae)) (j6 cU) (fun z=>⟨jg 0,bV,eA DN hr1 (aa (pv 1) (aa (pv 0) ae))⟩)))
   (af (gf (j:=4) (N:=["_law_k", "_law_names", "_law_script"]) (n:=1) (ci:=[3,0]) rfl cU.nd rfl rfl (cN rfl T2.rng (aa ak ae)) (j6 cU) (fun z=>⟨jg 0,fg (bj gX (aE iF (aE pf (aE cm (eA DC hr1 (aa (pv 2) (aa ak ae))) ak) (pv 0)) ak) ak (bC _)),bb aR (pv 1) (pv 0) (fun _ _=>rfl)⟩))
   (af (cB 5 cU (bL ae))
   (af (bq IT rfl (aK (eA DF hr1 (aa (dU fZ (pv 0) (eK ak) gh) (aa (ay (oW rfl) rfl mi Di (aa (pv 1) (aa (ay bu rfl T.len cL (aa (dU fZ (pv 0) (eK ak) gh) ae)) ae))) ae)))) (dX 6 cU)
    (af (cB 7 cU (bN (N:=["_law_k", "_law_number"]) (n:=1) (ci:=[6]) rfl (cN rfl T2.rng (aa ak ae)) (j6 cU) (fun z=>⟨jg 0,bV,aE cv (aE cm (aE cm (pv 1) ak) (bb aR (bL (aa ak (aa ak (aa ak (aa ak (aa ak (aa ak (aa ak ae)))))))) (pv 0) (fun _ _=>rfl))) ak⟩)))
    (af (cB 8 cU (dU fZ (bN (N:=["_law_k", "_law_names", "_law_ways"]) (n:=1) (ci:=[3,7]) rfl (cN rfl T2.rng (aa ak ae)) (j6 cU) (fun z=>⟨jg 0,fg (PW.pt (pw_or (bj gX (bb aR (pv 2) (pv 0) (fun _ _=>rfl)) ak (bC _)) (pw_or1 (bj gX (bb aR (pv 2) (pv 0) (fun _ _=>rfl)) ak (bC _))))),bb aR (pv 1) (pv 0) (fun _ _=>rfl)⟩)) gh (eK ak)))
    (af (cB 9 cU (dU fZ (bN (N:=["_law_k", "_law_names", "_law_ways"]) (n:=1) (ci:=[3,7]) rfl (cN rfl T2.rng (aa ak ae)) (j6 cU) (fun z=>⟨jg 0,fg (PW.pt (pw_or (bj gX (bb aR (pv 2) (pv 0) (fun _ _=>rfl)) ak (bC _)) (pw_or1 (bj gX (bb aR (pv 2) (pv 0) (fun _ _=>rfl)) ak (bC _))))),bb aR (pv 1) (pv 0) (fun _ _=>rfl)⟩)) gh (eK ak)))
    (af (bH (bj eq_nil (pv 8) (bL ae) (bC _)) (ai (cB 8 cU (bL (aa (bb aR (pv 3) (aE cv (pv 6) ak) (fun _ _=>rfl)) ae)))) aU)
    (af (cB 10 cU (aE jj (pv 5) (bL (aa (jU (aa (eA DN hr1 (aa (aE cm (pv 2) ak) (aa (ay bu rfl T.len cL (aa (pv 5) ae)) ae))) (aa (pv 8) (aa (pv 9) ae)))) ae))))
    (ai (bH (cz (cf (eA DX hr1 (aa (pv 10) (aa (pv 4) ae))))) (ai (cB 5 cU (pv 10))) aU))))))))
   (ai (aI (jU (aa (pv 5) (aa (pv 4) ae))))))))),?_⟩
  have cell:∀ {H':Hp},aq H H'→aA K H' a (ns.map V.int):=fun s=>s.seq ha
  refine⟨_,rfl,a,ns,1,rfl,ha,hz,?_⟩
  generalize ns.getD 1 0=nm
  refine⟨_,rfl,by decide,by decide,fun z D1 hD1=>fA (m:=7) (F:=fun k=>some (V.str (hC nm k))) (by lia) hD1 (fun k hk H3 s3 no yes _ hyes=>⟨_,rfl,_,rfl,nm,k,rfl,by lia,hyes _ rfl _ (aq.refl _)⟩) fun H1 s1 hn1=>?_⟩
  rw [filterMap_some,show((List.range 7).map fun k=>V.str (hC nm k))=aF (sT nm 7) by unfold sT aF;rw [List.map_map];rfl] at hn1
  have uL:=fJ nm (n:=7) (by decide)
  have lL:=lE nm 7
  have nL:=dE uL
  generalize sT nm 7=L at hn1 uL lL nL
  have atL:∀ {k:Nat},k<7→sS (aF L) (k:Int)=some (.str (L.getD k "")):=fun {k} hk=>by
   have:=lu (xs:=L) (i:=(k:Int)) (by lia) (by lia)
   rwa [JA] at this
  generalize hcb:(fun k:Nat=>decide (V.int (PySem.Builtin.bitAnd (ns.getD 2 0 / 2 / 2 ^ ((k:Nat):Int).toNat) 1)=V.int 1))=cb
  refine⟨_,rfl,by decide,by decide,fun z D2 hD2=>fA (m:=7) (F:=fun k=>if cb k then some (V.str (L.getD k "")) else none) (by lia) hD2 (fun k hk H3 s3 no yes hno hyes=>?_) fun H2 s2 hs2=>?_⟩
  ·refine⟨_,rfl,a,ns,2,rfl,cell (s1.trans s3),hz,_,_,rfl,rfl,⟨by decide,by decide⟩,_,rfl,_,_,rfl,rfl,(by lia),_,_,rfl,rfl,rfl,_,rfl,?_⟩
   have ec:decide (V.int (PySem.Builtin.bitAnd (ns.getD 2 0 / 2 / 2 ^ ((k:Nat):Int).toNat) 1)=V.int 1)=cb k:=by rw [← hcb]
   rw [ec]
   cases c:cb k with
   | true=>exact bF ⟨_,rfl,_,rfl,D1,_,_,_,rfl,rfl,aA.of (s3 _ _ hn1),atL hk,hyes _ (by rw [c];rfl) _ (aq.refl _)⟩
   | false=>exact bB (hno (by rw [c];rfl) _ (aq.refl _))
  have epk:∀ c:Nat→Bool,(List.range 7).filterMap (fun k=>if c k then some (V.str (L.getD k "")) else none)=aF (pick L c):=fun c=>by rw [e7];unfold pick aF;rw [List.map_map];rfl
  rw [epk] at hs2
  have Sn:=pH lL nL cb
  have SL:=ma lL cb
  generalize pick L cb=S at hs2 Sn SL
  refine⟨IU _,fun mv H3 nmv s3 hmv=>?_⟩
  have s03:=s1.trans (s2.trans s3)
  have e3:ix (ns.map V.int) (some (3:Int)) none=(ns.drop 3).map V.int:=by rw [show(3:Int)=((3:Nat):Int) from rfl,FA,NH]
  generalize hcs:ns.drop 3=cs at e3
  have lcs:cs.length≤60:=by rw [← hcs,K7];lia
  refine⟨_,rfl,_,rfl,a,_,rfl,cell s03,fun q3 n3=>?_⟩
  rw [e3]
  obtain⟨H4,eU,s4,hq3⟩:=nE n3 (.lst (cs.map V.int))
  rw [eU]
  refine⟨_,rfl,_,rfl,_,rfl,a,_,rfl,cell (s03.trans s4),fun q4 n4=>?_⟩
  rw [e3]
  have s5:aq H4 (upd H4 q4 (.lst (cs.map V.int))):=ao n4
  refine⟨_,cs.length,rfl,.inl ⟨_,aA.of ag,by rw [List.length_map]⟩,_,_,rfl,?_⟩
  generalize upd H4 q4 (.lst (cs.map V.int))=H5 at s5 ⊢
  rw [show(if ((cs.length:Nat):Int)<8 then((cs.length:Nat):Int) else 8)=((min 8 cs.length:Nat):Int) by split <;> lia]
  generalize hmn:min 8 cs.length=mn
  refine⟨q3,cs,mn,rfl,aA.of (s5 _ _ hq3),by lia,fun z=>Kh (by lia),fun H6 q5 zs s6 nq5 hq5 hzl=>?_⟩
  have s36:=s4.trans (s5.trans s6)
  have s26:=s3.trans s36
  have s06:=s03.trans s36
  refine⟨q5,rfl,⟨_,aA.of hq5⟩,br (K:=K) (a:=q5) (xs:=zs.map V.int) (FrI H6 a D1 D2 nm L S) ⟨mv,none,none,none,none,none,[],rfl,aq.refl _,⟨[],s36 _ _ hmv,.nil⟩,rfl,II _,⟨nL,by lia,(fun _ h=>nomatch h)⟩,AK S⟩ (fun i σ H2 _ h=>by obtain⟨_,_,_,_,_,_,_,_,b,_⟩:=h;exact aA.of (b _ _ hq5)) ?_ ?_⟩
  ·rintro i v σ H7 hi ⟨mv,v6,v7,v8,v9,v10,ms,rfl,s7,mvs,enm,lms,hin,told⟩
   obtain⟨n,hn,rfl⟩:=ints_get hi
   have il:=(IM.mp hn).1
   have hn7:=(s26.trans s7) _ _ (s2 _ _ hn1)
   refine⟨_,rfl,by decide,by decide,fun z D3 hD3=>fA (m:=7) (F:=fun k=>some (V.int (n / 512 / CK.getD k 0 % 7))) (by lia) hD3 (fun k hk H8 s8 no yes _ hyes=>⟨_,rfl,_,_,rfl,rfl,⟨by decide,by decide⟩,by show 7≤sizeLine;lia,fun l H9 _ s9 hl=>⟨_,rfl,l,_,_,_,rfl,rfl,aA.of (xs:=CK.map V.int) hl,hE hk,_,_,rfl,rfl,GQ k hk,_,_,rfl,rfl,(by show(0:Int)<7;decide),hyes _ rfl _ s9⟩⟩) fun H8 s8 hw=>?_⟩
   rw [filterMap_some,show((List.range 7).map fun k=>V.int (n / 512 / CK.getD k 0 % 7))=((List.range 7).map fun k=>n / 512 / CK.getD k 0 % 7).map V.int by rw [List.map_map];rfl] at hw
   have lw:((List.range 7).map fun k=>n / 512 / CK.getD k 0 % 7).length=7:=by rw [List.length_map,List.length_range]
   generalize ((List.range 7).map fun k=>n / 512 / CK.getD k 0 % 7)=ws at hw lw
   have hn8:=s8 _ _ hn7
   refine⟨_,rfl,by decide,by decide,fun z D4 hD4=>fA (m:=7) (F:=fun k=>if (ws.getD k 0==1 || ws.getD k 0==3) then some (V.str (L.getD k "")) else none) (by lia) hD4 (fun k hk H9 s9 no yes hno hyes=>?_) fun H9 s9 hk9=>?_⟩
   ·refine⟨_,rfl,_,rfl,D3,_,_,_,rfl,rfl,aA.of (s9 _ _ hw),hE (by lia),rfl,_,rfl,?_⟩
    by_cases w1:ws.getD k 0=1
    ·rw [IL (show V.int (ws.getD k 0)=V.int 1 by rw [w1])]
     exact bF (bF ⟨_,rfl,_,rfl,D1,_,_,_,rfl,rfl,aA.of (s9 _ _ hn8),atL hk,hyes _ (by simp only [w1];rfl) _ (aq.refl _)⟩)
    ·rw [decide_eq_false (show ¬ V.int (ws.getD k 0)=V.int 1 from fun z=>w1 (by injection z))]
     refine bB ⟨_,rfl,_,rfl,D3,_,_,_,rfl,rfl,aA.of (s9 _ _ hw),hE (by lia),rfl,_,rfl,?_⟩
     by_cases w3:ws.getD k 0=3
     ·rw [IL (show V.int (ws.getD k 0)=V.int 3 by rw [w3])]
      exact bF ⟨_,rfl,_,rfl,D1,_,_,_,rfl,rfl,aA.of (s9 _ _ hn8),atL hk,hyes _ (by simp only [w3];rfl) _ (aq.refl _)⟩
     ·rw [decide_eq_false (show ¬ V.int (ws.getD k 0)=V.int 3 from fun z=>w3 (by injection z))]
      exact bB (hno (if_neg (fun z=>(NN.mp z).elim (fun z=>w1 (eq_of_beq z)) fun z=>w3 (eq_of_beq z))) _ (aq.refl _))
   rw [epk] at hk9
   refine⟨_,rfl,D4,_,rfl,aA.of hk9,fun q nq=>?_⟩
   rw [show ix (aF (pick L fun k=>ws.getD k 0==1 || ws.getD k 0==3)) none (some (4:Int))=aF ((pick L fun k=>ws.getD k 0==1 || ws.getD k 0==3).take 4) from C3 _ 4]
   generalize hp1:(pick L fun k=>ws.getD k 0==1 || ws.getD k 0==3).take 4=tk
   obtain⟨Ha,eU,sa,hqa⟩:=nE nq (.lst (aF tk))
   rw [eU]
   have s8a:=s9.trans sa
   have hwa:=s8a _ _ hw
   have hna:=s8a _ _ hn8
   refine⟨_,rfl,by decide,by decide,fun z D5 hD5=>fA (m:=7) (F:=fun k=>if (ws.getD k 0==2 || ws.getD k 0==3) then some (V.str (L.getD k "")) else none) (by lia) hD5 (fun k hk H9 s9 no yes hno hyes=>?_) fun Hb sb hkb=>?_⟩
   ·refine⟨_,rfl,_,rfl,D3,_,_,_,rfl,rfl,aA.of (s9 _ _ hwa),hE (by lia),rfl,_,rfl,?_⟩
    by_cases w1:ws.getD k 0=2
    ·rw [IL (show V.int (ws.getD k 0)=V.int 2 by rw [w1])]
     exact bF (bF ⟨_,rfl,_,rfl,D1,_,_,_,rfl,rfl,aA.of (s9 _ _ hna),atL hk,hyes _ (by simp only [w1];rfl) _ (aq.refl _)⟩)
    ·rw [decide_eq_false (show ¬ V.int (ws.getD k 0)=V.int 2 from fun z=>w1 (by injection z))]
     refine bB ⟨_,rfl,_,rfl,D3,_,_,_,rfl,rfl,aA.of (s9 _ _ hwa),hE (by lia),rfl,_,rfl,?_⟩
     by_cases w3:ws.getD k 0=3
     ·rw [IL (show V.int (ws.getD k 0)=V.int 3 by rw [w3])]
      exact bF ⟨_,rfl,_,rfl,D1,_,_,_,rfl,rfl,aA.of (s9 _ _ hna),atL hk,hyes _ (by simp only [w3];rfl) _ (aq.refl _)⟩
     ·rw [decide_eq_false (show ¬ V.int (ws.getD k 0)=V.int 3 from fun z=>w3 (by injection z))]
      exact bB (hno (if_neg (fun z=>(NN.mp z).elim (fun z=>w1 (eq_of_beq z)) fun z=>w3 (eq_of_beq z))) _ (aq.refl _))
   rw [epk] at hkb
   refine⟨_,rfl,D5,_,rfl,aA.of hkb,fun g ng=>?_⟩
   rw [show ix (aF (pick L fun k=>ws.getD k 0==2 || ws.getD k 0==3)) none (some (4:Int))=aF ((pick L fun k=>ws.getD k 0==2 || ws.getD k 0==3).take 4) from C3 _ 4]
   generalize hp2:(pick L fun k=>ws.getD k 0==2 || ws.getD k 0==3).take 4=gv
   obtain⟨Hc,eU,sc,hgc⟩:=nE ng (.lst (aF gv))
   rw [eU]
   have s7c:=s8.trans (s8a.trans (sb.trans sc))
   have hqc:=(sb.trans sc) _ _ hqa
   refine⟨_,rfl,IU _,fun e Hd ne sd he=>⟨q,e,_,rfl,rfl,hr.tD,aA.of (sd _ _ hqc),aA.of he,_,rfl,?_⟩⟩
   have n7:0≤n % 7∧n % 7<7:=by lia
   refine AB (fun c=>?_) (fun c=>?_)
   refine⟨_,rfl,_,rfl,_,_,rfl,rfl,(by show(0:Int)<7;decide),D1,_,_,_,rfl,rfl,aA.of ((s7c.trans sd) _ _ hn7),lu (by lia) (by lia),by show 1≤sizeLine;lia,fun tq He ntq se htq=>?_⟩
   have sx:=s7c.trans (sd.trans se)
   have hgx:=(sd.trans se) _ _ hgc
   have ends:mw L [L.getD (n % 7).toNat ""] gv:=by
    rw [← hp2]
    have l7:(n % 7).toNat<L.length:=by lia
    exact oi lL nL (fun _=>true) _ (.inr ⟨_,by rw [List.getD_eq_getElem?_getD,IG l7];exact KC l7,rfl⟩)
   have htq:He tq=some (.lst (aF [L.getD (n % 7).toNat ""])):=htq
   obtain⟨tw,etw⟩:∃ tw,tw=[L.getD (n % 7).toNat ""]:=⟨_,rfl⟩
   rw [← etw] at htq ends
   rotate_left
   have sx:=s7c.trans sd
   have hgx:=sd _ _ hgc
   have htq:=sd _ _ hqc
   have ends:mw L tk gv:=by
    rw [← hp2]
    exact oi lL nL _ _ (.inl ⟨hp1.symm,fun z=>c (by rw [z];rfl)⟩)
   obtain⟨tw,etw⟩:∃ tw,tw=tk:=⟨_,rfl⟩
   rw [← etw] at htq ends
   all_goals
    have mvx:=mvs.same sx
    obtain⟨qs,hqs,hpq⟩:=mvx
    have lq:=IX hpq
    refine⟨_,rfl,_,rfl,_,_,rfl,rfl,⟨by decide,by decide⟩,_,rfl,_,ms.length,rfl,.inl ⟨_,aA.of hqs,by rw [List.length_map];lia⟩,nm / 4048,ms.length,rfl,by lia,_,rfl,_,rfl,by show 3≤sizeLine;lia,fun tt Hg _ sg htt=>⟨by show 1≤sizeLine;lia,fun ll Hh _ sh hll=>⟨mv,ll,_,_,rfl,rfl,(sg.trans sh) _ _ hqs,hll,by rw [List.length_map];show qs.length+1≤_;lia,fun mo nmo=>?_⟩⟩⟩
    have si:=(sg.trans sh).trans (ao (o:=.lst (qs.map V.ref++[V.ref tt])) nmo)
    have hmo:(upd Hh mo (.lst (qs.map V.ref++[V.ref tt]))) mo=some (.lst ((qs++[tt]).map V.ref)):=by rw [ag,List.map_append];rfl
    have htt':=(sh.trans (ao (o:=.lst (qs.map V.ref++[V.ref tt])) nmo)) _ _ htt
    generalize upd Hh mo (.lst (qs.map V.ref++[V.ref tt]))=Hi at si hmo htt' ⊢
    have en2:names (ms++[(hC (nm / 4048) ms.length,tw,gv)])=sT (nm / 4048) (ms.length+1):=by
     rw [qF,← enm]
     unfold names
     rw [List.map_append]
     rfl
    have mv2:uD Hi mo (ms++[(hC (nm / 4048) ms.length,tw,gv)]):=⟨_,hmo,JZ (Paired.cu hpq fun _ _=>lN.same si) ⟨_,_,htt',si _ _ htq,si _ _ hgx⟩⟩
    have in2:Cf L (ms++[(hC (nm / 4048) ms.length,tw,gv)]):=⟨nL,by lia,fun m hm=>by
     rcases Ja.mp hm with z | z
     ·exact hin.e m z
     ·rw [Jd.mp z]
      exact ends⟩
    refine⟨_,rfl,_,rfl,mo,D2,L,S,_,rfl,mv2,in2,by rw [en2];exact dE (fJ _ (by lia)),aA.of ((s26.trans (s7.trans (sx.trans si))) _ _ hs2),Sn,SL,fun Hj r sj hr'=>⟨_,rfl,?_⟩⟩
    have s7j:=sx.trans (si.trans sj)
    cases r with
    | true=>exact bB ⟨mv,_,_,_,_,_,ms,rfl,s7.trans s7j,mvs.same s7j,enm,by lia,hin,told⟩
    | false=>exact bF ⟨_,rfl,mo,_,_,_,_,_,_,rfl,s7.trans s7j,mv2.same sj,by rw [en2,List.length_append];rfl,by rw [List.length_append];show ms.length+1≤_;lia,in2,hr' rfl⟩
  ·rintro σ H7 ⟨mv,v6,v7,v8,v9,v10,ms,rfl,s7,mvs,enm,lms,hin,told⟩
   rw [List.length_map] at lms
   have un:unlike (names ms)=true:=by rw [enm];exact fJ _ (by lia)
   exact⟨_,rfl,_,rfl,by show 2≤sizeLine;lia,fun t Hb nt sb ht=>kk Hb t mv D2 ms S (s06.trans (s7.trans sb)) ht (mvs.same sb) ((s26.trans (s7.trans sb)) _ _ hs2) (qV (L:=L) (by lia) un uL (by lia) hin.e Sn SL) told⟩
def CI:aD ["_law_script", "_law_most"] ["_law_script", "_law_most"] (au pB):=eR
def zK{f:Addr}{fd:FuncData}(F:dv K "_law_parts" "_law_parts" pB f fd)
  (DC:gJ P w K mg base "_law_cell_at" nh ["_law_script", "_law_k"] 1 (lX K))
  (DR:gJ P w K mg base "_law_rings" pY ["_law_script", "_law_most"] 2 (iI K))
  (DF:gJ P w K mg base "_law_free" wz ["_law_script", "_law_most"] 2 (iI K)) :
  bo P w K mg base cS 3 f fd ["_law_script", "_law_most"] (iI K):=by
 refine F.oK CI fun cdv A outer s H vs Q E hr h=>?_
 ·obtain⟨a,ns,rfl,ha,hz,kk⟩:=h
  refine⟨_,af (bH (bj gX (aE cv (eA DC (hr.mono (by decide)) (aa (pv 0) (aa ak ae))) ak) ak (bC _)) (ai (aI (eA DF hr (aa (pv 0) (aa (pv 1) ae))))) aU)
   (ai (aI (eA DR hr (aa (pv 0) (aa (pv 1) ae))))),?_⟩
  refine⟨_,rfl,a,ns,2,rfl,ha,hz,_,_,rfl,rfl,(by show(0:Int)<2;decide),rfl,_,rfl,?_⟩
  exact AB (fun _=>⟨_,rfl,_,rfl,a,ns,rfl,ha,hz,kk⟩) fun _=>⟨_,rfl,_,rfl,a,ns,rfl,ha,hz,kk⟩
end Uf
end
section
namespace UfB
open PySem
def jx(x y:Nat):Builtin.bitAnd (x:Int) (y:Int)=((x &&& y:Nat):Int):=by
 unfold Builtin.bitAnd
 rw [IL (LO x),IL (LO y)]
 simp
def gq(x y:Nat):Builtin.bitOr (x:Int) (y:Int)=((x ||| y:Nat):Int):=by
 unfold Builtin.bitOr Builtin.bitAnd
 have h1:decide (0≤Builtin.bitNot (x:Int))=false:=decide_eq_false (by unfold Builtin.bitNot;lia)
 have h2:decide (0≤Builtin.bitNot (y:Int))=false:=decide_eq_false (by unfold Builtin.bitNot;lia)
 rw [h1,h2]
 have e1:(Builtin.bitNot (Builtin.bitNot (x:Int))).toNat=x:=by unfold Builtin.bitNot;lia
 have e2:(Builtin.bitNot (Builtin.bitNot (y:Int))).toNat=y:=by unfold Builtin.bitNot;lia
 show Builtin.bitNot (Builtin.bitNot _)=_
 rw [e1,e2]
 unfold Builtin.bitNot
 lia
def Br(x y:Nat)(h:x &&& y=y)(h2:x ||| y=x):Builtin.bitXor (x:Int) (y:Int)=(x:Int)-(y:Int):=by
 unfold Builtin.bitXor
 rw [gq,jx,h,h2]
def Ck(r:Nat)(h:0<r):Builtin.bitAnd (r:Int) (-(r:Int))=((r:Int)-((r &&& (r-1):Nat):Int)):=by
 unfold Builtin.bitAnd
 rw [IL (LO r),decide_eq_false (show ¬ 0≤-(r:Int) by lia)]
 have e:(Builtin.bitNot (-(r:Int))).toNat=r-1:=by unfold Builtin.bitNot;lia
 show(r:Int)-((_ &&& _:Nat):Int)=_
 rw [e,JA]
def yr:∀ r:Nat,0<r→∃ k m,r=2 ^ k*(2*m+1):=fun r=>by
 induction r using Nat.strongRecOn with
 | _ r ih =>
  intro h
  by_cases hp:r % 2=1
  ·exact⟨0,r / 2,by lia⟩
  ·obtain⟨k,m,e⟩:=ih (r / 2) (by lia) (by lia)
   refine⟨k+1,m,?_⟩
   rw [Nat.pow_succ,Nat.mul_comm (2 ^ k) 2,Nat.mul_assoc,← e]
   lia
def p9(m j:Nat):(2*m+1).testBit j=(if j=0 then true else m.testBit (j-1)):=by
 cases j with
 | zero=>simp
 | succ j=>simp [Nat.testBit_succ];congr 1;lia
def rA(m j:Nat):(2*m).testBit j=(if j=0 then false else m.testBit (j-1)):=by
 cases j with
 | zero=>simp
 | succ j=>simp [Nat.testBit_succ]
structure E8(r k:Nat):Prop where
 bit:r.testBit k=true
 low:∀ j<k,r.testBit j=false
 clear:r &&& (r-1)=r-2 ^ k
 le:2 ^ k≤r
 rest:∀ i,(r-2 ^ k).testBit i=(r.testBit i&&decide (i≠k))
def EL(r:Nat)(h:0<r):∃ k,E8 r k:=by
 obtain⟨k,m,e⟩:=yr r h
 have hk:0<2 ^ k:=Nh k
 have er:r=2 ^ k*(2*m)+2 ^ k:=by rw [e,Nat.mul_add,Nat.mul_one]
 have b1:∀ j,r.testBit j=if j<k then false else(2*m+1).testBit (j-k):=fun j=>by
  have:=Ly (2*m+1) hk j
  rw [NR,← e] at this
  rw [this]
  simp
 have b2:∀ j,(r-2 ^ k).testBit j=if j<k then false else(2*m).testBit (j-k):=fun j=>by
  have e2:r-2 ^ k=2 ^ k*(2*m):=by lia
  have:=Ly (2*m) hk j
  rw [NR,← e2] at this
  rw [this]
  simp
 have b3:∀ j,(r-1).testBit j=if j<k then true else(2*m).testBit (j-k):=fun j=>by
  have e3:r-1=2 ^ k*(2*m)+(2 ^ k-1):=by lia
  rw [e3,Ly (2*m) (by lia) j]
  split
  ·rename_i hj
   rw [KS]
   simp [hj]
  ·rfl
 refine⟨k,?_,fun j hj=>?_,?_,by lia,fun i=>?_⟩
 ·rw [b1,if_neg (JC k),Ms,p9,if_pos rfl]
 ·rw [b1,if_pos hj]
 ·refine Mt fun j=>?_
  rw [Ln,b1,b2,b3]
  by_cases hj:j<k
  ·simp [hj]
  ·rw [if_neg hj,if_neg hj,if_neg hj,p9,rA]
   split <;> simp
 ·rw [b1,b2]
  by_cases hi:i<k
  ·simp [hi]
  ·rw [if_neg hi,if_neg hi,p9,rA]
   by_cases e:i=k
   ·subst e
    simp
   ·have:¬ i-k=0:=by lia
    simp [this,e]
def E8.or{r k:Nat}(h:E8 r k):r ||| 2 ^ k=r:=Mt fun j=>by
 rw [Lw,KA]
 by_cases e:k=j
 ·subst e
  simp [h.bit]
 ·simp [e]
def E8.and{r k:Nat}(h:E8 r k):r &&& 2 ^ k=2 ^ k:=Mt fun j=>by
 rw [Ln,KA]
 by_cases e:k=j
 ·subst e
  simp [h.bit]
 ·simp [e]
def mem(b:Nat):List Nat:=(List.range 256).filter fun i=>b.testBit i
def mem_iff{b i:Nat}(h:b<2 ^ 256):i∈mem b↔b.testBit i=true:=by
 unfold mem
 rw [Jl,JK]
 refine⟨fun z=>z.2,fun z=>⟨?_,z⟩⟩
 refine M4 fun hi=>?_
 rw [Kq (IW h (Jr (by decide) hi))] at z
 cases z
def zr:mem 0=[]:=by
 unfold mem
 refine KN.mpr fun i _=>?_
 simp
def Cn{r k:Nat}(h:E8 r k)(hr:r<2 ^ 256):mem r=k::mem (r-2 ^ k):=by
 have hk:k<256:=(Nat.pow_lt_pow_iff_right (by decide:1<2)).mp (Jt h.le hr)
 unfold mem
 have e:List.range 256=List.range k++(k::(List.range (256-k-1)).map fun i=>k+1+i):=by
  have e1:(256:Nat)=k+(1+(256-k-1)):=by lia
  conv=>lhs;rw [e1,List.range_add,List.range_add]
  simp [List.map_map,Function.comp_def,Nat.add_assoc]
 rw [e,J9,J9,La,La]
 have f1:(List.range k).filter (fun i=>r.testBit i)=[]:=KN.mpr fun i hi=>by
  rw [h.low i (JK.mp hi)]
  simp
 have f2:(List.range k).filter (fun i=>(r-2 ^ k).testBit i)=[]:=KN.mpr fun i hi=>by
  rw [h.rest,h.low i (JK.mp hi)]
  simp
 rw [f1,f2,h.bit,h.rest,h.bit]
 simp only [Ni,L0]
 simp
 refine List.filter_congr fun i hi=>?_
 obtain⟨j,_,rfl⟩:=IV.mp hi
 rw [h.rest,IL (show k+1+j≠k by lia),NI]
def BB(b:Nat):(mem b).length≤256:=by
 unfold mem
 refine Jf (JB _ _) ?_
 rw [List.length_range]
 exact II _
def Ae(k:Nat):Builtin.Int.intBits ((2 ^ k:Nat):Int)=k+1:=by
 unfold Builtin.Int.intBits
 have h:0<2 ^ k:=Nh k
 have e:(((2 ^ k:Nat):Int)==0)=false:=J0.mpr (by lia)
 rw [e,Int.natAbs_natCast,Nat.log2_two_pow]
 rfl
end UfB
end
section
namespace L2
open PySem PySem.Spec PyProof.Rows
section
variable {X:Cx}
def Gi:V→List V→Hp→VK→Prop:=fun x vs H Q=>∃ i:Int,x=.int i∧vs=[]∧Q (.int ((Builtin.Int.intBits i:Nat):Int)) H
def A5:MtM X "int.bit_length" Gi:=by
 intro pins s σ H x vs v us Q I rx rv h
 obtain⟨i,rfl,rfl,q⟩:=h
 have hus:=rv.zero
 subst hus
 obtain⟨t,rfl⟩:=(show ∃ t,v=Value.int i t from rx)
 exact call_int_bit_length ⟨.int _,H,I.tok _,⟨_,rfl⟩,q⟩
end
end L2
namespace Uf
open PySem L2 UfSrt UfB
abbrev u7:Stmt:=top 28
abbrev Bz:Stmt:=top 29
abbrev gE:Stmt:=top 30
def nat(k:Nat):V:=.int (k:Int)
def nats(ks:List Nat):List V:=ks.map nat
def sP:Sp:=fun vs H Q _=>∃ n:Nat,vs=[nat n]∧n<256∧Q (nat (2 ^ n)) H
def F1:aD ["number"] ["number"] (au u7):=eR
def BZ(n:Nat):(1:Int)*2 ^ ((n:Int)).toNat=((2 ^ n:Nat):Int):=by
 rw [Int.one_mul,JA]
 exact PyProof.Rows.two_pow_cast n
def Ew{f:Addr}{fd:FuncData}(F:dv K "bit" "bit" u7 f fd):bo P w K mg base cS 1 f fd ["number"] sP:=by
 refine F.oK F1 fun cdv A outer s H vs Q E hr h=>?_
 ·obtain⟨n,rfl,hn,k⟩:=h
  refine⟨_,ai (aI (aE As ak (pv 0))),?_⟩
  refine⟨_,rfl,_,_,rfl,rfl,⟨by lia,by lia,by decide⟩,?_⟩
  have e:=BZ n
  show Q (V.int ((1:Int)*2 ^ ((n:Int)).toNat)) H
  rw [e]
  exact k
def iN:Sp:=fun vs H Q _=>∃ b:Nat,vs=[nat b]∧b<2 ^ 256∧∀ H' q,aq H H'→H q=none→H' q=some (.lst (nats (mem b)))→Q (.ref q) H'
def iM:aD ["bits", "numbers", "lowest"] ["bits"] (au gE):=eR
inductive MbI(H:Hp)(r:Addr)(b0:Nat)(m:Nat)(σ:St)(H2:Hp):Prop
 | mk (b:Nat) (ks:List Nat) (v2:Option V) (q0:σ=[some (nat b),some (.ref r),v2]) (q1:aq H H2) (q2:H2 r=some (.lst (nats ks))) (q3:ks++mem b=mem b0) (q4:b<2 ^ 256) (q5:m=b)
def uo{f:Addr}{fd:FuncData}(F:dv K "members" "members" gE f fd):bo P w K mg base cS 1 f fd ["bits"] iN:=by
 refine F.oK iM fun cdv A outer s H vs Q E hr h=>?_
 ·obtain⟨b0,rfl,hb0,kk⟩:=h
  have hsl:=Ji
  refine⟨_,af (cB 1 iM (dR ae))
   (af (jB IT (qL (pv 0) (fun _=>rfl))
    (af (cB 2 iM (aE iF (pv 0) (CP Af (pv 0))))
    (af (a9 (cR Jb IZ I0 aV (pv 1) (aa (aE kH (E4 PySem.F.plainAttrs_int PySem.F.slot_int_bit_length PySem.F.type_int_bit_length A5 (pv 2)) ak) ae)))
    (ai (cB 0 iM (aE EF (pv 0) (pv 2)))))))
   (ai (aI (pv 1)))),?_⟩
  refine⟨IU _,fun r nr=>?_⟩
  have s1:aq H (upd H r (.lst [])):=ao nr
  refine⟨MbI H r b0,⟨_,b0,[],none,rfl,s1,ag,rfl,hb0,rfl⟩,?_⟩
  rintro b σ H2 ⟨_,ks,v2,rfl,sm,h2,e,hb,rfl⟩
  have lm:(ks++mem b).length≤256:=by rw [e];exact BB b0
  rw [List.length_append] at lm
  by_cases hz:b=0
  ·subst hz
   rw [zr,Lg] at e
   refine⟨_,rfl,false,rfl,?_⟩
   refine bB ?_
   refine⟨_,rfl,kk _ r sm nr ?_⟩
   rw [h2,e]
  ·obtain⟨k,lo⟩:=EL b (by lia)
   have hk:0<2 ^ k:=Nh k
   have ml:=Cn lo hb
   have ea:Builtin.bitAnd (b:Int) (-(b:Int))=((2 ^ k:Nat):Int):=by
    rw [Ck b (by lia),lo.clear]
    have:=lo.le
    lia
   have ex:Builtin.bitXor (b:Int) ((2 ^ k:Nat):Int)=((b-2 ^ k:Nat):Int):=by
    rw [Br b (2 ^ k) lo.and lo.or]
    have:=lo.le
    lia
   refine⟨_,rfl,true,?_,?_⟩
   ·show true=((b:Int) != 0)
    symm
    rw [bne_iff_ne]
    lia
   refine bF ?_
   refine⟨fun σ' H'=>∃ m',m'<b∧MbI H r b0 m' σ' H',fun σ' H' h=>h,?_⟩
   refine⟨_,rfl,_,rfl,_,rfl,_,_,rfl,rfl,?_⟩
   dsimp only [ij]
   rw [ea]
   refine⟨_,rfl,.inl ⟨rfl,_,aA.of h2⟩,_,rfl,rfl,_,rfl,rfl,_,_,rfl,rfl,r,_,_,rfl,rfl,h2,(by unfold nats;rw [List.length_map];lia),?_⟩
   dsimp only [ij]
   rw [Ae]
   refine⟨_,rfl,_,rfl,_,_,rfl,rfl,?_⟩
   dsimp only [ij]
   rw [ex]
   refine⟨b-2 ^ k,by lia,b-2 ^ k,ks++[k],_,rfl,aY sm nr,?_,?_,by lia,rfl⟩
   ·rw [ag]
    unfold nats nat
    rw [List.map_append]
    congr 3
    show [V.int (((k+1:Nat):Int)-1)]=[V.int (k:Int)]
    congr 2
    lia
   ·rw [List.append_assoc,List.singleton_append,← ml]
    exact e
end Uf
end
section
namespace PySem
def jG:typeLookup (.type "list") "keys"=pure none:=by rw [Lh,Ku];kernel_rfl
def qe{prog:Program}{w:World}{A:Around}{E:Value→Shared→Prop}{s:Shared}{a:Addr}{o:Obj}{xs:Array Value}{k:Nat}{Q:Option Value→Shared→Prop}
  (hx:s.heap.get? a=some o) (hc:o.cls=.type "list") (hdat:o.data=.seq xs k) (hd:o.dict=none) (hA:A.handled=none)
  (h:∀ h' tk,(∀ b o,s.heap.get? b=some o→h'.get? b=some o)→Q none { s with heap:=h',toks:=tk }) :
  wpAny (model prog w) A (getAttr? (.ref a) "keys") Q E s:=by
 obtain⟨c,dct,dat,sl⟩:=o
 simp only at hc hdat hd
 subst hc hdat hd
 obtain⟨hp,g,d,tk,os⟩:=s
 have hT:∀ tk',(⟨hp,g,d,tk',os⟩:Shared).TypeIs (.ref a) "list":=fun _=>⟨_,hx,rfl⟩
 have f1:=sub_AttributeError
 have f3:=LW.lookup
 have f4:=LW.bind (.ref a)
 have f5:=am_list_getattr_none
 unfold getAttr? getAttrBy? getAttrBy
 repeat (any_goals (first | assumption | exact hT _ | ((with_reducible show wpAny _ _ (call (Value.builtin "list.__getattribute__") _ _) _ _ _);refine call_meets LW (hT _) am_entry_list_getattribute (F.args_list_getattribute_2 _ _) (meets_getattribute_miss_list a xs k sl "keys" _ jG (by decide +kernel)) ⟨hx,hA,fun h' tk' e hx'=>?_⟩) | wp_step))
 obtain⟨t',u',he⟩:=hx'.there
 show wpAny _ _ (getattributeRaised _ _ _ _ _ _ _) _ _ _
 unfold getattributeRaised
 repeat (any_goals (first | assumption | wp_step))
 all_goals exact h _ _ hx'.1
end PySem
end
section
namespace UfDp
open PySem PySem.Spec PyProof.Rows L2 UfSet
def dS:entryFor table "dict.update.loop"=some Builtin.«dict.update.loop»:=entryFor_of_tree (by kernel_rfl)
def bR:plainId "dict.update.loop"=true:=by decide +kernel
def putAll(acc:List (Key × Value))(ps:List (Str × Value)):List (Key × Value):=ps.foldl (fun a p=>stored a (Sum.inr p.1) p.2) acc
def pC(h:Heap)(ps:List (Str × Value))(i:Nat)(v:Value):Prop:=∃ q x t u,v=.ref q∧ps[i]?=some (x,u)∧IsTup h q #[.str x t,u]
section
variable {prog:Program}{w:World}{A:Around}{R:Result→Shared→Prop}{I:Addr}{fp wr:List Addr}{G:Array GenState→Array GenState→Prop}{St:Nat→Shared→Prop}
def pair_items{E:Value→Shared→Prop}{s:Shared}{q:Addr}{a b:Value}{Q:List Value→Shared→Prop}(ht:IsTup s.heap q #[a,b])(h:Q [a,b] s):wpAny (model prog w) A (Builtin.Dict.pairItems (.ref q)) Q E s:=by
 obtain⟨o,ho,hc,n,hd⟩:=ht
 unfold Builtin.Dict.pairItems
 refine IE (LS (T:="tuple") ⟨o,ho,hc⟩ ?_)
 rw [if_pos (by decide)]
 unfold seqItems?
 refine IE (IE (wpAny_load ho ?_))
 rw [hd]
 exact wpAny_pure (wpAny_pure h)
def yh{h0:Heap}{ps:List (Str × Value)}(W:WalksS prog w A.in1 I fp wr G ps.length (pC h0 ps) St)(D:Addr)(hDf:D∉fp)(h0D:h0.get? D=none)(h0w:∀ b∈wr,h0.get? b=none)(hb:ps.length≤1000) :
  ∀ (k i:Nat) (t:Tok) (s:Shared) (acc:List (Key × Value)),ps.length-i=k→i≤ps.length→St i s→s.heap.DictOf (aQ prog w) D acc→acc.length≤i→(∀ b o,h0.get? b=some o→s.heap.get? b=some o) →
  (∀ s',Moved (D::wr) G s s'→s'.heap.DictOf (aQ prog w) D (putAll acc (ps.drop i))→R (.ok (.ret .none)) s')→codeAny (model prog w) A (.builtin "dict.update.loop" ⟨[.ref D,.ref I,.int i t,.none],[]⟩) R s:=by
 have nSw:D∉wr:=fun z=>hDf (W.sub _ z)
 have sub:∀ b∈wr,b∈D::wr:=fun b z=>List.mem_cons_of_mem _ z
 intro k
 induction k with
 | zero =>
  intro i t s acc hk hi st hS ha h0s hR
  have e:i=ps.length:=by lia
  subst e
  refine J7 dS ?_
  rw [JP bR _]
  show wpAny _ A.in1 (pyNext (.ref I) >>= _) _ _ s
  refine IE (W.done s _ _ st fun s' hm=>?_)
  show wpAny _ A.in1 (Builtin.Dict.addKeywords D [] >>= fun _=>ret Value.none) _ _ s'
  refine IE (wpAny_pure (wpAny_pure (hR s' (hm.mono sub) ?_)))
  rw [KL (II _)]
  obtain⟨o,es,ep,ho,r⟩:=hS
  exact⟨o,es,ep,hm.heap D _ nSw ho,r⟩
 | succ k ih =>
  intro i t s acc hk hi st hS ha h0s hR
  have hlt:i<ps.length:=by lia
  refine J7 dS ?_
  rw [JP bR _]
  show wpAny _ A.in1 (pyNext (.ref I) >>= _) _ _ s
  refine IE (W.item i s _ _ hlt st fun v s' hP st' hm=>?_)
  obtain⟨q,x,tx,u,rfl,ex,ht⟩:=hP
  have h0s':∀ b o,h0.get? b=some o→s'.heap.get? b=some o:=fun b o e=>hm.heap b o (fun z=>by rw [h0w b z] at e;cases e) (h0s b o e)
  have hS':s'.heap.DictOf (aQ prog w) D acc:=by
   obtain⟨o,es,ep,ho,r⟩:=hS
   exact⟨o,es,ep,hm.heap D _ nSw ho,r⟩
  have ht':IsTup s'.heap q #[.str x tx,u]:=by
   obtain⟨o,ho,r⟩:=ht
   exact⟨o,h0s' _ _ ho,r⟩
  show wpAny _ A.in1 (holding [Value.ref q] _ >>= _) _ _ s'
  refine IE (JI (IE ?_))
  refine Lx (pair_items ht' ?_)
  show wpAny _ A.in1 (holding [Value.str x tx,u] (dictSet D (.str x tx) u)) _ _ s'
  refine JI (wpAny_dictSet_pairs (knd:=aQ prog w) (k:=Sum.inr x) (by show jF (Sum.inr x) (Value.str x tx)=true;simp [jF,Value.isStrOf]) hS' (fun h' hd' hs'=>?_) (by rw [sizeLine_eq];lia))
  have hd:ps.drop i=(x,u)::ps.drop (i+1):=by
   rw [K5 hlt]
   rw [IG hlt] at ex
   rw [Jk ex]
  refine wpAny_pure ⟨Kc bR _,ih (i+1) _ _ (stored acc (Sum.inr x) u) (by lia) hlt (W.frame _ s' _ _ st' (JY _) fun b hb' o e=>?_) hd' (by have:=stored_length_le acc (Sum.inr x:Key) u;lia) (fun b o e=>?_) fun s'' hm2 hS3=>?_⟩
  ·rw [hs'.2 b (fun z:b=D=>hDf (by rw [← z];exact hb'))];exact e
  ·rw [hs'.2 b (fun z:b=D=>by rw [z,h0D] at e;cases e)];exact h0s' b o e
  ·refine hR s'' (Moved.trans W.gtrans ((hm.mono sub).then_heap (JY _) fun b o hb' e=>?_) hm2) ?_
   ·rw [hs'.2 b (fun z:b=D=>hb' (by rw [z];exact List.mem_cons_self))];exact e
   ·rw [hd]
    exact hS3
def nM{E:Value→Shared→Prop}{s:Shared}{l:Addr}{its:List Value}{ps:List (Str × Value)}{Q:Value→Shared→Prop}(hh:A.handled=none)(hl:∃ n,s.heap.get? l=some { cls:=.type "list",data:=.seq its.toArray n })(hlen:its.length=ps.length)
  (hx:∀ (i:Nat) (v:Value),its[i]?=some v→pC s.heap ps i v) (hb:ps.length≤1000)
  (h:∀ (h':Heap) (tk:Nat),h'.DictOf (aQ prog w) s.heap.objs.size (putAll [] ps)→(∀ b o,s.heap.get? b=some o→h'.get? b=some o)→Q (.ref s.heap.objs.size) { s with heap:=h',toks:=tk }) :
  wpAny (model prog w) A (call (.type "dict") [.ref l]) Q E s:=by
 obtain⟨nl,hol⟩:=hl
 refine callType_codes (Q₁:=fun obj s₁=>obj=.ref s.heap.objs.size∧s₁={ s with heap:=s.heap.push { cls:=.type "dict",data:=.dict #[] } }) F.kt_called_dict (F.kt_typeCall_dict_1 _) F.entry_dict_init (kt_code_dict_new _ ⟨rfl,rfl⟩) ?_
 rintro obj s₁ ⟨rfl,rfl⟩
 have hnew:(s.heap.push { cls:=.type "dict",data:=.dict #[] }).DictOf (aQ prog w) s.heap.objs.size []:=Heap.DictOf.new s.heap
 have hol':(s.heap.push { cls:=.type "dict",data:=.dict #[] }).get? l=some { cls:=.type "list",data:=.seq its.toArray nl }:=IF _ hol
 refine⟨hnew.typeIs,F.args_dict_init_2 _ _,?_⟩
 unfold Builtin.«dict.__init__»
 refine IE ?_
 unfold Builtin.Dict.selfAndRest
 refine IE (wpAny_notOrdered_dict hnew.typeIs ?_)
 show wpAny _ _ (pure (s.heap.objs.size,[Value.ref l])) _ _ _
 refine wpAny_pure ?_
 show wpAny _ _ (Builtin.Dict.updateFrom "dict.__init__" s.heap.objs.size (.ref l) [] .none) _ _ _
 unfold Builtin.Dict.updateFrom
 refine IE (LS (T:="list") ⟨_,hol',rfl⟩ ?_)
 rw [if_pos (by decide)]
 refine IE (qe hol' rfl rfl rfl (by simp [hh]) fun h1 tk1 k1=>?_)
 rw [if_pos (by decide)]
 refine IE (Kl ?_)
 have lt:l<s.heap.objs.size:=IJ hol
 have z1:s.heap.objs.size+1≤h1.objs.size:=Nat.succ_le_of_lt (IJ (k1 _ _ (IQ s.heap (o:={ cls:=.type "dict",data:=.dict #[] }) rfl)))
 have l1:h1.IsList l its.toArray:=⟨_,k1 _ _ hol',rfl,nl,rfl⟩
 refine IE (Lp l1 ?_)
 have neI:l≠h1.objs.size:=IS (IW (Jp lt) z1)
 have nf:s.heap.objs.size∉[h1.objs.size,l]:=by
  simp only [IP,Jq,Ke,Mm]
  exact⟨IS z1,Ki lt⟩
 have h3:A.in1.in1.handled=none:=by simp [hh]
 have hat:∀ (i:Nat) (v:Value),its.toArray[i]?=some v→pC s.heap ps i v:=fun i v e=>hx i v (by simpa using e)
 have W0:=(Ny (prog:=prog) (w:=w) h3 h1.objs.size l neI its.toArray).imp hat
 have hsz:its.toArray.size=ps.length:=by rw [IY];exact hlen
 rw [hsz] at W0
 have keep:∀ b o,s.heap.get? b=some o→h1.get? b=some o:=fun b o e=>k1 _ _ (IF _ e)
 have ds:h1.DictOf (aQ prog w) s.heap.objs.size []:=by
  obtain⟨o,es,ep,ho,r⟩:=hnew
  exact⟨o,es,ep,k1 _ _ ho,r⟩
 refine wpAny_pure ⟨Kc bR _,yh W0.toS s.heap.objs.size nf (Mh (II _)) (fun b hb'=>?_) hb ps.length 0 _ _ [] (by lia) (IU _) ⟨⟨_,IQ _ rfl,rfl,rfl⟩,(l1.push _)⟩ (ds.push _) (II _) (fun b o e=>IF _ (keep b o e)) fun s' hm hS'=>?_⟩
 ·have e:b=h1.objs.size:=by simpa using hb'
  rw [e]
  exact Mh (Jf (JY _) z1)
 ·rw [MA] at hS'
  rw [mV hm]
  refine⟨rfl,h _ _ hS' fun b o e=>?_⟩
  have lb:=IJ e
  refine hm.heap b o (fun z=>?_) (IF _ (keep b o e))
  simp only [IP,Jq,Ke] at z
  rcases z with z | z
  ·exact absurd z (IS lb)
  ·exact absurd z (IS (IW (Jp lb) z1))
end
end UfDp
end
section
namespace L2
open PySem PySem.Spec PyProof.Rows UfSrt
theorem cg{α β:Type}{F:α→β→Prop}:∀ {l:List α} {m:List β} {i:Nat} {b:β},Paired F l m→m[i]?=some b→∃ a,l[i]?=some a∧F a b
 | _,_,_,_,.nil,e=>by simp at e
 | _,_,0,_,.cons r _,e=>by
  simp at e
  subst e
  exact⟨_,rfl,r⟩
 | _,_,i+1,_,.cons _ t,e=>by
  obtain⟨a,h1,h2⟩:=cg (i:=i) t (by simpa using e)
  exact⟨a,by simpa using h1,h2⟩
section
variable {X:Cx}{pins:List (Addr × Obj)}{σ:St}{H:Hp}{s:Shared}
end
section
variable {X:Cx}{tg:Expr}
end
section
variable {n:Nat}{ci:List Nat}{g:TG}{tt:TT}{te:TE}{σ:St}{H:Hp}{D:Addr}{Q:VK}
end
end L2
end
section
namespace L2
open PySem PySem.Spec PyProof.Rows UfDp
abbrev mN(H:Hp):List (Str × V)→List Addr→Prop:=Paired fun p q=>H q=some (.tup [.str p.1,p.2])
def keyed(ps:List (Str × V)):List (Key × V):=ps.map fun p=>(Sum.inr p.1,p.2)
section
variable {X:Cx}{pins:List (Addr × Obj)}{σ:St}{H:Hp}{s:Shared}
def two_vals{x:Str}{v:V}{its:List Value}(r:Vals [.str x,v] its):∃ t u,its=[.str x t,u]∧RelV v u:=by
 cases r with
 | cons r1 r =>
  cases r with
  | cons r2 r =>
   cases r
   obtain⟨t,rfl⟩:=(show ∃ t,_=Value.str x t from r1)
   exact⟨t,_,rfl,r2⟩
theorem pairs_at(I:Inv X pins σ H s):∀ {ps:List (Str × V)} {qs:List Addr},mN H ps qs→∃ vs:List (Str × Value),Paired (fun(p:Str × V) (v:Str × Value)=>p.1=v.1∧RelV p.2 v.2) ps vs∧qs.length=vs.length∧∀ (i:Nat) (q:Addr),qs[i]?=some q→pC s.heap vs i (.ref q)
 | _,_,.nil=>⟨[],.nil,rfl,fun i q h=>by simp at h⟩
 | p::ps,q::qs,.cons h t=>by
  obtain⟨vs,pv,ln,hp⟩:=pairs_at I t
  obtain⟨_,its,rv,it⟩:bJ X.prog X.w H s.heap q (.tup [.str p.1,p.2]):=I.hok q _ h
  obtain⟨tx,u,rfl,ru⟩:=two_vals rv
  refine⟨(p.1,u)::vs,.cons ⟨rfl,ru⟩ pv,by simp [ln],fun i q' hi=>?_⟩
  cases i with
  | zero =>
   have e:q=q':=by simpa using hi
   exact⟨q',p.1,tx,u,rfl,rfl,by rw [← e];exact it⟩
  | succ i =>
   obtain⟨q2,x,t2,u2,e1,e2,e3⟩:=hp i q' (by simpa using hi)
   exact⟨q2,x,t2,u2,e1,by simpa using e2,e3⟩
theorem vn:∀ {ps:List (Str × V)} {vs:List (Str × Value)} {kvs:List (Key × V)} {acc:List (Key × Value)},Paired (fun(p:Str × V) (v:Str × Value)=>p.1=v.1∧RelV p.2 v.2) ps vs→KV kvs acc→(ps.map (·.1)).Nodup→(∀ p∈ps,de kvs (Sum.inr p.1:Key)=none)→KV (kvs++keyed ps) (putAll acc vs)
 | _,_,kvs,acc,.nil,r,_,_=>by
  show KV (kvs++[]) acc
  rw [Lg]
  exact r
 | p::ps,v::vs,kvs,acc,.cons h t,r,hn,hv=>by
  obtain⟨n1,n2⟩:=JQ.mp (show(p.1::ps.map (·.1)).Nodup from hn)
  obtain⟨e1,e2⟩:=h
  have r2:=KV.put r (Sum.inr p.1:Key) e2
  rw [jA _ (hv p List.mem_cons_self)] at r2
  have:=vn (kvs:=kvs++[(Sum.inr p.1,p.2)]) t r2 n2 (fun p' hp'=>?_)
  ·rw [List.append_assoc] at this
   show KV _ (putAll (stored acc (Sum.inr v.1) v.2) vs)
   rw [← e1]
   exact this
  ·have h1:=hv p' (List.mem_cons_of_mem _ hp')
   have ne:¬ p.1=p'.1:=fun z=>n1 (by rw [z];exact IV.mpr ⟨p',hp',rfl⟩)
   rw [oB (Sum.inr p.1:Key) (Sum.inr p'.1) p.2 kvs (hv p List.mem_cons_self),if_neg (fun z=>ne (LC z).symm)]
   exact h1
end
section
variable {X:Cx}
def Ek:List V→Hp→VK→Prop:=fun vs H Q=>∃ l qs ps,vs=[.ref l]∧H l=some (.lst (qs.map V.ref))∧mN H ps qs∧ps.length≤1000∧(ps.map (·.1)).Nodup∧∀ d,H d=none→Q (.ref d) (upd H d (.dK (keyed ps)))
theorem oS:∀ {qs:List Addr} {its:List Value},Vals (qs.map V.ref) its→its=qs.map Value.ref
 | [],_,.nil=>rfl
 | q::qs,_,.cons r t=>by
  have e:=(show _=Value.ref q from r)
  rw [e,oS t]
  rfl
def sZ(hc:X.calm=true):dM X (.type "dict") Ek:=by
 intro pins s σ H xs us Q I r h
 obtain⟨l,qs,ps,rfl,hl,hp,hz,hn,q⟩:=h
 obtain⟨u,rfl,ru⟩:=vals1 r
 cases ru
 obtain⟨_,its,n,rv,hlen,eo⟩:=I.BO hl
 have ei:=oS rv
 obtain⟨vs,pv,ln,hat⟩:=pairs_at I hp
 have lp:ps.length=vs.length:=IX pv
 have hf:H s.heap.objs.size=none:=I.hok.fresh (II _)
 refine nM (ps:=vs) (I.ok.hd hc) ⟨n,eo⟩ (by rw [ei,List.length_map];exact ln) (fun i v hv=>?_) (by lia) fun h' tk hd hk=>?_
 ·rw [ei,List.getElem?_map] at hv
  obtain⟨q',e1,e2⟩:=JJ.mp hv
  rw [← e2]
  exact hat i q' e1
 ·have kv:KV (keyed ps) (putAll [] vs):=vn (kvs:=[]) pv .nil hn fun p _=>rfl
  refine⟨.ref s.heap.objs.size,_,I.laid (t':=tk) (o:=.dK (keyed ps)) hk (II _) ⟨by unfold keyed;rw [List.length_map,sizeLine_eq];lia,?_,_,kv,hd⟩,rfl,q _ hf⟩
  have:=I.big
  exact J0.mpr (Ki this)
end
end L2
end
section
namespace Uf
open PySem L2 UfB
structure nC where
 sp:List (Str × Option Nat)
 tk:List Nat
 be:List Nat
 pl:List (Str × Nat)
def gv:Option Nat→V
 | none=>.non
 | some n=>nat n
def qv(bs:List Nat)(j n:Nat):List Nat:=bs.set j (bs.getD j 0 ||| 2 ^ n)
def bx(bs js:List Nat)(n:Nat):List Nat:=js.foldl (fun a j=>qv a j n) bs
def iU(pl:List (Str × Nat))(x:Str)(n:Nat):List (Str × Nat):=pl.map fun p=>if p.1=x then(p.1,p.2 ||| 2 ^ n) else p
def eC(g:Option Nat)(p:nC × Nat)(x:Str):nC × Nat :=
 (⟨p.1.sp++[(x,g)],p.1.tk++[0],bx (p.1.be++[p.2]) (mem p.2) p.1.sp.length,iU p.1.pl x p.1.sp.length⟩,p.2 ||| 2 ^ p.1.sp.length)
def bp(g:Option Nat)(p:nC × Nat)(xs:List Str):nC × Nat:=xs.foldl (eC g) p
theorem c7:∀ (js bs:List Nat) (n:Nat),(bx bs js n).length=bs.length
 | [],bs,n=>rfl
 | j::js,bs,n=>by
  show(bx (qv bs j n) js n).length=_
  rw [c7 js]
  unfold qv
  rw [List.length_set]
def pI{b i n:Nat}(h:b<2 ^ n)(hi:i∈mem b):i<n:=by
 unfold mem at hi
 have hb:=(Jl.mp hi).2
 refine M4 fun z=>?_
 rw [Kq (IW h (Jr (by decide) z))] at hb
 cases hb
structure jC(p:nC × Nat)(xs:List Str):Prop where
 tk:p.1.tk.length=p.1.sp.length
 be:p.1.be.length=p.1.sp.length
 lt:p.2<2 ^ p.1.sp.length
 i9:p.1.sp.length+xs.length≤250
 key:∀ x∈xs,x∈p.1.pl.map (·.1)
 nd:(p.1.pl.map (·.1)).Nodup
 sm:p.1.pl.length≤12
def kF(pl:List (Str × Nat))(x:Str)(n:Nat):(iU pl x n).map (·.1)=pl.map (·.1):=by
 unfold iU
 rw [List.map_map]
 refine Lc fun p _=>?_
 show(if p.1=x then(p.1,p.2 ||| 2 ^ n) else p).1=p.1
 split <;> rfl
def jC.one{g:Option Nat}{p:nC × Nat}{x:Str}{xs:List Str}(h:jC p (x::xs)):jC (eC g p x) xs:=by
 obtain⟨h1,h2,h3,h4,h5,h6,h7⟩:=h
 rw [Jh] at h4
 refine⟨?_,?_,?_,?_,fun y hy=>?_,?_,?_⟩
 ·show(p.1.tk++[0]).length=(p.1.sp++[(x,g)]).length
  rw [List.length_append,List.length_append,h1];rfl
 ·show(bx (p.1.be++[p.2]) (mem p.2) p.1.sp.length).length=(p.1.sp++[(x,g)]).length
  rw [c7,List.length_append,List.length_append,h2];rfl
 ·show p.2 ||| 2 ^ p.1.sp.length<2 ^ (p.1.sp++[(x,g)]).length
  rw [List.length_append]
  refine Nat.or_lt_two_pow (IW h3 (Jr (by decide) (Mf _ _))) ?_
  exact Nat.pow_lt_pow_right (by decide) (JX _)
 ·show(p.1.sp++[(x,g)]).length+xs.length≤250
  rw [List.length_append,J5];lia
 ·show y∈(iU p.1.pl x _).map (·.1)
  rw [kF]
  exact h5 y (List.mem_cons_of_mem _ hy)
 ·show((iU p.1.pl x _).map (·.1)).Nodup
  rw [kF]
  exact h6
 ·show(iU p.1.pl x _).length≤12
  unfold iU
  rw [List.length_map]
  exact h7
theorem jC.El{g:Option Nat}:∀ {xs ys:List Str} {p:nC × Nat},jC p (xs++ys)→jC (bp g p xs) ys
 | [],ys,p,h=>h
 | x::xs,ys,p,h=>jC.El (xs:=xs) (jC.one (g:=g) (x:=x) (xs:=xs++ys) h)
def iu(g:Option Nat)(p:nC × Nat)(xs:List Str)(x:Str):bp g p (xs++[x])=eC g (bp g p xs) x:=by
 unfold bp
 rw [Kn]
 rfl
end Uf
end
section
set_option maxHeartbeats 400000
namespace Uf
open PySem L2 UfB
def xE(bs:List Nat)(j x a:Nat)(h:j<bs.length):(bs.set j x).getD a 0=if a=j then x else bs.getD a 0:=by
 rw [List.getD_eq_getElem?_getD,List.getD_eq_getElem?_getD,List.getElem?_set]
 by_cases e:j=a
 ·subst e
  rw [if_pos rfl,if_pos h,if_pos rfl]
  rfl
 ·rw [if_neg e,if_neg (fun z=>e z.symm)]
def yU{bs:List Nat}{j n a k:Nat}(h:j<bs.length):((qv bs j n).getD a 0).testBit k=((bs.getD a 0).testBit k || (decide (a=j)&&decide (k=n))):=by
 unfold qv
 rw [xE _ _ _ _ h]
 by_cases e:a=j
 ·subst e
  rw [if_pos rfl,Lw,KA]
  simp [eq_comm]
 ·rw [if_neg e]
  simp [e]
theorem iL:∀ {js bs:List Nat} {n a k:Nat},(∀ j∈js,j<bs.length)→((bx bs js n).getD a 0).testBit k=((bs.getD a 0).testBit k || (decide (a∈js)&&decide (k=n)))
 | [],bs,n,a,k,_=>by simp [bx]
 | j::js,bs,n,a,k,h=>by
  show((bx (qv bs j n) js n).getD a 0).testBit k=_
  have hl:(qv bs j n).length=bs.length:=by unfold qv;rw [List.length_set]
  rw [iL fun i hi=>by rw [hl];exact h i (List.mem_cons_of_mem _ hi),yU (h j List.mem_cons_self)]
  by_cases e1:a=j <;> by_cases e2:a∈js <;> by_cases e3:k=n <;> simp [e1,e2,e3,IP]
structure E5(g:Option Nat)(p q:nC × Nat)(xs:List Str)(n:Nat):Prop where
 sp:q.1.sp=p.1.sp++xs.map (fun x=>(x,g))
 tk:q.1.tk=p.1.tk++List.replicate xs.length 0
 bl:q.1.be.length=n+xs.length
 b:∀ j,q.2.testBit j=(p.2.testBit j || (decide (n≤j)&&decide (j<n+xs.length)))
 old:∀ a k,a<n→(q.1.be.getD a 0).testBit k=((p.1.be.getD a 0).testBit k || (p.2.testBit a&&decide (n≤k)&&decide (k<n+xs.length)))
 new:∀ i k,i<xs.length→(q.1.be.getD (n+i) 0).testBit k=(p.2.testBit k || (decide (n≤k)&&decide (k<n+xs.length)&&decide (k≠n+i)))
def Gu{g:Option Nat}{p:nC × Nat}{n:Nat}(hs:p.1.sp.length=n)(hb:p.1.be.length=n)(hlt:p.2<2 ^ n):∀ (m:Nat) (xs:List Str),xs.length=m→n+m≤250→E5 g p (bp g p xs) xs n:=by
 intro m
 induction m with
 | zero =>
  intro xs hx _
  have e:xs=[]:=Kh hx
  subst e
  have hbit:∀ k,n≤k→p.2.testBit k=false:=fun k hk=>Kq (IW hlt (Jr (by decide) hk))
  refine⟨by simp [bp],by simp [bp],by simpa [bp] using hb,fun j=>?_,fun a k ha=>?_,fun i k hi=>absurd hi (by simp)⟩
  ·show p.2.testBit j=_
   have:(decide (n≤j)&&decide (j<n+([]:List Str).length))=false:=by
    by_cases h:n≤j
    ·rw [decide_eq_false (show ¬ j<n+([]:List Str).length by simp;lia),Bool.and_false]
    ·rw [decide_eq_false h,LZ]
   rw [this,LB]
  ·show(p.1.be.getD a 0).testBit k=_
   simp
   intro _ h1 h2
   lia
 | succ m ih =>
  intro xs hx hle
  have hne:xs≠[]:=fun z=>by rw [z] at hx;simp at hx
  obtain⟨ys,y,rfl⟩:∃ ys y,xs=ys++[y]:=⟨xs.dropLast,xs.getLast hne,(List.dropLast_concat_getLast hne).symm⟩
  have ly:ys.length=m:=by simpa using hx
  have I:=ih ys ly (by lia)
  rw [iu]
  generalize bp g p ys=q at I
  have lsp:q.1.sp.length=n+m:=by rw [I.sp,List.length_append,List.length_map,hs,ly]
  have lbe:q.1.be.length=n+m:=by rw [I.bl,ly]
  have q2lt:q.2<2 ^ (n+m):=by
   refine LM _ fun i hi=>?_
   rw [I.b,ly]
   have h1:p.2.testBit i=false:=Kq (IW hlt (Jr (by decide) (by lia)))
   rw [h1]
   simp
   lia
  have q256:q.2<2 ^ 256:=IW q2lt (Jr (by decide) (by lia))
  have hmem:∀ j∈mem q.2,j<(q.1.be++[q.2]).length:=fun j hj=>by
   have:=pI q2lt hj
   rw [List.length_append,lbe,J5]
   lia
  have lxs:(ys++[y]).length=m+1:=by simpa using ly
  rw [show(eC g q y)=(⟨q.1.sp++[(y,g)],q.1.tk++[0],bx (q.1.be++[q.2]) (mem q.2) q.1.sp.length,iU q.1.pl y q.1.sp.length⟩,q.2 ||| 2 ^ q.1.sp.length) from rfl,lsp]
  refine⟨?_,?_,?_,fun j=>?_,fun a k ha=>?_,fun i k hi=>?_⟩
  ·show q.1.sp++[(y,g)]=_
   rw [I.sp,List.map_append,List.append_assoc]
   rfl
  ·show q.1.tk++[0]=_
   rw [I.tk,lxs,ly,List.replicate_succ',List.append_assoc]
  ·show(bx (q.1.be++[q.2]) (mem q.2) (n+m)).length=_
   rw [c7,List.length_append,lbe,lxs]
   rfl
  ·show(q.2 ||| 2 ^ (n+m)).testBit j=_
   rw [Lw,KA,I.b,ly,lxs]
   clear I ih
   grind
  ·show((bx (q.1.be++[q.2]) (mem q.2) (n+m)).getD a 0).testBit k=_
   rw [iL hmem,lxs]
   have e1:(q.1.be++[q.2]).getD a 0=q.1.be.getD a 0:=by
    rw [List.getD_eq_getElem?_getD,List.getD_eq_getElem?_getD,Jx (by lia)]
   have e2:decide (a∈mem q.2)=p.2.testBit a:=by
    rw [Jz,Jo,mem_iff q256,I.b]
    simp
    lia
   rw [e1,e2,I.old a k ha,ly]
   clear I ih hmem
   grind
  ·show((bx (q.1.be++[q.2]) (mem q.2) (n+m)).getD (n+i) 0).testBit k=_
   rw [lxs] at hi
   rw [iL hmem,lxs]
   have pk:n≤k→p.2.testBit k=false:=fun hk=>Kq (IW hlt (Jr (by decide) hk))
   have e2:decide (n+i∈mem q.2)=decide (i<m):=by
    refine KH.mpr ?_
    rw [mem_iff q256,I.b,ly]
    have:p.2.testBit (n+i)=false:=Kq (IW hlt (Jr (by decide) (by lia)))
    rw [this]
    simp
   rw [e2]
   by_cases hi2:i<m
   ·have e1:(q.1.be++[q.2]).getD (n+i) 0=q.1.be.getD (n+i) 0:=by
     rw [List.getD_eq_getElem?_getD,List.getD_eq_getElem?_getD,Jx (by lia)]
    rw [e1,I.new i k (by lia),ly]
    clear I ih hmem
    grind
   ·have ei:i=m:=by lia
    subst ei
    have e1:(q.1.be++[q.2]).getD (n+i) 0=q.2:=by
     rw [List.getD_eq_getElem?_getD,JW (by lia),lbe,Ms]
     rfl
    rw [e1,I.b,ly]
    have:=pk
    clear I ih hmem
    grind
end Uf
end
section
set_option maxHeartbeats 400000
namespace Uf
open PySem L2 UfB UfM
structure WF where
 W:nC
 oc:List (Str × List Nat)
 own:List Nat
def cT(sp:List (Str × Option Nat))(s:Nat):Option Nat:=(sp[s]?).bind (·.2)
def cE(f:WF)(T:List Nat):Nat:=T.foldl (fun a t=>match cT f.W.sp t with | some g=>a ||| f.own.getD g 0 | none=>a) 0
def fv(f:WF)(T:List Nat):Nat:=T.foldl (fun b t=>b &&& f.W.be.getD t 0) (2 ^ f.W.sp.length-1)
def dJ(f:WF)(m:Str)(T:List Nat)(gs:List Str):WF :=
 ⟨(bp (some f.oc.length) (⟨f.W.sp,bx f.W.tk T f.oc.length,f.W.be,f.W.pl⟩,fv f T) gs).1,f.oc++[(m,T)],f.own++[2 ^ f.oc.length ||| cE f T]⟩
def wb(f:WF):Wb:=⟨fun s o=>(f.W.tk.getD s 0).testBit o=true,cT f.W.sp,fun o j=>(f.own.getD o 0).testBit j=true⟩
structure Good(f:WF):Prop where
 tl:f.W.tk.length=f.W.sp.length
 bl:f.W.be.length=f.W.sp.length
 wl:f.own.length=f.oc.length
 i9:f.W.sp.length≤250
 gvlt:∀ s g,cT f.W.sp s=some g→g<f.oc.length
 ownlt:∀ o j,(f.own.getD o 0).testBit j=true→j≤o
 tklt:∀ s o,(f.W.tk.getD s 0).testBit o=true→o<f.oc.length
 ord:∀ s o,(wb f).tk s o→¬(wb f).past s o
 free:∀ s,¬(wb f).forked ((wb f).past s)
 blt:∀ a k,(f.W.be.getD a 0).testBit k=true→k<f.W.sp.length
 be:∀ a b,a<f.W.sp.length→b<f.W.sp.length→((f.W.be.getD a 0).testBit b=true↔a≠b∧(wb f).m6 a b)
def mD(xs ys:List Nat)(i:Nat):(xs++ys).getD i 0=if i<xs.length then xs.getD i 0 else ys.getD (i-xs.length) 0:=by
 rw [List.getD_eq_getElem?_getD,List.getD_eq_getElem?_getD,List.getD_eq_getElem?_getD]
 split
 ·rename_i h
  rw [Jx h]
 ·rename_i h
  rw [JW (by lia)]
def gC{xs:List Nat}{i:Nat}(h:xs.length≤i):xs.getD i 0=0:=by
 rw [List.getD_eq_getElem?_getD,Jm h]
 rfl
theorem mH{f:WF}(g:Good f):∀ (T:List Nat) (b s:Nat),(T.foldl (fun b t=>b &&& f.W.be.getD t 0) b).testBit s=true↔b.testBit s=true∧∀ t∈T,(f.W.be.getD t 0).testBit s=true
 | [],b,s=>by simp
 | t::T,b,s=>by
  rw [JD,mH g T,Ln,Ka]
  simp [and_assoc]
theorem oQ{f:WF}:∀ (T:List Nat) (a j:Nat),(T.foldl (fun a t=>match cT f.W.sp t with | some g=>a ||| f.own.getD g 0 | none=>a) a).testBit j=true↔a.testBit j=true∨∃ t∈T,(wb f).past t j
 | [],a,j=>by simp
 | t::T,a,j=>by
  rw [JD,oQ T]
  have e:(match cT f.W.sp t with | some g=>a ||| f.own.getD g 0 | none=>a).testBit j=true↔a.testBit j=true∨(wb f).past t j:=by
   cases h:cT f.W.sp t with
   | none =>
    constructor
    ·exact .inl
    ·rintro(z | ⟨g,hg,_⟩)
     ·exact z
     ·have hg:cT f.W.sp t=some g:=hg
      rw [h] at hg
      cases hg
   | some g =>
    show(a ||| f.own.getD g 0).testBit j=true↔_
    rw [Lw,Mr]
    constructor
    ·rintro(z | z)
     ·exact .inl z
     ·exact .inr ⟨g,h,z⟩
    ·rintro(z | ⟨g',hg,z⟩)
     ·exact .inl z
     ·have hg:cT f.W.sp t=some g':=hg
      rw [h] at hg
      cases hg
      exact .inr z
  rw [e,or_assoc]
  simp
structure BD(f:WF)(T:List Nat)(gs:List Str):Prop where
 lt:∀ t∈T,t<f.W.sp.length
 ne:T≠[]
 side:∀ a∈T,∀ b∈T,a≠b→(f.W.be.getD a 0).testBit b=true
 i9:f.W.sp.length+gs.length≤250
section
variable {f:WF}{m:Str}{T:List Nat}{gs:List Str}
def wt(g:Good f):fv f T<2 ^ f.W.sp.length:=by
 refine LM _ fun i hi=>?_
 cases h:(fv f T).testBit i with
 | false=>rfl
 | true =>
  have:=((mH g T _ i).mp h).1
  rw [KS] at this
  simp at this
  lia
def hV(g:Good f)(h:BD f T gs):E5 (some f.oc.length) (⟨f.W.sp,bx f.W.tk T f.oc.length,f.W.be,f.W.pl⟩,fv f T) (bp (some f.oc.length) (⟨f.W.sp,bx f.W.tk T f.oc.length,f.W.be,f.W.pl⟩,fv f T) gs) gs f.W.sp.length :=
 Gu rfl g.bl (wt g) _ gs rfl h.i9
def xy(g:Good f)(h:BD f T gs):(wb f).Step (wb (dJ f m T gs)) f.oc.length (· ∈ T) (fun s=>f.W.sp.length≤s∧s<f.W.sp.length+gs.length):=by
 have A:=hV g h
 have hsp:(dJ f m T gs).W.sp=f.W.sp++gs.map (fun x=>(x,some f.oc.length)):=A.sp
 have htk:(dJ f m T gs).W.tk=bx f.W.tk T f.oc.length++List.replicate gs.length 0:=A.tk
 have hTl:∀ j∈T,j<f.W.tk.length:=fun j hj=>by rw [g.tl];exact h.lt j hj
 have lor:(bx f.W.tk T f.oc.length).length=f.W.sp.length:=by rw [c7,g.tl]
 have hout:∀ {s:Nat},f.W.sp.length≤s→f.W.tk.getD s 0=0:=fun {s} hs=>gC (by rw [g.tl];exact hs)
 refine⟨fun s o=>?_,fun s hs=>?_,fun s hs=>?_,fun j=>?_,fun o j ho=>?_,fun t ht hn=>?_,fun s z=>?_,fun s z=>?_,fun s ⟨gg,h1,h2⟩=>?_,fun s o hs z=>?_,?_,g.ord,g.free,fun a b ha hb n=>?_⟩
 ·show((dJ f m T gs).W.tk.getD s 0).testBit o=true↔(f.W.tk.getD s 0).testBit o=true∨(o=f.oc.length∧s∈T)
  rw [htk,mD,lor]
  by_cases hs:s<f.W.sp.length
  ·rw [if_pos hs,iL hTl]
   simp [and_comm]
  ·rw [if_neg hs,hout (by lia)]
   have:(List.replicate gs.length 0).getD (s-f.W.sp.length) 0=0:=by
    rw [List.getD_eq_getElem?_getD,Ld]
    split <;> rfl
   rw [this]
   simp
   intro _ z
   exact hs (h.lt s z)
 ·show cT (dJ f m T gs).W.sp s=some f.oc.length
  rw [hsp]
  unfold cT
  rw [JW hs.1,List.getElem?_map,IG (by lia)]
  rfl
 ·show cT (dJ f m T gs).W.sp s=cT f.W.sp s
  rw [hsp]
  unfold cT
  by_cases hl:s<f.W.sp.length
  ·rw [Jx hl]
  ·rw [Jm (by rw [List.length_append,List.length_map];lia),Jm (by lia)]
 ·show((f.own++[2 ^ f.oc.length ||| cE f T]).getD f.oc.length 0).testBit j=true↔_
  rw [mD,if_neg (by rw [g.wl];lia),g.wl,Ms]
  show(2 ^ f.oc.length ||| cE f T).testBit j=true↔_
  rw [Lw,Mr,KA,Jo]
  unfold cE
  rw [oQ T 0 j]
  simp [eq_comm]
 ·show((f.own++[2 ^ f.oc.length ||| cE f T]).getD o 0).testBit j=true↔(f.own.getD o 0).testBit j=true
  rw [mD]
  by_cases hl:o<f.own.length
  ·rw [if_pos hl]
  ·rw [if_neg hl,gC (xs:=[2 ^ f.oc.length ||| cE f T]) (by simp;have:=g.wl;lia),gC (xs:=f.own) (by lia)]
 ·have:=h.lt t ht
  lia
 ·exact absurd (g.tklt s _ z) (JC _)
 ·exact absurd (g.gvlt s _ z) (JC _)
 ·have:=g.gvlt s gg h1
  have:=g.ownlt gg _ h2
  lia
 ·have z:(f.W.tk.getD s 0).testBit o=true:=z
  rw [hout hs.1] at z
  simp at z
 ·exact List.exists_mem_of_ne_nil T h.ne
 ·exact((g.be a b (h.lt a ha) (h.lt b hb)).mp (h.side a ha b hb n)).2
def wV(g:Good f)(h:BD f T gs):Good (dJ f m T gs):=by
 have A:=hV g h
 have S:=xy (m:=m) g h
 have hsp:(dJ f m T gs).W.sp=f.W.sp++gs.map (fun x=>(x,some f.oc.length)):=A.sp
 have htk:(dJ f m T gs).W.tk=bx f.W.tk T f.oc.length++List.replicate gs.length 0:=A.tk
 have lsp:(dJ f m T gs).W.sp.length=f.W.sp.length+gs.length:=by rw [hsp,List.length_append,List.length_map]
 have loc:(dJ f m T gs).oc.length=f.oc.length+1:=by show(f.oc++[(m,T)]).length=_;simp
 have hn:f.W.sp.length=f.W.sp.length:=rfl
 have b0:∀ s,(fv f T).testBit s=true↔s<f.W.sp.length∧∀ t∈T,(f.W.be.getD t 0).testBit s=true:=fun s=>by
  unfold fv
  rw [mH g T _ s,KS,Jo]
 refine⟨?_,?_,?_,by rw [lsp];exact h.i9,fun s gg hg=>?_,fun o j hj=>?_,fun s o ho=>?_,S.Iv,fun s=>?_,fun a k hk=>?_,fun a b ha hb=>?_⟩
 ·rw [htk,lsp,List.length_append,c7,Kt,g.tl]
 ·rw [lsp]
  exact A.bl
 ·show(f.own++[_]).length=_
  rw [loc,List.length_append,g.wl]
  rfl
 ·rw [loc]
  by_cases hs:f.W.sp.length≤s∧s<f.W.sp.length+gs.length
  ·have:=S.gvN s hs
   have hg':(wb (dJ f m T gs)).gv s=some gg:=hg
   rw [this] at hg'
   cases hg'
   lia
  ·have hg':(wb (dJ f m T gs)).gv s=some gg:=hg
   rw [S.gvO s hs] at hg'
   have:=g.gvlt s gg hg'
   lia
 ·by_cases ho:o=f.oc.length
  ·subst ho
   rcases(S.ownE j).mp hj with z | ⟨t,ht,gg,h1,h2⟩
   ·lia
   ·have:=g.gvlt t gg h1
    have:=g.ownlt gg j h2
    lia
  ·exact g.ownlt o j ((S.ownO o j ho).mp hj)
 ·rw [loc]
  rcases(S.tk s o).mp ho with z | ⟨z,_⟩
  ·have:=g.tklt s o z
   lia
  ·lia
 ·by_cases hs:f.W.sp.length≤s∧s<f.W.sp.length+gs.length
  ·exact S.C4 hs
  ·exact S.Ff hs
 ·rw [lsp]
  have hk:((bp (some f.oc.length) (⟨f.W.sp,bx f.W.tk T f.oc.length,f.W.be,f.W.pl⟩,fv f T) gs).1.be.getD a 0).testBit k=true:=hk
  by_cases ha:a<f.W.sp.length
  ·rw [A.old a k ha] at hk
   have:=g.blt a k
   dsimp only at hk
   grind
  ·by_cases ha2:a<f.W.sp.length+gs.length
   ·have e:f.W.sp.length+(a-f.W.sp.length)=a:=by lia
    rw [← e,A.new (a-f.W.sp.length) k (by lia)] at hk
    have:=(b0 k).mp
    dsimp only at hk
    grind
   ·rw [gC (by rw [A.bl];lia)] at hk
    simp at hk
 ·rw [lsp] at ha hb
  show((bp (some f.oc.length) (⟨f.W.sp,bx f.W.tk T f.oc.length,f.W.be,f.W.pl⟩,fv f T) gs).1.be.getD a 0).testBit b=true↔_
  have mix:∀ s n:Nat,s<f.W.sp.length→(f.W.sp.length≤n∧n<f.W.sp.length+gs.length)→((fv f T).testBit s=true↔(wb (dJ f m T gs)).m6 s n):=fun s n hs hn=>by
   rw [b0 s,S.EZ (by lia) hn]
   constructor
   ·intro z t ht
    have:=(g.be t s (h.lt t ht) hs).mp (z.2 t ht)
    exact⟨fun q=>this.1 q.symm,this.2.symm⟩
   ·intro z
    exact⟨hs,fun t ht=>(g.be t s (h.lt t ht) hs).mpr ⟨fun q=>(z t ht).1 q.symm,(z t ht).2.symm⟩⟩
  by_cases ha1:a<f.W.sp.length
  ·rw [A.old a b ha1]
   dsimp only
   by_cases hb1:b<f.W.sp.length
   ·have e:(decide (f.W.sp.length≤b))=false:=decide_eq_false (by lia)
    rw [e,Bool.and_false,LZ,LB,g.be a b ha1 hb1,S.pX (by lia) (by lia)]
   ·have hbN:f.W.sp.length≤b∧b<f.W.sp.length+gs.length:=⟨by lia,hb⟩
    have e0:(f.W.be.getD a 0).testBit b=false:=by
     cases z:(f.W.be.getD a 0).testBit b with
     | false=>rfl
     | true=>exact absurd (g.blt a b z) hb1
    rw [e0,ND,IL hbN.1,IL hbN.2,NI,NI,mix a b ha1 hbN]
    exact⟨fun z=>⟨by lia,z⟩,fun z=>z.2⟩
  ·have haN:f.W.sp.length≤a∧a<f.W.sp.length+gs.length:=⟨by lia,ha⟩
   have e:f.W.sp.length+(a-f.W.sp.length)=a:=by lia
   rw [← e,A.new (a-f.W.sp.length) b (by lia),e]
   dsimp only
   by_cases hb1:b<f.W.sp.length
   ·have e2:(decide (f.W.sp.length≤b))=false:=decide_eq_false (by lia)
    rw [e2,LZ,LZ,LB,mix b a hb1 haN]
    exact⟨fun z=>⟨by lia,z.symm⟩,fun z=>z.2.symm⟩
   ·have hbN:f.W.sp.length≤b∧b<f.W.sp.length+gs.length:=⟨by lia,hb⟩
    have e0:(fv f T).testBit b=false:=by
     cases z:(fv f T).testBit b with
     | false=>rfl
     | true=>exact absurd ((b0 b).mp z).1 hb1
    rw [e0,ND,IL hbN.1,IL hbN.2,K1,K1,Jo]
    exact⟨fun z=>⟨fun q=>z q.symm,S.among haN hbN⟩,fun z q=>z.1 q.symm⟩
end
end Uf
end
section
namespace Uf
open PySem L2 UfB
abbrev mQ:Stmt:=top 44
abbrev ux:Stmt:=inClass mQ 0
abbrev xQ:Stmt:=inClass mQ 11
def vQ{H:Hp}{a:Addr}{o:HO}(h:H a=some o):upd H a o=H:=by
 funext b
 by_cases e:b=a
 ·rw [e,ag,h]
 ·rw [ah e]
structure gG(K:PySem.W.Frag)(C:Addr):Prop where
 cl:yj K C
 nN:cD K C "base_net"
 nS:cD K C "spot_tuples"
 nO:cD K C "occurrence_tuples"
 nH:cD K C "numbers_there"
 nW:cD K C "own_bits"
 nG:cD K C "given_bits"
 nB:cD K C "beside_bits"
 nT:cD K C "taker_bits"
 nP:cD K C "place_bits"
structure AdF(fs:List (Str × V))(aS aT aB aP:Addr):Prop where
 s:fs.lookup ("spot_tuples":Str)=some (.ref aS)
 t:fs.lookup ("taker_bits":Str)=some (.ref aT)
 b:fs.lookup ("beside_bits":Str)=some (.ref aB)
 p:fs.lookup ("place_bits":Str)=some (.ref aP)
def iH(pl:List (Str × Nat)):List (Key × V):=pl.map fun p=>(Sum.inr p.1,nat p.2)
abbrev fe(H:Hp):List (Str × Option Nat)→List Addr→Prop:=Paired fun p q=>H q=some (.tup [.str p.1,gv p.2])
structure AN(C:Addr)(H:Hp)(x dx:Addr)(fs:List (Str × V))(aS aT aB aP:Addr)(W:nC):Prop where
 ins:H x=some (.ins C dx fs)
 sp:∃ qs,H aS=some (.lst (qs.map V.ref))∧fe H W.sp qs
 tk:H aT=some (.lst (nats W.tk))
 be:H aB=some (.lst (nats W.be))
 pl:H aP=some (.dK (iH W.pl))
def gP(as:List Addr)(H H':Hp):Prop:=∀ c o,H c=some o→c∉as→H' c=some o
def vH{pl:List (Str × Nat)}{x:Str}(h:x∈pl.map (·.1)):∃ m,de (iH pl) (Sum.inr x:Key)=some (nat m):=by
 induction pl with
 | nil=>simp at h
 | cons p pl ih =>
  by_cases e:p.1=x
  ·refine⟨p.2,?_⟩
   show de ((Sum.inr p.1,nat p.2)::iH pl) _=_
   exact cx (by rw [e])
  ·have h2:x∈pl.map (·.1):=by
    rcases IP.mp h with z | z
    ·exact absurd z.symm e
    ·exact z
   obtain⟨m,hm⟩:=ih h2
   refine⟨m,?_⟩
   show de ((Sum.inr p.1,nat p.2)::iH pl) _=_
   rw [cj (fun z=>e (LC z))]
   exact hm
def vw{pl:List (Str × Nat)}{x:Str}{m n:Nat}(hn:(pl.map (·.1)).Nodup)(h:de (iH pl) (Sum.inr x:Key)=some (nat m)):putK (iH pl) (Sum.inr x:Key) (nat (m ||| 2 ^ n))=iH (iU pl x n):=by
 have e1:((iH pl).any fun kv=>decide (kv.1=(Sum.inr x:Key)))=true:=by rw [gD,h];rfl
 unfold putK
 rw [if_pos e1]
 clear e1
 induction pl with
 | nil=>rfl
 | cons p pl ih =>
  obtain⟨n1,n2⟩:=JQ.mp (show(p.1::pl.map (·.1)).Nodup from hn)
  have h':de ((Sum.inr p.1,nat p.2)::iH pl) (Sum.inr x:Key)=some (nat m):=h
  by_cases e:p.1=x
  ·rw [cx (show((Sum.inr p.1,nat p.2):Key × V).1=Sum.inr x by rw [e])] at h'
   have em:p.2=m:=by
    have:=Jk h'
    unfold nat at this
    have:=V.int.inj this
    lia
   have rest:(iH pl).map (fun kv=>if kv.1=(Sum.inr x:Key) then(kv.1,nat (m ||| 2 ^ n)) else kv)=iH (iU pl x n):=by
    have e2:iU pl x n=pl:=by
     unfold iU
     conv=>rhs;rw [← Nn pl]
     refine Lc fun q hq=>?_
     rw [if_neg (fun z=>n1 (by rw [e,← z];exact IV.mpr ⟨q,hq,rfl⟩))]
     rfl
    rw [e2]
    unfold iH
    rw [List.map_map]
    refine Lc fun q hq=>?_
    show(if (Sum.inr q.1:Key)=Sum.inr x then _ else _)=_
    rw [if_neg (fun z=>n1 (by rw [e,← LC z];exact IV.mpr ⟨q,hq,rfl⟩))]
   show(if (Sum.inr p.1:Key)=Sum.inr x then((Sum.inr p.1:Key),nat (m ||| 2 ^ n)) else(Sum.inr p.1,nat p.2))::(iH pl).map (fun kv=>if kv.1=(Sum.inr x:Key) then(kv.1,nat (m ||| 2 ^ n)) else kv)=iH ((if p.1=x then(p.1,p.2 ||| 2 ^ n) else p)::iU pl x n)
   rw [if_pos (by rw [e]),if_pos e,rest,em]
   rfl
  ·rw [cj (fun z=>e (LC z))] at h'
   have:=ih n2 h'
   show(if (Sum.inr p.1:Key)=Sum.inr x then((Sum.inr p.1:Key),nat (m ||| 2 ^ n)) else(Sum.inr p.1,nat p.2))::(iH pl).map (fun kv=>if kv.1=(Sum.inr x:Key) then(kv.1,nat (m ||| 2 ^ n)) else kv)=iH ((if p.1=x then(p.1,p.2 ||| 2 ^ n) else p)::iU pl x n)
   rw [if_neg (fun z=>e (LC z)),if_neg e,this]
   rfl
def fQ{ks:List Nat}{j:Nat}(h:j<ks.length):(nats ks)[j]?=some (nat (ks.getD j 0)):=by
 unfold nats
 rw [List.getElem?_map,IG h,List.getD_eq_getElem?_getD,IG h]
 rfl
def aX(ks:List Nat):(nats ks).length=ks.length:=by unfold nats;rw [List.length_map]
def fq(ks:List Nat)(k:Nat):nats ks++[nat k]=nats (ks++[k]):=by unfold nats;rw [List.map_append];rfl
def nA(ks:List Nat)(j k:Nat):(nats ks).set j (nat k)=nats (ks.set j k):=by unfold nats;rw [List.map_set]
def o8{n j:Nat}(h:j<n):yk n (j:Int)=some j:=by
 unfold yk
 rw [if_pos (by lia),if_pos (by lia),JA]
def jd(bs js:List Nat)(j n:Nat):bx bs (js++[j]) n=qv (bx bs js n) j n:=by
 unfold bx
 rw [Kn]
 rfl
theorem gP.upd{as:List Addr}{H H':Hp}{a:Addr}{o:HO}(h:gP as H H')(ha:a∈as):gP as H (upd H' a o):=fun c o' e n=>by
 rw [ah (fun z=>n (by rw [z];exact ha))]
 exact h c o' e n
def gP.same{as:List Addr}{H H' H'':Hp}(h:gP as H H')(s:aq H' H''):gP as H H'':=fun c o e n=>s _ _ (h c o e n)
def fe.put{H:Hp}{a:Addr}{o:List V}{o':HO}{l:List (Str × Option Nat)}{qs:List Addr}(h:fe H l qs)(ha:H a=some (.lst o)):fe (upd H a o') l qs :=
 Paired.cu h fun p q e=>by rw [ah (aJ e ha (fun z=>nomatch z))];exact e
def fe.putD{H:Hp}{a:Addr}{o:List (Key × V)}{o':HO}{l:List (Str × Option Nat)}{qs:List Addr}(h:fe H l qs)(ha:H a=some (.dK o)):fe (upd H a o') l qs :=
 Paired.cu h fun p q e=>by rw [ah (aJ e ha (fun z=>nomatch z))];exact e
def wu(C:Addr)(kind:List V→HO):Sp:=fun vs H Q _=>∃ (x dx pa aS aT aB aP:Addr) (fs:List (Str × V)) (W:nC) (g:Option Nat) (b:Nat) (xs:List Str),vs=[.ref x,.ref pa,gv g,nat b]∧AdF fs aS aT aB aP∧aS≠aT∧aS≠aB∧aT≠aB∧AN C H x dx fs aS aT aB aP W ∧
 H pa=some (kind (aF xs))∧pa∉[aS,aT,aB,aP]∧jC (W,b) xs∧∀ H',AN C H' x dx fs aS aT aB aP (bp g (W,b) xs).1→gP [aS,aT,aB,aP] H H'→Q .non H'
def iX:aD ["self", "places", "giver", "beside", "place", "number", "other"] ["self", "places", "giver", "beside"] (au xQ):=eR
inductive Fb(C:Addr)(H:Hp)(x dx pa aS aT aB aP:Addr)(fs:List (Str × V))(W:nC)(g:Option Nat)(b:Nat)(xs:List Str)(i:Nat)(σ:St)(H2:Hp):Prop
 | mk (v4 v5 v6:Option V) (q0:σ=[some (.ref x),some (.ref pa),some (gv g),some (nat (bp g (W,b) (xs.take i)).2),v4,v5,v6]) (q1:AN C H2 x dx fs aS aT aB aP (bp g (W,b) (xs.take i)).1) (q2:gP [aS,aT,aB,aP] H H2)
def Fb.but{C:Addr}{H:Hp}{x dx pa aS aT aB aP:Addr}{fs:List (Str × V)}{W:nC}{g:Option Nat}{b:Nat}{xs:List Str}{i:Nat}{σ:St}{H2:Hp}(h:Fb C H x dx pa aS aT aB aP fs W g b xs i σ H2):gP [aS,aT,aB,aP] H H2:=by
 cases h
 assumption
inductive AdJ(H5:Hp)(x pa aB ml:Addr)(g:Option Nat)(b n:Nat)(z:Str)(bs:List Nat)(i:Nat)(σ:St)(H6:Hp):Prop
 | mk (v6:Option V) (q0:σ=[some (.ref x),some (.ref pa),some (gv g),some (nat b),some (.str z),some (nat n),v6]) (q1:H6=upd H5 aB (.lst (nats (bx bs ((mem b).take i) n))))
def Ct{f C:Addr}{fd:FuncData}(F:dv K "add_spots" "Web.add_spots" xQ f fd)(T:Txt K mg)(CT:gG K C)(DM:gJ P w K mg base "members" gE ["bits"] 1 iN)
  (DB:gJ P w K mg base "bit" u7 ["number"] 1 sP):bo P w K mg base cS 2 f fd ["self", "places", "giver", "beside"] (wu C .tup):=by
 refine F.oK iX fun cdv A outer s H vs Q E hr h=>?_
 ·obtain⟨x,dx,pa,aS,aT,aB,aP,fs,W,g,b,xs,rfl,fa,nST,nSB,nTB,hW,hpa,npa,hfit,kk⟩:=h
  have hsl:=Ji
  have hu:=dY hr
  refine⟨_,ai (bq IT rfl (gR (pv 1)) (dX 4 iX)
   (af (cB 5 iX (ay bu rfl T.len cL (aa (aM (pv 0) rfl) ae)))
   (af (a9 (cR Jb IZ I0 aV (aM (pv 0) rfl) (aa (fD (aa (pv 4) (aa (pv 2) ae))) ae)))
   (af (a9 (cR Jb IZ I0 aV (aM (pv 0) rfl) (aa ak ae)))
   (af (a9 (cR Jb IZ I0 aV (aM (pv 0) rfl) (aa (pv 3) ae)))
   (af (bq IT rfl (aK (eA DM hr (aa (pv 3) ae))) (dX 6 iX)
    (ai (jo (aE jY (bb aR (aM (pv 0) rfl) (pv 6) (fun _ _=>rfl)) (eA DB hr (aa (pv 5) ae))) (qw (aM (pv 0) rfl) (pv 6) set_list))))
   (af (fX hu (aM (pv 0) rfl) (pv 4) (aE jY (fh hu (aM (pv 0) rfl) (pv 4) (fun _ _=>rfl)) (eA DB hr (aa (pv 5) ae))) rfl)
   (ai (cB 3 iX (aE jY (pv 3) (eA DB hr (aa (pv 5) ae)))))))))))),?_⟩
  clear hu
  dsimp only [iR,Cx.vG]
  have nT:pa≠aS∧pa≠aT∧pa≠aB∧pa≠aP:=by simpa using npa
  refine⟨_,rfl,pa,rfl,⟨_,bO.of hpa⟩,jV (K:=K) (a:=pa) (xs:=aF xs) (Fb C H x dx pa aS aT aB aP fs W g b xs)
   ⟨none,none,none,rfl,hW,fun _ _ z _=>z⟩ (fun i σ H2 _ h=>bO.of (h.but pa _ hpa npa)) ?_ ?_⟩
  ·rintro i v σ H2 hi ⟨v4,v5,v6,rfl,hA,but⟩
   obtain⟨z,hz,rfl⟩:=cZ hi
   have hil:=(IM.mp hz).1
   have etk:=av hz
   have fit:jC (bp g (W,b) (xs.take i)) (z::xs.drop (i+1)):=by
    refine jC.El (g:=g) ?_
    have e:xs.take i++z::xs.drop (i+1)=xs:=by
     have:=Kg (i+1) xs
     rw [etk,List.append_assoc] at this
     exact this
    rw [e]
    exact hfit
   have ep:bp g (W,b) (xs.take (i+1))=eC g (bp g (W,b) (xs.take i)) z:=by rw [etk,iu]
   have goal:∀ H',AN C H' x dx fs aS aT aB aP (eC g (bp g (W,b) (xs.take i)) z).1→gP [aS,aT,aB,aP] H H'→∀ v4 v5 v6,Fb C H x dx pa aS aT aB aP fs W g b xs (i+1) [some (.ref x),some (.ref pa),some (gv g),some (nat (eC g (bp g (W,b) (xs.take i)) z).2),v4,v5,v6] H':=fun H' h1 h2 v4 v5 v6=>⟨v4,v5,v6,by rw [ep],by rw [ep];exact h1,h2⟩
   generalize bp g (W,b) (xs.take i)=p at hA fit goal ⊢
   clear ep etk hi hz hil
   obtain⟨⟨sp,tk,be,pl⟩,b1⟩:=p
   obtain⟨ins,⟨qs,hS,hq⟩,hT,hB,hP⟩:=hA
   have lq:qs.length=sp.length:=(IX hq).symm
   have f1:tk.length=sp.length:=fit.tk
   have f2:be.length=sp.length:=fit.be
   have f3:b1<2 ^ sp.length:=fit.lt
   have f4:sp.length+(z::xs.drop (i+1)).length≤250:=fit.i9
   rw [Jh] at f4
   have f5:z∈pl.map (·.1):=fit.key z List.mem_cons_self
   have f6:(pl.map (·.1)).Nodup:=fit.nd
   have f7:pl.length≤12:=fit.sm
   dsimp only at hS hq hT hB hP
   refine⟨_,rfl,x,C,dx,_,_,rfl,ins,CT.cl,CT.nS,fa.s,_,sp.length,rfl,.inl ⟨_,aA.of hS,by rw [List.length_map,lq]⟩,?_⟩
   refine⟨_,rfl,x,C,dx,_,_,rfl,ins,CT.cl,CT.nS,fa.s,.inl ⟨rfl,_,aA.of hS⟩,_,rfl,_,rfl,by show 2≤sizeLine;lia,fun q nq=>?_⟩
   obtain⟨H3,eU,s3,hq3⟩:=nE nq (.tup [.str z,gv g])
   rw [eU]
   have hS3:=s3 _ _ hS
   have sq3:fe H3 (sp++[(z,g)]) (qs++[q]):=JZ (Paired.cu hq fun p q e=>s3 _ _ e) hq3
   refine⟨aS,_,_,rfl,rfl,hS3,by rw [List.length_map];lia,?_⟩
   have es:qs.map V.ref++[V.ref q]=(qs++[q]).map V.ref:=by rw [List.map_append];rfl
   rw [es]
   have xS:x≠aS:=aJ ins hS (fun z=>nomatch z)
   have xT:x≠aT:=aJ ins hT (fun z=>nomatch z)
   have xB:x≠aB:=aJ ins hB (fun z=>nomatch z)
   have xP:x≠aP:=aJ ins hP (fun z=>nomatch z)
   have SP:aS≠aP:=aJ hS hP (fun z=>nomatch z)
   have TP:aT≠aP:=aJ hT hP (fun z=>nomatch z)
   have BP:aB≠aP:=aJ hB hP (fun z=>nomatch z)
   have b4:gP [aS,aT,aB,aP] H (upd H3 aS (.lst ((qs++[q]).map V.ref))):=(but.same s3).upd (by simp)
   have i4:(upd H3 aS (.lst ((qs++[q]).map V.ref))) x=some (.ins C dx fs):=by rw [ah xS];exact s3 _ _ ins
   have S4:(upd H3 aS (.lst ((qs++[q]).map V.ref))) aS=some (.lst ((qs++[q]).map V.ref)):=ag
   have T4:(upd H3 aS (.lst ((qs++[q]).map V.ref))) aT=some (.lst (nats tk)):=by rw [ah nST.symm];exact s3 _ _ hT
   have B4:(upd H3 aS (.lst ((qs++[q]).map V.ref))) aB=some (.lst (nats be)):=by rw [ah nSB.symm];exact s3 _ _ hB
   have P4:(upd H3 aS (.lst ((qs++[q]).map V.ref))) aP=some (.dK (iH pl)):=by rw [ah SP.symm];exact s3 _ _ hP
   have q4:=fe.put (o':=.lst ((qs++[q]).map V.ref)) sq3 hS3
   generalize upd H3 aS (.lst ((qs++[q]).map V.ref))=H4 at b4 i4 S4 T4 B4 P4 q4 ⊢
   refine⟨_,rfl,x,C,dx,_,_,rfl,i4,CT.cl,CT.nT,fa.t,.inl ⟨rfl,_,aA.of T4⟩,aT,_,_,rfl,rfl,T4,by rw [aX];lia,?_⟩
   have et:nats tk++[V.int 0]=nats (tk++[0]):=fq tk 0
   rw [et]
   have b5:=b4.upd (a:=aT) (o:=.lst (nats (tk++[0]))) (by simp)
   have i5:(upd H4 aT (.lst (nats (tk++[0])))) x=some (.ins C dx fs):=by rw [ah xT];exact i4
   have S5:(upd H4 aT (.lst (nats (tk++[0])))) aS=some (.lst ((qs++[q]).map V.ref)):=by rw [ah nST];exact S4
   have T5:(upd H4 aT (.lst (nats (tk++[0])))) aT=some (.lst (nats (tk++[0]))):=ag
   have B5:(upd H4 aT (.lst (nats (tk++[0])))) aB=some (.lst (nats be)):=by rw [ah nTB.symm];exact B4
   have P5:(upd H4 aT (.lst (nats (tk++[0])))) aP=some (.dK (iH pl)):=by rw [ah TP.symm];exact P4
   have q5:=fe.put (o':=.lst (nats (tk++[0]))) q4 T4
   generalize upd H4 aT (.lst (nats (tk++[0])))=H5 at b5 i5 S5 T5 B5 P5 q5 ⊢
   refine⟨_,rfl,x,C,dx,_,_,rfl,i5,CT.cl,CT.nB,fa.b,.inl ⟨rfl,_,aA.of B5⟩,_,rfl,aB,_,_,rfl,rfl,B5,by rw [aX];lia,?_⟩
   rw [fq]
   have b6:=b5.upd (a:=aB) (o:=.lst (nats (be++[b1]))) (by simp)
   have i6:(upd H5 aB (.lst (nats (be++[b1])))) x=some (.ins C dx fs):=by rw [ah xB];exact i5
   have S6:(upd H5 aB (.lst (nats (be++[b1])))) aS=some (.lst ((qs++[q]).map V.ref)):=by rw [ah nSB];exact S5
   have T6:(upd H5 aB (.lst (nats (be++[b1])))) aT=some (.lst (nats (tk++[0]))):=by rw [ah nTB];exact T5
   have B6:(upd H5 aB (.lst (nats (be++[b1])))) aB=some (.lst (nats (be++[b1]))):=ag
   have P6:(upd H5 aB (.lst (nats (be++[b1])))) aP=some (.dK (iH pl)):=by rw [ah BP.symm];exact P5
   have q6:=fe.put (o':=.lst (nats (be++[b1]))) q5 B5
   generalize upd H5 aB (.lst (nats (be++[b1])))=H6 at b6 i6 S6 T6 B6 P6 q6 ⊢
   have b256:b1<2 ^ 256:=IW f3 (Jr (by decide) (by lia))
   refine⟨_,rfl,b1,rfl,b256,fun H7 ml s7 nml hml=>?_⟩
   have mB:ml≠aB:=(aj B6 nml).symm
   have b7:=b6.same s7
   have i7:=s7 _ _ i6
   have S7:=s7 _ _ S6
   have T7:=s7 _ _ T6
   have B7:=s7 _ _ B6
   have P7:=s7 _ _ P6
   have q7:fe H7 (sp++[(z,g)]) (qs++[q]):=Paired.cu q6 fun p q e=>s7 _ _ e
   clear s7 nml
   refine⟨ml,rfl,⟨_,aA.of hml⟩,br (K:=K) (a:=ml) (xs:=nats (mem b1)) (AdJ H7 x pa aB ml g b1 sp.length z (be++[b1]))
    ⟨_,rfl,?_⟩ (fun j σ H8 _ h=>?_) ?_ ?_⟩
   ·show H7=upd H7 aB (.lst (nats (be++[b1])))
    rw [vQ B7]
   ·obtain⟨v6,_,rfl⟩:=h
    refine aA.of ?_
    rw [ah mB]
    exact hml
   ·rintro j v σ H8 hj ⟨v6,rfl,rfl⟩
    obtain⟨k,hk,rfl⟩:∃ k,(mem b1)[j]?=some k∧v=nat k:=by
     unfold nats at hj
     rw [List.getElem?_map] at hj
     obtain⟨k,e1,e2⟩:=JJ.mp hj
     exact⟨k,e1,e2.symm⟩
    have kl:k<sp.length:=pI f3 (IK hk)
    have ol:(bx (be++[b1]) ((mem b1).take j) sp.length).length=sp.length+1:=by rw [c7,List.length_append,f2];rfl
    have e8:(upd H7 aB (.lst (nats (bx (be++[b1]) ((mem b1).take j) sp.length)))) aB=some (.lst (nats (bx (be++[b1]) ((mem b1).take j) sp.length))):=ag
    have i8:(upd H7 aB (.lst (nats (bx (be++[b1]) ((mem b1).take j) sp.length)))) x=some (.ins C dx fs):=by rw [ah xB];exact i7
    refine⟨_,rfl,x,C,dx,_,_,rfl,i8,CT.cl,CT.nB,fa.b,_,rfl,aB,_,_,_,rfl,rfl,aA.of e8,bh (fQ (by rw [ol];lia)),_,rfl,sp.length,rfl,by lia,_,_,rfl,rfl,?_⟩
    dsimp only [nat]
    rw [gq]
    refine⟨_,rfl,x,C,dx,_,_,rfl,i8,CT.cl,CT.nB,fa.b,_,rfl,aB,_,_,k,rfl,rfl,e8,o8 (by rw [aX,ol];lia),?_⟩
    refine⟨_,rfl,?_⟩
    rw [wa,av hk,jd]
    have:=nA (bx (be++[b1]) ((mem b1).take j) sp.length) k ((bx (be++[b1]) ((mem b1).take j) sp.length).getD k 0 ||| 2 ^ sp.length)
    unfold nat at this
    rw [this]
    rfl
   ·rintro σ H8 ⟨v6,rfl,rfl⟩
    rw [aX,Jc]
    generalize hbe:bx (be++[b1]) (mem b1) sp.length=be2
    have b8:=b7.upd (a:=aB) (o:=.lst (nats be2)) (by simp)
    have i8:(upd H7 aB (.lst (nats be2))) x=some (.ins C dx fs):=by rw [ah xB];exact i7
    have S8:(upd H7 aB (.lst (nats be2))) aS=some (.lst ((qs++[q]).map V.ref)):=by rw [ah nSB];exact S7
    have T8:(upd H7 aB (.lst (nats be2))) aT=some (.lst (nats (tk++[0]))):=by rw [ah nTB];exact T7
    have B8:(upd H7 aB (.lst (nats be2))) aB=some (.lst (nats be2)):=ag
    have P8:(upd H7 aB (.lst (nats be2))) aP=some (.dK (iH pl)):=by rw [ah BP.symm];exact P7
    have q8:=fe.put (o':=.lst (nats be2)) q7 B7
    generalize upd H7 aB (.lst (nats be2))=H8 at b8 i8 S8 T8 B8 P8 q8 ⊢
    obtain⟨m,hm⟩:=vH f5
    have dg:fz H8 aP (V.str z) (some (nat m)):=by rw [← hm];exact fz.k (k:=Sum.inr z) P8
    refine⟨_,rfl,x,C,dx,_,_,rfl,i8,CT.cl,CT.nP,fa.p,_,rfl,aP,nat m,rfl,dg,_,rfl,sp.length,rfl,by lia,_,_,rfl,rfl,?_⟩
    dsimp only [nat]
    rw [gq]
    refine⟨_,rfl,x,C,dx,_,_,rfl,i8,CT.cl,CT.nP,fa.p,_,rfl,aP,_,rfl,jN.k (k:=Sum.inr z) P8 (by unfold iH;rw [List.length_map];lia),?_⟩
    have pk:=vw (n:=sp.length) f6 hm
    unfold nat at pk
    rw [pk]
    refine⟨_,rfl,_,rfl,sp.length,rfl,by lia,_,_,rfl,rfl,?_⟩
    dsimp only [nat]
    rw [gq]
    refine goal _ ⟨?_,⟨qs++[q],?_,?_⟩,?_,?_,?_⟩ (b8.upd (by simp)) _ _ _
    ·rw [ah xP];exact i8
    ·rw [ah SP];exact S8
    ·exact fe.putD q8 P8
    ·rw [ah TP];exact T8
    ·rw [ah BP,B8,← hbe];rfl
    ·exact ag
  ·rintro σ H2 ⟨v4,v5,v6,rfl,hA,but⟩
   rw [aw,Jc] at hA
   exact kk H2 hA but
end Uf
end
section
namespace Uf
open PySem L2 UfSrt UfFin
def vm:Sp:=fun vs H Q _=>∃ (d a:Addr) (t s:List Str) (wy:UfBfs.cA (List Str) Str) (g:UfBfs.G (List Str) Str) (L k:Nat) (ts:List (List Str)),vs=[.ref d,.ref a]∧jf H d wy∧H a=some (.tup (aF t))∧UfBfs.Good g s L wy ts∧k≤L∧L≤5000∧UfBfs.fR g s k t ∧
 ∀ H' q,aq H H'→H q=none→H' q=some (.lst (aF (UfBfs.gc wy k t)))→Q (.ref q) H'
def lB:aD ["ways", "state", "row", "way"] ["ways", "state"] (au qz):=eR
def Av{f:Addr}{fd:FuncData}(F:dv K "row_by_ways" "row_by_ways" qz f fd)(T:Txt K mg)(hrev:mg "reversed"=none):bo P w K mg base cS 1 f fd ["ways", "state"] vm:=by
 refine F.oK lB fun cdv A outer s H vs Q E hr h=>?_
 ·obtain⟨d,a,t,s0,wy,g,L,k,ts,rfl,⟨kvs,hd,wp⟩,ha,good,hkL,hL,hdist,kk⟩:=h
  have hu:=dY hr
  have hsl:=Ji
  refine⟨_,af (cB 2 lB (dR ae))
   (af (cB 3 lB (fh hu (pv 0) (pv 1) (fun _ _=>rfl)))
   (af (jB IT (ke (qu (pv 3)))
    (af (a9 (cR Jb IZ I0 aV (pv 2) (aa (bb eE (pv 3) ak (fun _ _=>rfl)) ae)))
    (ai (cB 3 lB (fh hu (pv 0) (bb eE (pv 3) ak (fun _ _=>rfl)) (fun _ _=>rfl))))))
   (ai (aI (ud rfl rfl T.lst dA rfl hrev (aa (pv 2) ae)))))),?_⟩
  clear hu
  dsimp only [iR,Cx.vG]
  refine⟨IU _,fun r nr=>?_⟩
  have sm0:aq H (upd H r (.lst [])):=ao nr
  have ndr:d≠r:=aj hd nr
  obtain⟨x0,hx0⟩:=good.all k t hkL hdist
  obtain⟨v0,hv0,wv0⟩:=(wp.dh sm0.dh).some hx0
  have ha0:(upd H r (.lst [])) a=some (.tup ((ju t).map kV)):=by rw [lx];exact sm0 _ _ ha
  refine⟨_,rfl,_,rfl,d,v0,rfl,(by rw [← hv0];exact fz.t (sm0 _ _ hd) ha0),?_⟩
  refine⟨fun m σ H2=>∃ (u:List Str) (x:Option (List Str × Str)) (v:V) (rl:List Str),m≤k∧UfBfs.fR g s0 m u∧UfBfs.look wy u=some x∧uh H2 x v∧σ=[some (.ref d),some (.ref a),some (.ref r),some v]∧aq H H2∧H2 r=some (.lst (aF rl))∧rl.length+m=k∧UfBfs.gc wy k t=UfBfs.gc wy m u++rl.reverse,
   ⟨k,t,x0,v0,[],II _,hdist,hx0,wv0,rfl,sm0,ag,by simp,by simp⟩,?_⟩
  rintro m σ H2 ⟨u,x,v,rl,hmk,hdu,hxu,wv,rfl,sm,hr2,hlen,erow⟩
  obtain⟨k',hk',hd',hway⟩:=good.way u x hxu
  have ek:k'=m:=hd'.uniq hdu
  subst ek
  refine⟨_,rfl,_,rfl,?_⟩
  cases x with
  | none =>
   have ev:v=.non:=wv
   subst ev
   refine bB ?_
   have eu:u=s0:=hway
   subst eu
   have h0:k'=0:=by
    have:=hdu.2 0 (UfBfs.At.zero g u)
    lia
   subst h0
   have e2:UfBfs.gc wy k t=rl.reverse:=by rw [erow];rfl
   refine⟨_,rfl,r,aF rl,rfl,aA.of hr2,fun q nq=>?_⟩
   refine kk _ q (sm.trans (ao nq)) (sm.free nq) ?_
   rw [ag,e2]
   unfold aF
   rw [List.map_reverse]
  | some um =>
   obtain⟨u',m'⟩:=um
   obtain⟨q,b,ev,hq,hb⟩:=wv
   subst ev
   obtain⟨j,ej,hdj,hmay,eu⟩:=hway
   subst ej
   refine bF ?_
   obtain⟨x',hx'⟩:=good.all j u' (by lia) hdj
   refine⟨fun σ' H'=>∃ (u:List Str) (x:Option (List Str × Str)) (v:V) (rl:List Str),j≤k∧UfBfs.fR g s0 j u∧UfBfs.look wy u=some x∧uh H' x v∧σ'=[some (.ref d),some (.ref a),some (.ref r),some v]∧aq H H'∧H' r=some (.lst (aF rl))∧rl.length+j=k∧UfBfs.gc wy k t=UfBfs.gc wy j u++rl.reverse,
    fun σ' H' h=>⟨j,JX _,h⟩,?_⟩
   refine⟨_,rfl,.inl ⟨rfl,_,aA.of hr2⟩,_,rfl,q,_,1,_,rfl,rfl,bO.of hq,bh (j:=1) rfl,r,_,_,rfl,rfl,hr2,(by rw [aw];lia),?_⟩
   have t3:uP H2 (upd H2 r (.lst (aF rl++[V.str m']))):=m7 hr2 (fun _ z=>nomatch z)
   have sm3:aq H (upd H2 r (.lst (aF rl++[V.str m']))):=aY sm nr
   have hb3:(upd H2 r (.lst (aF rl++[V.str m']))) b=some (.tup ((ju u').map kV)):=by rw [lx];exact t3 _ _ hb
   obtain⟨v',hv',wv'⟩:=((wp.dh sm.dh).dh t3).some hx'
   refine⟨_,rfl,_,rfl,q,_,0,_,rfl,rfl,bO.of (t3 _ _ hq),bh (j:=0) rfl,d,v',rfl,(by rw [← hv'];exact fz.t (sm3 _ _ hd) hb3),?_⟩
   refine⟨u',x',v',rl++[m'],by lia,hdj,hx',wv',rfl,sm3,?_,by simp;lia,?_⟩
   ·rw [ag]
    unfold aF
    simp
   ·rw [erow]
    have e3:UfBfs.gc wy (j+1) u=UfBfs.gc wy j u'++[m']:=by
     simp only [UfBfs.gc,hxu]
    rw [e3]
    simp
def zO:(("start":Str) == "place_names")=false:=by decide +kernel
def yt:(("start":Str) == "start_state")=false:=by decide +kernel
def yK:(("start":Str) == "taken_by")=false:=by decide +kernel
def zU:(("start":Str) == "given_by")=false:=by decide +kernel
def mO(C:Addr):Sp:=fun vs H Q _=>∃ (p:Addr) (ms:List Mv) (st:List Str),vs=[.ref p]∧cc C H p ms st ∧
 (∀ H',aq H H'→UfBfs.Told (graph ms) (aH st) none→Q .non H')∧∀ H' q row,aq H H'→UfBfs.Told (graph ms) (aH st) (some row)→row.length≤5001→H q=none→H' q=some (.lst (aF row))→Q (.ref q) H'
def ed:aD ["net", "ways", "states", "state", "move"] ["net"] (au iJ):=eR
def rS{f C:Addr}{fd:FuncData}(F:dv K "crowding" "crowding" iJ f fd)(CT:gU K C)(DS:jI P w K mg base C "start" "Net.start" m9 ["self"] 1 (pR C))
  (DC:gJ P w K mg base "crowder" j5 ["net", "state"] 5 (oU K C))
  (DN:gJ P w K mg base "newly_reached" qm ["net", "states", "ways"] 6 (vW C))
  (DR:gJ P w K mg base "row_by_ways" qz ["ways", "state"] 1 vm) :
  bo P w K mg base cS 7 f fd ["net"] (mO C):=by
 refine F.oK ed fun cdv A outer s H vs Q E hr h=>?_
 ·obtain⟨p,ms,st,rfl,N,kn,ks⟩:=h
  have hu:=dY hr
  have hr1:cw 1 _:=hr.mono (by decide)
  have hr5:cw 5 _:=hr.mono (by decide)
  refine⟨_,af (cB 1 ed (xa hu (cq (pv 0) CT.cl DS.d.mt DS.g hr1 DS.d.bd .nil bz) ir))
   (af (cB 2 ed (dR (aa (cq (pv 0) CT.cl DS.d.mt DS.g hr1 DS.d.bd .nil bz) ae)))
   (af (jB IT (qL (pv 2) (fun _=>rfl))
    (af (bq IT rfl (aK (pv 2)) (dX 3 ed)
     (af (cB 4 ed (eA DC hr5 (aa (pv 0) (aa (pv 3) ae))))
      (ai (bH (ke (qu (pv 4))) (ai (aI (aE jj (eA DR hr1 (aa (pv 1) (aa (pv 3) ae))) (dR (aa (pv 4) ae))))) aU))))
    (ai (cB 2 ed (eA DN hr (aa (pv 0) (aa (pv 2) (aa (pv 1) ae))))))))
   (ai (aI ir)))),?_⟩
  clear hu
  dsimp only [iR,Cx.vG]
  have so:=N.so
  have hsl:=Ji
  intro d nd
  have sd:aq H (upd H d (.dT [])):=ao nd
  have N1:=N.same sd
  obtain⟨dx,aP,aS,aT,aG,kT,kG,h1,_⟩:=N1.at'.ob
  refine⟨_,rfl,p,dx,_,rfl,h1,cW _ _ _ _ zO yt yK zU,p,ms,st,rfl,N1,fun q hq=>?_⟩
  refine⟨ag,ju (aH st),q,rfl,(by rw [lx];exact hq),?_⟩
  have nqd:q≠d:=aJ hq ag (fun z=>nomatch z)
  have s2:aq H (upd (upd H d (.dT [])) d (.dT [(ju (aH st),V.non)])):=aY sd nd
  have hd2:(upd (upd H d (.dT [])) d (.dT [(ju (aH st),V.non)])) d=some (.dT [(ju (aH st),V.non)]):=ag
  have hq2:(upd (upd H d (.dT [])) d (.dT [(ju (aH st),V.non)])) q=some (.tup (aF (aH st))):=by rw [ah nqd];exact hq
  generalize upd (upd H d (.dT [])) d (.dT [(ju (aH st),V.non)])=H2 at s2 hd2 hq2 ⊢
  have N2:=N.same s2
  obtain⟨dx2,aP2,aS2,aT2,aG2,kT2,kG2,h2,_⟩:=N2.at'.ob
  refine⟨_,rfl,p,dx2,_,rfl,h2,cW _ _ _ _ zO yt yK zU,p,ms,st,rfl,N2,fun q' hq'=>⟨by show 1≤sizeLine;lia,fun a na=>?_⟩⟩
  have s3:aq H2 (upd H2 a (.lst [.ref q'])):=ao na
  have fs:=uR so
  have hsf:∀ t∈[aH st],iV ms st t:=fun t ht=>by
   have e:t=aH st:=by simpa using ht
   rw [e]
   exact fs
  have ac0:Acc ms st ([(aH st,none)],[]):=⟨by simp,hsf,by simp⟩
  refine⟨fun m σ H4=>∃ (L:Nat) (wy:UfBfs.cA (List Str) Str) (ts:List (List Str)) (a:Addr) (v3 v4:Option V),σ=[some (.ref p),some (.ref d),some (.ref a),v3,v4]∧aq H H4∧H a=none∧mq H4 a ts∧jf H4 d wy∧UfBfs.Good (graph ms) (aH st) L wy ts∧Acc ms st (wy,[])∧(∀ t∈ts,iV ms st t)∧(ts≠[]→L+1≤wy.length)∧m=2*(5000-wy.length)+(if ts=[] then 0 else 1),
   ⟨_,0,[(aH st,none)],[aH st],a,none,none,rfl,s2.trans s3,s2.free na,⟨[q'],ag,.cons (s3 _ _ hq') .nil⟩,⟨_,s3 _ _ hd2,.cons ⟨rfl,rfl⟩ .nil⟩,UfBfs.Good.start _ _,ac0,hsf,fun _=>by simp,rfl⟩,?_⟩
  rintro m σ H4 ⟨L,wy,ts,a,v3,v4,rfl,s4,na4,S4,W4,good,ac,hf,hL,em⟩
  obtain⟨qs,ha4,hp4⟩:=id S4
  refine⟨_,rfl,_,.inl ⟨_,aA.of ha4,rfl⟩,?_⟩
  have i9:wy.length≤4096:=ac.i9 so
  by_cases hts:ts=[]
  ·subst hts
   cases hp4
   refine bB ?_
   exact kn H4 s4 good.none
  ·have eq:(!(qs.map V.ref).isEmpty)=true:=by
    cases hp4 with
    | nil=>exact absurd rfl hts
    | cons _ _=>rfl
   rw [eq]
   refine bF ?_
   have hL':=hL hts
   refine⟨fun σ' H'=>∃ m',m'<m∧∃ (L:Nat) (wy:UfBfs.cA (List Str) Str) (ts:List (List Str)) (a:Addr) (v3 v4:Option V),σ'=[some (.ref p),some (.ref d),some (.ref a),v3,v4]∧aq H H'∧H a=none∧mq H' a ts∧jf H' d wy∧UfBfs.Good (graph ms) (aH st) L wy ts∧Acc ms st (wy,[])∧(∀ t∈ts,iV ms st t)∧(ts≠[]→L+1≤wy.length)∧m'=2*(5000-wy.length)+(if ts=[] then 0 else 1),
    fun σ' H' h=>h,?_⟩
   refine⟨_,rfl,a,rfl,⟨_,aA.of ha4⟩,br (K:=K) (a:=a) (xs:=qs.map V.ref) (fun i σ H5=>∃ (v3 v4:Option V),σ=[some (.ref p),some (.ref d),some (.ref a),v3,v4]∧aq H4 H5∧∀ u∈ts.take i,hX ms u=none)
    ⟨v3,v4,rfl,aq.refl _,fun u hu=>by simp at hu⟩ (fun i σ H5 _ ⟨_,_,_,s5,_⟩=>aA.of (s5 _ _ ha4)) ?_ ?_⟩
   ·rintro i v σ H5 hi ⟨v3,v4,rfl,s5,hbad⟩
    obtain⟨tq,hqi,rfl⟩:=fF hi
    obtain⟨t,ht,htq⟩:=bA hp4 hqi
    have hmt:t∈ts:=IK ht
    have hft:iV ms st t:=hf t hmt
    refine⟨_,rfl,_,rfl,p,tq,ms,st,t,rfl,N.same (s4.trans s5),bO.of (s5 _ _ htq),by have:=hft.len so;lia,fun H6 s6=>?_⟩
    refine⟨_,rfl,_,rfl,?_⟩
    cases hc:hX ms t with
    | none =>
     refine bB ?_
     refine⟨_,_,rfl,s5.trans s6,fun u hu=>?_⟩
     rw [av ht] at hu
     rcases Ja.mp hu with z | z
     ·exact hbad u z
     ·have e:u=t:=by simpa using z
      rw [e]
      exact hc
    | some x =>
     refine bF ?_
     have s46:=s5.trans s6
     obtain⟨kvs4,hd4,wp4⟩:=id W4
     refine⟨_,rfl,_,rfl,d,tq,t,aH st,wy,graph ms,L,L,ts,rfl,⟨kvs4,s46 _ _ hd4,wp4.dh s46.dh⟩,s46 _ _ htq,good,II _,by lia,(good.ts t).mp hmt,fun H7 q7 s7 nq7 hq7=>?_⟩
     refine⟨_,rfl,by show 1≤sizeLine;lia,fun q8 nq8=>?_⟩
     have n78:q7≠q8:=aj hq7 nq8
     have told:=good.some hmt (show(graph ms).bad t=some x from hc)
     obtain⟨q1,q2⟩:=good.row L t (II _) ((good.ts t).mp hmt)
     refine⟨q7,q8,_,_,rfl,rfl,(by rw [ah n78];exact hq7),ag,?_,fun q9 nq9=>?_⟩
     ·rw [aw,q2]
      show L+1≤sizeLine
      lia
     have s8:aq H7 (upd H7 q8 (.lst [V.str x])):=ao nq8
     have sA:=(s4.trans s46).trans (s7.trans s8)
     refine ks _ q9 _ (sA.trans (ao nq9)) told (by rw [List.length_append,q2];show L+1≤5001;lia) (sA.free nq9) ?_
     rw [ag]
     unfold aF
     rw [List.map_append]
     rfl
   ·rintro σ H5 ⟨v3,v4,rfl,s5,hbad⟩
    have el:(qs.map V.ref).length=ts.length:=by rw [List.length_map,← IX hp4]
    rw [el,Jc] at hbad
    obtain⟨kvs4,hd4,wp4⟩:=id W4
    refine⟨_,rfl,_,rfl,_,rfl,p,a,d,ms,st,ts,wy,rfl,N.same (s4.trans s5),⟨qs,s5 _ _ ha4,Paired.cu hp4 fun _ _ e=>s5 _ _ e⟩,⟨kvs4,s5 _ _ hd4,wp4.dh s5.dh⟩,hf,ac,fun H6 q6 b6 nq6 S6 W6 ac6=>?_⟩
    have lv:=UfBfs.oo (graph ms) ts wy
    have gn:=good.next hbad
    have sB:aq H H6:=fun c o e=>b6 c o ((s4.trans s5) c o e) (aj e nd)
    have lk:(UfBfs.eZ (graph ms) ts wy).1.length=wy.length+(UfBfs.eZ (graph ms) ts wy).2.length:=by
     have:=J4 List.length lv.keys
     rw [List.length_append,List.length_map,List.length_map] at this
     exact this
    have few6:=ac6.i9 so
    refine⟨_,?_,L+1,(UfBfs.eZ (graph ms) ts wy).1,(UfBfs.eZ (graph ms) ts wy).2,q6,_,_,rfl,sB,(s4.trans s5).free nq6,S6,W6,gn,⟨ac6.nd,ac6.fine,IU _⟩,fun t ht=>?_,fun hne=>?_,rfl⟩
    ·rw [em,if_neg hts]
     by_cases h0:(UfBfs.eZ (graph ms) ts wy).2=[]
     ·rw [if_pos h0,lk,h0]
      simp
     ·rw [if_neg h0]
      have:=LI.mpr h0
      lia
    ·refine ac6.fine t ?_
     rw [lv.keys]
     exact Js _ ht
    ·have:=LI.mpr hne
     lia
end Uf
end
section
namespace Uf
open PySem L2 UfSrt UfFin UfB
def vt(p aS aO aN aW aG aB aT aP:Addr):List (Str × V):=bf "place_bits" (.ref aP) (bf "taker_bits" (.ref aT) (bf "beside_bits" (.ref aB) (bf "given_bits" (.ref aG) (bf "own_bits" (.ref aW) (bf "numbers_there" (.ref aN) (bf "occurrence_tuples" (.ref aO) (bf "spot_tuples" (.ref aS) (bf "base_net" (.ref p) []))))))))
def kd(p aS aO aN aW aG aB aT aP:Addr):AdF (vt p aS aO aN aW aG aB aT aP) aS aT aB aP:=by
 unfold vt
 refine⟨?_,?_,?_,?_⟩
 ·rw [ar,if_neg (by decide +kernel),ar,if_neg (by decide +kernel),ar,if_neg (by decide +kernel),ar,if_neg (by decide +kernel),ar,if_neg (by decide +kernel),ar,if_neg (by decide +kernel),ar,if_neg (by decide +kernel),ar,if_pos rfl]
 ·rw [ar,if_neg (by decide +kernel),ar,if_pos rfl]
 ·rw [ar,if_neg (by decide +kernel),ar,if_neg (by decide +kernel),ar,if_pos rfl]
 ·rw [ar,if_pos rfl]
def Dt(p aS aO aN aW aG aB aT aP:Addr):(vt p aS aO aN aW aG aB aT aP).lookup ("add_spots":Str)=none:=by
 unfold vt
 rw [ar,if_neg (by decide +kernel),ar,if_neg (by decide +kernel),ar,if_neg (by decide +kernel),ar,if_neg (by decide +kernel),ar,if_neg (by decide +kernel),ar,if_neg (by decide +kernel),ar,if_neg (by decide +kernel),ar,if_neg (by decide +kernel),ar,if_neg (by decide +kernel)]
 rfl
theorem rh(f:Str)(v:V):∀ fs:List (Str × V),(bf f v fs).length≤fs.length+1
 | []=>by simp [bf]
 | (g,x)::r=>by
  have:=rh f v r
  unfold bf
  split <;> simp <;> lia
structure WI(H0:Hp)(x dx C:Addr)(fs:List (Str × V))(new:List (Addr × HO))(H:Hp):Prop where
 ins:H x=some (.ins C dx fs)
 old:∀ c o,H0 c=some o→c≠x→H c=some o
 here:∀ p∈new,H p.1=some p.2
 nx:∀ p∈new,p.1≠x
 fr:∀ p∈new,H0 p.1=none
 nd:(new.map (·.1)).Nodup
 len:fs.length≤new.length+1
def WI.put{H0:Hp}{x dx C a:Addr}{fs:List (Str × V)}{new:List (Addr × HO)}{H:Hp}{o:HO}(f:Str)(h:WI H0 x dx C fs new H)(ha:H a=none) :
  WI H0 x dx C (bf f (.ref a) fs) ((a,o)::new) (upd (upd H a o) x (.ins C dx (bf f (.ref a) fs))):=by
 have ax:a≠x:=(aj h.ins ha).symm
 refine⟨ag,fun c u e n=>?_,fun p hp=>?_,fun p hp=>?_,fun p hp=>?_,?_,?_⟩
 ·have e2:=h.old c u e n
  rw [ah n,ah (aj e2 ha)]
  exact e2
 ·rcases IP.mp hp with rfl | hp
  ·rw [ah ax];exact ag
  ·have e2:=h.here p hp
   rw [ah (h.nx p hp),ah (aj e2 ha)]
   exact e2
 ·rcases IP.mp hp with rfl | hp
  ·exact ax
  ·exact h.nx p hp
 ·rcases IP.mp hp with rfl | hp
  ·cases q:H0 a with
   | none=>rfl
   | some u =>
    have:=h.old a u q ax
    rw [ha] at this
    cases this
  ·exact h.fr p hp
 ·refine JQ.mpr ⟨fun hm=>?_,h.nd⟩
  obtain⟨p,hp,e⟩:=IV.mp hm
  have:=h.here p hp
  rw [e,ha] at this
  cases this
 ·have:=rh f (.ref a) fs
  have:=h.len
  rw [Jh]
  lia
def WI.same{H0:Hp}{x dx C:Addr}{fs:List (Str × V)}{new:List (Addr × HO)}{H H':Hp}(h:WI H0 x dx C fs new H)(s:aq H H'):WI H0 x dx C fs new H' :=
 ⟨s _ _ h.ins,fun c o e n=>s _ _ (h.old c o e n),fun p hp=>s _ _ (h.here p hp),h.nx,h.fr,h.nd,h.len⟩
def WI.kL{H0:Hp}{x dx C:Addr}{fs:List (Str × V)}{new:List (Addr × HO)}{H:Hp}(h:WI H0 x dx C fs new H):∀ a∈new.map (·.1),H0 a=none:=fun a ha=>by
 obtain⟨q,hq,e⟩:=IV.mp ha
 rw [← e]
 exact h.fr q hq
def cc.Gq{C D x dx p:Addr}{H H':Hp}{ms:List Mv}{st:List Str}(N:cc C H p ms st)(hx:H x=some (.ins D dx []))(b:∀ c o,H c=some o→c≠x→H' c=some o):cc C H' p ms st:=by
 obtain⟨dn,aP,aS,aT,aG,kT,kG,h1,h2,h3,h4,h5,h6,h7⟩:=N.at'.ob
 have tp:∀ c xs,H c=some (.tup xs)→H' c=some (.tup xs):=fun c xs e=>b c _ e (aJ e hx (fun z=>nomatch z))
 refine⟨⟨⟨dn,aP,aS,aT,aG,kT,kG,b _ _ h1 (aJ h1 hx (fun z=>by injection z with _ _ z3;cases z3)),tp _ _ h2,tp _ _ h3,b _ _ h4 (aJ h4 hx (fun z=>nomatch z)),b _ _ h5 (aJ h5 hx (fun z=>nomatch z)),h6.same tp,h7.same tp⟩⟩,N.so⟩
def BQ:bootBuiltins "dict"=some (.type "dict"):=by decide +kernel
def Ak{σ μ:Type}{g:UfBfs.G σ μ}{s:σ}{row:List μ}(h:UfBfs.Told g s none):¬ UfBfs.Told g s (some row):=fun⟨r,t,m,_,l,b,_⟩=>by
 have:=h r.length t ⟨r,rfl,l⟩
 rw [b] at this
 cases this
inductive zj(CW:Addr)(H0 H:Hp)(x p:Addr)(W:nC):Prop
 | mk (dx aS aO aN aW aG aB aT aP:Addr) (hA:AN CW H x dx (vt p aS aO aN aW aG aB aT aP) aS aT aB aP W) (hO:H aO=some (.lst [])) (hN:H aN=some (.dK [])) (hW:H aW=some (.lst [])) (hG:H aG=some (.lst [])) (nd:[aP,aT,aB,aG,aW,aN,aO,aS].Nodup) (fr:∀ a∈[aP,aT,aB,aG,aW,aN,aO,aS],H0 a=none)
def qf(ms:List Mv)(st:List Str):(cF ms st).Nodup:=by
 unfold cF
 exact(df _).nodup_iff.mpr (UfSet.mh _)
def zl{ms:List Mv}{st:List Str}{y:Str}(h:y∈st):y∈cF ms st:=bE.mpr (UfSet.qb.mpr (Jv _ h))
def W0(ms:List Mv)(st:List Str):nC:=⟨[],[],[],(cF ms st).map fun x=>(x,0)⟩
def vh(C CW:Addr):Sp:=fun vs H Q E=>∃ (x dx p:Addr) (ms:List Mv) (st:List Str),vs=[.ref x,.ref p]∧H x=some (.ins CW dx [])∧cc C H p ms st∧UfBfs.Told (graph ms) (aH st) none ∧
 ∀ H',zj CW H H' x p (bp none (W0 ms st,0) (aH st)).1→(∀ c o,H c=some o→c≠x→H' c=some o)→Q .non H'
def pO:aD ["self", "net", "row"] ["self", "net"] (au ux):=eR
def Ar(C:Addr):Sp:=fun vs H Q _=>∃ (p:Addr) (ms:List Mv) (st:List Str),vs=[.ref p]∧cc C H p ms st∧∀ H' q,aq H H'→H q=none→H' q=some (.lst (aF (cF ms st)))→Q (.ref q) H'
def ET:aD ["self"] ["self"] (au wA):=eR
def CH{f C:Addr}{fd:FuncData}(F:dv K "places" "Net.places" wA f fd)(T:Txt K mg)(CT:gU K C):bo P w K mg base cS 1 f fd ["self"] (Ar C):=by
 refine F.oK ET fun cdv A outer s H vs Q E hr h=>?_
 ·obtain⟨p,ms,st,rfl,N,k⟩:=h
  obtain⟨dx,aP,aS,aT,aG,kT,kG,h1,h2,h3,h4,h5,h6,h7⟩:=N.at'.ob
  refine⟨_,ai (aI (a8 bU rfl T.lst dA (aa (aM (pv 0) rfl) ae))),?_⟩
  exact⟨_,rfl,p,C,dx,_,_,rfl,h1,CT.cl,CT.nP,FX _ _ _ _,aP,_,rfl,.inr (bO.of h2),fun q nq=>k _ q (ao nq) nq ag⟩
def FG:(("places":Str) == "place_names")=false:=by decide +kernel
def Gm:(("places":Str) == "start_state")=false:=by decide +kernel
def FV:(("places":Str) == "taken_by")=false:=by decide +kernel
def FJ:(("places":Str) == "given_by")=false:=by decide +kernel
def Ap{f C CW:Addr}{fd:FuncData}(F:dv K "__init__" "Web.__init__" ux f fd)(T:Txt K mg)(dct:mg "dict"=none)(NC:gU K C)(CT:gG K CW)
  (DC:gJ P w K mg base "crowding" iJ ["net"] 7 (mO C))
  (DP:jI P w K mg base C "places" "Net.places" wA ["self"] 1 (Ar C))
  (DS:jI P w K mg base C "start" "Net.start" m9 ["self"] 1 (pR C))
  (DA:jI P w K mg base CW "add_spots" "Web.add_spots" xQ ["self", "places", "giver", "beside"] 2 (wu CW .tup)) :
  bo P w K mg base cS 8 f fd ["self", "net"] (vh C CW):=by
 refine F.oK pO fun cdv A outer s H vs Q E hr h=>?_
 ·obtain⟨x,dx,p,ms,st,rfl,hx,N,told,kk⟩:=h
  have hsl:=Ji
  have hr1:cw 1 _:=hr.mono (by decide)
  have hr2:cw 2 _:=hr.mono (by decide)
  refine⟨_,af (cB 2 pO (eA DC hr (aa (pv 1) ae)))
   (af (bH (ke (qu (pv 2))) (ai cV) aU)
   (af (eh (pv 0) (pv 1) rfl)
   (af (eh (pv 0) (dR ae) rfl)
   (af (eh (pv 0) (dR ae) rfl)
   (af (eh (pv 0) gx rfl)
   (af (eh (pv 0) (dR ae) rfl)
   (af (eh (pv 0) (dR ae) rfl)
   (af (eh (pv 0) (dR ae) rfl)
   (af (eh (pv 0) (dR ae) rfl)
   (af (eh (pv 0) (a8 (sZ rfl) rfl dct BQ (aa (bN (N:=["place"]) (n:=1) (ci:=[]) rfl (aK (cq (pv 1) NC.cl DP.d.mt DP.g hr1 DP.d.bd .nil bz)) (j6 pO) (fun z=>⟨jg 0,bV,fD (aa (pv 0) (aa ak ae))⟩)) ae)) rfl)
   (ai (a9 (bZ (pv 0) CT.cl DA.d.mt DA.g hr2 DA.d.bd .nil bz (aa (cq (pv 1) NC.cl DS.d.mt DS.g hr1 DS.d.bd .nil bz) (aa ir (aa ak ae)))))))))))))))),?_⟩
  refine⟨_,rfl,p,ms,st,rfl,N,fun H1 s1 hto=>?_,fun H1 l row s1 hto hlen nl hl=>?_⟩
  ·refine⟨_,rfl,_,rfl,?_⟩
   refine bB ?_
   refine⟨_,rfl,_,rfl,x,CW,dx,_,rfl,s1 _ _ hx,CT.cl,CT.nN,(by show 0<1000;decide),?_⟩
   have w0:WI H x dx CW (bf "base_net" (V.ref p) []) [] (upd H1 x (.ins CW dx (bf "base_net" (V.ref p) []))):=⟨ag,fun c o e n=>by rw [ah n];exact s1 _ _ e,fun q hq=>by simp at hq,fun q hq=>by simp at hq,fun q hq=>by simp at hq,.nil,by show 1≤0+1;decide⟩
   generalize upd H1 x (.ins CW dx (bf "base_net" (V.ref p) []))=G0 at w0 ⊢
   generalize hf0:bf "base_net" (V.ref p) []=f0 at w0 ⊢
   refine⟨IU _,fun aS naS=>⟨_,rfl,x,CW,dx,_,rfl,(by rw [ah (aj w0.ins naS)];exact w0.ins),CT.cl,CT.nS,Jt w0.len (by show 0+1<1000;decide),?_⟩⟩
   have w1:=w0.put (o:=.lst []) "spot_tuples" naS
   generalize upd (upd G0 aS (.lst [])) x (.ins CW dx (bf "spot_tuples" (V.ref aS) f0))=G1 at w1 ⊢
   generalize hf1:bf "spot_tuples" (V.ref aS) f0=f1 at w1 ⊢
   refine⟨IU _,fun aO naO=>⟨_,rfl,x,CW,dx,_,rfl,(by rw [ah (aj w1.ins naO)];exact w1.ins),CT.cl,CT.nO,Jt w1.len (by show 1+1<1000;decide),?_⟩⟩
   have w2:=w1.put (o:=.lst []) "occurrence_tuples" naO
   generalize upd (upd G1 aO (.lst [])) x (.ins CW dx (bf "occurrence_tuples" (V.ref aO) f1))=G2 at w2 ⊢
   generalize hf2:bf "occurrence_tuples" (V.ref aO) f1=f2 at w2 ⊢
   refine fun aN naN=>⟨_,rfl,x,CW,dx,_,rfl,(by rw [ah (aj w2.ins naN)];exact w2.ins),CT.cl,CT.nH,Jt w2.len (by show 2+1<1000;decide),?_⟩
   have w3:=w2.put (o:=.dK []) "numbers_there" naN
   generalize upd (upd G2 aN (.dK [])) x (.ins CW dx (bf "numbers_there" (V.ref aN) f2))=G3 at w3 ⊢
   generalize hf3:bf "numbers_there" (V.ref aN) f2=f3 at w3 ⊢
   refine⟨IU _,fun aW naW=>⟨_,rfl,x,CW,dx,_,rfl,(by rw [ah (aj w3.ins naW)];exact w3.ins),CT.cl,CT.nW,Jt w3.len (by show 3+1<1000;decide),?_⟩⟩
   have w4:=w3.put (o:=.lst []) "own_bits" naW
   generalize upd (upd G3 aW (.lst [])) x (.ins CW dx (bf "own_bits" (V.ref aW) f3))=G4 at w4 ⊢
   generalize hf4:bf "own_bits" (V.ref aW) f3=f4 at w4 ⊢
   refine⟨IU _,fun aG naG=>⟨_,rfl,x,CW,dx,_,rfl,(by rw [ah (aj w4.ins naG)];exact w4.ins),CT.cl,CT.nG,Jt w4.len (by show 4+1<1000;decide),?_⟩⟩
   have w5:=w4.put (o:=.lst []) "given_bits" naG
   generalize upd (upd G4 aG (.lst [])) x (.ins CW dx (bf "given_bits" (V.ref aG) f4))=G5 at w5 ⊢
   generalize hf5:bf "given_bits" (V.ref aG) f4=f5 at w5 ⊢
   refine⟨IU _,fun aB naB=>⟨_,rfl,x,CW,dx,_,rfl,(by rw [ah (aj w5.ins naB)];exact w5.ins),CT.cl,CT.nB,Jt w5.len (by show 5+1<1000;decide),?_⟩⟩
   have w6:=w5.put (o:=.lst []) "beside_bits" naB
   generalize upd (upd G5 aB (.lst [])) x (.ins CW dx (bf "beside_bits" (V.ref aB) f5))=G6 at w6 ⊢
   generalize hf6:bf "beside_bits" (V.ref aB) f5=f6 at w6 ⊢
   refine⟨IU _,fun aT naT=>⟨_,rfl,x,CW,dx,_,rfl,(by rw [ah (aj w6.ins naT)];exact w6.ins),CT.cl,CT.nT,Jt w6.len (by show 6+1<1000;decide),?_⟩⟩
   have w7:=w6.put (o:=.lst []) "taker_bits" naT
   generalize upd (upd G6 aT (.lst [])) x (.ins CW dx (bf "taker_bits" (V.ref aT) f6))=G7 at w7 ⊢
   generalize hf7:bf "taker_bits" (V.ref aT) f6=f7 at w7 ⊢
   have N7:cc C G7 p ms st:=N.Gq hx w7.old
   obtain⟨dn,bP,bS,bT,bG,kT,kG,h1,_⟩:=N7.at'.ob
   refine⟨_,rfl,p,dn,_,rfl,h1,cW _ _ _ _ FG Gm FV FJ,p,ms,st,rfl,N7,fun G8 q s8 nq hq=>?_⟩
   have w8:=w7.same s8
   have so:=N.so
   have lp:=so.pl
   refine⟨q,rfl,⟨_,aA.of hq⟩,fun z D hD=>cy (a:=q) (xs:=aF (cF ms st)) (fun j ys H10=>∃ qs:List Addr,ys=qs.map V.ref∧H10 D=some (.lst ys)∧aq G8 H10∧mN H10 (((cF ms st).take j).map fun x=>(x,V.int 0)) qs∧qs.length=j) ⟨[],rfl,ag,ao hD,.nil,rfl⟩ (fun j ys H10 _ ⟨_,_,_,s10,_⟩=>aA.of (s10 _ _ hq)) ?_ ?_⟩
   ·rintro j v ys H10 hj ⟨qs,rfl,hys,s10,pq,lq⟩
    obtain⟨y,hy,rfl⟩:=cZ hj
    have hjl:=(IM.mp hy).1
    refine⟨_,rfl,by show 2≤sizeLine;lia,fun t nt=>?_⟩
    obtain⟨H11,eU,s11,ht⟩:=nE nt (.tup [.str y,.int 0])
    rw [eU]
    have hys':=s11 _ _ hys
    refine⟨hys',by rw [List.length_map];lia,qs++[t],by rw [List.map_append];rfl,ag,aY (s10.trans s11) hD,?_,by rw [List.length_append,lq];rfl⟩
    rw [av hy,List.map_append]
    refine JZ (Paired.cu pq fun a b e=>?_) ?_
    ·rw [ah (aJ (s11 _ _ e) hys' (fun z=>nomatch z))]
     exact s11 _ _ e
    ·show(upd H11 D _) t=some (.tup [.str y,.int 0])
     rw [ah (aJ ht hys' (fun z=>nomatch z))]
     exact ht
   ·rintro ys H10 ⟨qs,rfl,hys,s10,pq,lq⟩
    rw [aw,Jc] at pq
    have w9:=w8.same s10
    refine⟨D,qs,_,rfl,hys,pq,by rw [List.length_map];lia,?_,fun aP naP=>?_⟩
    ·rw [List.map_map]
     show((cF ms st).map id).Nodup
     rw [Nn]
     exact qf ms st
    have ek:keyed ((cF ms st).map fun x=>(x,V.int 0))=iH (W0 ms st).pl:=by
     unfold keyed iH W0
     rw [List.map_map,List.map_map]
     rfl
    rw [ek]
    refine⟨_,rfl,x,CW,dx,_,rfl,(by rw [ah (aj w9.ins naP)];exact w9.ins),CT.cl,CT.nP,Jt w9.len (by show 7+1<1000;decide),?_⟩
    have w10:=w9.put (o:=.dK (iH (W0 ms st).pl)) "place_bits" naP
    have ef:bf "place_bits" (V.ref aP) f7=vt p aS aO aN aW aG aB aT aP:=by rw [← hf7,← hf6,← hf5,← hf4,← hf3,← hf2,← hf1,← hf0];rfl
    rw [ef] at w10
    rw [ef]
    generalize upd (upd H10 aP (.dK (iH (W0 ms st).pl))) x (.ins CW dx (vt p aS aO aN aW aG aB aT aP))=G9 at w10 ⊢
    have N9:cc C G9 p ms st:=N.Gq hx w10.old
    obtain⟨dn,bP,bS,bT,bG,kT,kG,h1,_⟩:=N9.at'.ob
    have nd:=w10.nd
    have nd:[aP,aT,aB,aG,aW,aN,aO,aS].Nodup:=nd
    have nd2:=nd
    simp only [JQ,IP,Jq,Ke,Mm] at nd2
    obtain⟨⟨a1,a2,a3,a4,a5,a6,a7⟩,⟨t1,t2,t3,t4,t5,t6⟩,⟨c1,c2,c3,c4,c5⟩,⟨g1,g2,g3,g4⟩,⟨k1,k2,k3⟩,⟨l1,l2⟩,m1,_⟩:=nd2
    have eP:G9 aP=some (.dK (iH (W0 ms st).pl)):=w10.here (aP,_) (by simp)
    have eT:G9 aT=some (.lst []):=w10.here (aT,_) (by simp)
    have eB:G9 aB=some (.lst []):=w10.here (aB,_) (by simp)
    have eG:G9 aG=some (.lst []):=w10.here (aG,_) (by simp)
    have eW:G9 aW=some (.lst []):=w10.here (aW,_) (by simp)
    have eN:G9 aN=some (.dK []):=w10.here (aN,_) (by simp)
    have eO:G9 aO=some (.lst []):=w10.here (aO,_) (by simp)
    have eS:G9 aS=some (.lst []):=w10.here (aS,_) (by simp)
    refine⟨_,rfl,x,dx,_,rfl,w10.ins,Dt _ _ _ _ _ _ _ _ _,_,rfl,p,dn,_,rfl,h1,cW _ _ _ _ zO yt yK zU,p,ms,st,rfl,N9,fun sa hsa=>?_⟩
    refine⟨x,dx,sa,aS,aT,aB,aP,_,W0 ms st,none,0,aH st,rfl,kd _ _ _ _ _ _ _ _ _,Jg t6,Jg c5,t1,⟨w10.ins,⟨[],eS,.nil⟩,eT,eB,eP⟩,hsa,?_,?_,fun H' hA' but'=>?_⟩
    ·simp only [IP,Jq,Ke,Mm]
     exact⟨aJ hsa eS (fun z=>nomatch z),aJ hsa eT (fun z=>nomatch z),aJ hsa eB (fun z=>nomatch z),aJ hsa eP (fun z=>nomatch z)⟩
    ·refine⟨rfl,rfl,by show 0<2 ^ 0;decide,?_,fun y hy=>?_,?_,?_⟩
     ·show 0+(aH st).length≤250
      rw [bW]
      have:=so.Hn
      lia
     ·show y∈((cF ms st).map fun x=>(x,0)).map (·.1)
      rw [List.map_map]
      exact IV.mpr ⟨y,zl (bE.mp hy),rfl⟩
     ·show(((cF ms st).map fun x=>(x,0)).map (·.1)).Nodup
      rw [List.map_map]
      show((cF ms st).map id).Nodup
      rw [Nn]
      exact qf ms st
     ·show((cF ms st).map fun x=>(x,0)).length≤12
      rw [List.length_map]
      exact lp
    ·have keep:∀ c o,G9 c=some o→c≠aS→c≠aT→c≠aB→c≠aP→H' c=some o:=fun c o e q1 q2 q3 q4=>but' c o e (by simp only [IP,Jq,Ke,Mm];exact⟨q1,q2,q3,q4⟩)
     refine kk H' ⟨dx,aS,aO,aN,aW,aG,aB,aT,aP,hA',keep _ _ eO m1 (Jg t5) (Jg c4) (Jg a6),keep _ _ eN l2 (Jg t4) (Jg c3) (Jg a5),keep _ _ eW k3 (Jg t3) (Jg c2) (Jg a4),keep _ _ eG g4 (Jg t2) (Jg c1) (Jg a3),nd,WI.kL w10⟩ fun c o e n=>?_
     have fr:∀ a o,(a,o)∈_→c≠a:=fun a o ha z=>by
      have:=w10.fr (a,o) ha
      rw [z] at e
      rw [this] at e
      cases e
     refine keep c o (w10.old c o e n) (fr aS (.lst []) (by simp)) (fr aT (.lst []) (by simp)) (fr aB (.lst []) (by simp)) (fr aP (.dK (iH (W0 ms st).pl)) (by simp))
  ·exact absurd hto (Ak told)
end Uf
end
section
namespace UfTs
open PySem PyProof.Rows
def vT:Bool→Keyed→Array Keyed→Nat→Nat→Nat→StateT SortSt Sem (Option Nat):=sortPriv% PySem.Builtin.gallop
def sO:Array Keyed→Array Keyed→StateT SortSt Sem (Array Keyed):=sortPriv% PySem.Builtin.mergeLo
def rq:Array Keyed→Array Keyed→StateT SortSt Sem (Array Keyed):=sortPriv% PySem.Builtin.mergeHi
def lQ(prog:Program)(w:World)(A:Around)(s:Shared)(κ:SortKind)(S:Keyed→Prop):Prop:=∀ x y,S x→S y→∀ (Q:Bool→Shared→Prop) (E:Value→Shared→Prop),(∀ b,Q b s)→wpAny (model prog w) A (keyLt' κ x.1 y.1) Q E s
variable {κ:SortKind}{S:Keyed→Prop}
structure Quiet(κ:SortKind)(st:SortSt):Prop where
 kind:kindOf st=κ
 failed:failedOf st=none
def sN(hL:lQ prog w A s κ S){x y:Keyed}{st:SortSt}{Q:Option Bool→SortSt→Prop}(q:Quiet κ st)(hx:S x)(hy:S y)(h:∀ b,Q (some b) st):wpS (model prog w) A E s (lt' x y) Q st:=by
 rw [lt'_eq]
 refine IH (Lf ?_)
 rw [q.kind]
 refine IH (Mg (NF (hL x y hx hy _ _ fun b=>⟨rfl,?_⟩)))
 exact wpS_pure (h b)
def aZ{arr:Array Keyed}{i:Nat}{st:SortSt}{Q:Keyed→SortSt→Prop}(hi:i<arr.size)(h:Q arr[i] st):wpS (model prog w) A E s (elem' arr i) Q st:=by
 rw [elem'_eq,NT arr i hi]
 exact wpS_pure h
def Bs(hL:lQ prog w A s κ S){i j:Nat}{st:SortSt}{Q:Option Bool→SortSt→Prop}(q:Quiet κ st)(hS:∀ x∈arrOf st,S x)(hi:i<(arrOf st).size)(hj:j<(arrOf st).size)(h:∀ b,Q (some b) st):wpS (model prog w) A E s (ltAt' i j) Q st:=by
 rw [ltAt'_eq]
 refine IH (Lf ?_)
 exact IH (aZ hi (IH (aZ hj (sN hL q (hS _ (Lu hi)) (hS _ (Lu hj)) h))))
def dC(hL:lQ prog w A s κ S){left:Bool}{key:Keyed}{arr:Array Keyed}{base n hint:Nat}{st:SortSt}{Q:Option Nat→SortSt→Prop}(q:Quiet κ st)(hk:S key)(hS:∀ x∈arr,S x)(hb:base+n≤arr.size)(hh:hint<n)(h:∀ k,k≤n→Q (some k) st):wpS (model prog w) A E s (vT left key arr base n hint) Q st:=by
 have bey:∀ (i:Nat) {β:Type} (f:Option Bool→StateT SortSt Sem β) (R:β→SortSt→Prop),i<n→(∀ b,wpS (model prog w) A E s (f (some b)) R st) →
   wpS (model prog w) A E s (((do
    let x ← elem' arr (base+i)
    if left=true then lt' x key else do
     let r ← lt' key x
     pure (Option.map (fun x=>!x) r)):StateT SortSt Sem (Option Bool)) >>= f) R st:=fun i β f R hi hf=>by
  refine IH (IH (aZ (by lia) ?_))
  have hx:S arr[base+i]:=hS _ (Lu _)
  cases left with
  | true =>
   simp only [L0]
   exact sN hL q hx hk hf
  | false =>
   simp only [Jy,Km]
   exact IH (sN hL q hk hx fun b=>wpS_pure (hf _))
 delta vT
 refine bey hint _ _ hh fun b=>?_
 dsimp only
 cases b with
 | true =>
  simp only [L0]
  refine IH (JU (Jw (I:=fun _ c st'=>st'=st∧∃ a o,c=(none,a,o)) (Q:=fun c st'=>st'=st∧∃ a o,c=(none,a,o)) ?_ (fun c st' z=>z) ⟨rfl,_,_,rfl⟩) ?_)
  ·rintro x c st' _ _ ⟨rfl,l,r,rfl⟩
   dsimp only
   by_cases hge:r≥n-hint
   ·rw [if_pos hge]
    exact wpS_pure ⟨rfl,_,_,rfl⟩
   ·rw [if_neg hge]
    refine bey _ _ _ (by lia) fun b=>?_
    dsimp only
    cases b with
    | true=>exact wpS_pure ⟨rfl,_,_,rfl⟩
    | false=>exact wpS_pure ⟨rfl,_,_,rfl⟩
  ·rintro c st' ⟨rfl,a,o,rfl⟩
   dsimp only
   refine IH (JU (Jw (I:=fun _ c st''=>st''=st'∧∃ lo hi,c=(none,lo,hi)∧hi≤n) (Q:=fun c st''=>st''=st'∧∃ lo hi,c=(none,lo,hi)∧hi≤n) ?_ (fun c st'' z=>z) ⟨rfl,_,_,rfl,by lia⟩) ?_)
   ·rintro x c st'' _ _ ⟨rfl,l,r,rfl,hr⟩
    dsimp only
    by_cases hge:l≥r
    ·rw [if_pos hge]
     exact wpS_pure ⟨rfl,l,r,rfl,hr⟩
    ·rw [if_neg hge]
     refine bey _ _ _ (by lia) fun b=>?_
     dsimp only
     cases b with
     | true=>exact wpS_pure ⟨rfl,_,_,rfl,hr⟩
     | false=>exact wpS_pure ⟨rfl,_,_,rfl,by lia⟩
   ·rintro c st'' ⟨rfl,l,r,rfl,hr⟩
    exact wpS_pure (h _ hr)
 | false =>
  simp only [Jy,Km]
  refine IH (JU (Jw (I:=fun _ c st'=>st'=st∧∃ a o,c=(none,a,o)) (Q:=fun c st'=>st'=st∧∃ a o,c=(none,a,o)) ?_ (fun c st' z=>z) ⟨rfl,_,_,rfl⟩) ?_)
  ·rintro x c st' _ _ ⟨rfl,l,r,rfl⟩
   dsimp only
   by_cases hge:r≥hint+1
   ·rw [if_pos hge]
    exact wpS_pure ⟨rfl,_,_,rfl⟩
   ·rw [if_neg hge]
    refine bey _ _ _ (by lia) fun b=>?_
    dsimp only
    cases b with
    | true=>exact wpS_pure ⟨rfl,_,_,rfl⟩
    | false=>exact wpS_pure ⟨rfl,_,_,rfl⟩
  ·rintro c st' ⟨rfl,a,o,rfl⟩
   dsimp only
   refine IH (JU (Jw (I:=fun _ c st''=>st''=st'∧∃ lo hi,c=(none,lo,hi)∧hi≤n) (Q:=fun c st''=>st''=st'∧∃ lo hi,c=(none,lo,hi)∧hi≤n) ?_ (fun c st'' z=>z) ⟨rfl,_,_,rfl,by lia⟩) ?_)
   ·rintro x c st'' _ _ ⟨rfl,l,r,rfl,hr⟩
    dsimp only
    by_cases hge:l≥r
    ·rw [if_pos hge]
     exact wpS_pure ⟨rfl,l,r,rfl,hr⟩
    ·rw [if_neg hge]
     refine bey _ _ _ (by lia) fun b=>?_
     dsimp only
     cases b with
     | true=>exact wpS_pure ⟨rfl,_,_,rfl,hr⟩
     | false=>exact wpS_pure ⟨rfl,_,_,rfl,by lia⟩
   ·rintro c st'' ⟨rfl,l,r,rfl,hr⟩
    exact wpS_pure (h _ hr)
end UfTs
end
section
namespace UfTs
open PySem PyProof.Rows
def Al(S:Keyed→Prop)(xs:Array Keyed):Prop:=∀ x∈xs,S x
section
variable {S:Keyed→Prop}{xs ys:Array Keyed}
theorem Al.push{x:Keyed}(h:Al S xs)(hx:S x):Al S (xs.push x):=fun y hy=>by
 rcases Array.mem_push.mp hy with z | z
 ·exact h y z
 ·rw [z];exact hx
def Al.app(h:Al S xs)(k:Al S ys):Al S (xs++ys):=fun y hy=>(Array.mem_append.mp hy).elim (h y) (k y)
def Al.ext{i j:Nat}(h:Al S xs):Al S (xs.extract i j):=fun y hy=>h y (by
 obtain⟨k,hk,e⟩:=Array.mem_iff_getElem.mp hy
 rw [Array.getElem_extract] at e
 rw [← e]
 exact Lu _)
def Al.rev(h:Al S xs):Al S xs.reverse:=fun y hy=>h y (Array.mem_reverse.mp hy)
def Al.one{x:Keyed}(hx:S x):Al S #[x]:=fun y hy=>by
 have:y=x:=by simpa using hy
 rw [this];exact hx
def Al.at{i:Nat}(h:Al S xs)(hi:i<xs.size):S xs[i]:=h _ (Lu hi)
end
abbrev gs(st:SortSt)(g:Nat):SortSt:=SortSt.mk' (kindOf st) (arrOf st) (pendingOf st) g (failedOf st)
section
variable {prog:Program}{w:World}{A:Around}{E:Value→Shared→Prop}{s:Shared}{κ:SortKind}{S:Keyed→Prop}
def lA{g:Nat}{st:SortSt}{Q:Unit→SortSt→Prop}(h:Q () (gs st g)):wpS (model prog w) A E s ((sortPriv% PySem.Builtin.setMinGallop) g) Q st:=KO h
inductive Lo(S:Keyed→Prop)(a b:Array Keyed)(k:Nat)(out:Array Keyed)(ia ib:Nat):Prop
 | mk (al:Al S out) (la:ia+2≤a.size) (lb:ib+1≤b.size) (gt:k≤ia+ib)
def az{α:Type}{c:Prop}[Decidable c]{m n:StateT SortSt Sem α}{Q:α→SortSt→Prop}{st:SortSt}(h1:c→wpS (model prog w) A E s m Q st)(h2:¬ c→wpS (model prog w) A E s n Q st):wpS (model prog w) A E s (if c then m else n) Q st:=by
 by_cases z:c
 ·rw [if_pos z];exact h1 z
 ·rw [if_neg z];exact h2 z
def uV(hL:lQ prog w A s κ S){a b:Array Keyed}{st:SortSt}{Q:Array Keyed→SortSt→Prop}(q:Quiet κ st)(ha:Al S a)(hb:Al S b)(na:1≤a.size)(nb:1≤b.size)(h:∀ r g,Al S r→Q r (gs st g)):wpS (model prog w) A E s (sO a b) Q st:=by
 delta sO
 refine IH (Mg (Kl ⟨rfl,?_⟩))
 refine IH (aZ (by lia) ?_)
 have h0:=hb.at (i:=0) (by lia)
 have qg:∀ g,Quiet κ (gs st g):=fun g=>⟨q.kind,q.failed⟩
 refine az (fun _=>wpS_pure (h _ (gallopOf st) (((Al.one h0).app ha.ext).app hb.ext))) fun n1=>?_
 refine az (fun _=>wpS_pure (h _ (gallopOf st) (((Al.one h0).app hb.ext).app ha.ext))) fun n2=>?_
 have n1:1≠b.size:=by simpa using n1
 have n2:0+1≠a.size:=by simpa using n2
 refine IH (Lf ?_)
 refine IH (JU (Jw (I:=fun x c st'=>∃ out ia ib mg g,c=(none,out,ia,ib,mg)∧st'=gs st g∧Lo S a b (x+1) out ia ib) (Q:=fun c st'=>∃ r rest g,c=(some r,rest)∧Al S r∧st'=gs st g) ?step ?fin ⟨_,_,_,_,gallopOf st,rfl,rfl,Al.one h0,by lia,by lia,by lia⟩) ?post)
 case fin =>
  rintro c st' ⟨out,ia,ib,mg,g,rfl,rfl,al,la,lb,gt⟩
  lia
 case post =>
  rintro c st' ⟨r,rest,g,rfl,al,rfl⟩
  exact wpS_pure (h _ _ al)
 case step =>
  rintro x c st' _ hx ⟨out,ia,ib,mg,g,rfl,rfl,lo⟩
  refine IH (JU (Jw (I:=fun y c st''=>st''=gs st g∧∃ out ia ib ac bc,c=(none,out,ia,ib,ac,bc)∧Lo S a b (x+1+min y 1) out ia ib) (Q:=fun c st''=>st''=gs st g∧((∃ r rest,c=(some r,rest)∧Al S r)∨∃ out ia ib ac bc,c=(none,out,ia,ib,ac,bc)∧Lo S a b (x+2) out ia ib)) ?step1 ?fin1 ⟨rfl,_,_,_,_,_,rfl,lo⟩) ?post1)
  case fin1 =>
   rintro c st'' ⟨rfl,out,ia,ib,ac,bc,rfl,al,la,lb,gt⟩
   exact⟨rfl,.inr ⟨_,_,_,_,_,rfl,al,la,lb,by lia⟩⟩
  case step1 =>
   rintro y c st'' _ hy ⟨rfl,out,ia,ib,ac,bc,rfl,al,la,lb,gt⟩
   refine IH (aZ (i:=ib) (by lia) (IH (aZ (i:=ia) (by lia) (IH (sN hL (qg g) (hb.at (by lia)) (ha.at (by lia)) fun bw=>?_)))))
   refine az (fun _=>?_) fun _=>?_
   ·refine IH (aZ (i:=ib) (by lia) ?_)
    have al2:=al.push (hb.at (i:=ib) (by lia))
    refine az (fun _=>wpS_pure ⟨rfl,.inl ⟨_,_,rfl,(al2.app ha.ext).app hb.ext⟩⟩) fun n3=>?_
    have n3:ib+1≠b.size:=by simpa using n3
    exact az (fun _=>wpS_pure ⟨rfl,.inr ⟨_,_,_,_,_,rfl,al2,la,by first | lia | (dsimp only;lia),by first | lia | (dsimp only;lia)⟩⟩) fun _=>wpS_pure ⟨rfl,_,_,_,_,_,rfl,al2,la,by first | lia | (dsimp only;lia),by first | lia | (dsimp only;lia)⟩
   ·refine IH (aZ (i:=ia) (by lia) ?_)
    have al2:=al.push (ha.at (i:=ia) (by lia))
    refine az (fun _=>wpS_pure ⟨rfl,.inl ⟨_,_,rfl,(al2.app hb.ext).app ha.ext⟩⟩) fun n3=>?_
    have n3:ia+1+1≠a.size:=by simpa using n3
    exact az (fun _=>wpS_pure ⟨rfl,.inr ⟨_,_,_,_,_,rfl,al2,by first | lia | (dsimp only;lia),lb,by first | lia | (dsimp only;lia)⟩⟩) fun _=>wpS_pure ⟨rfl,_,_,_,_,_,rfl,al2,by first | lia | (dsimp only;lia),lb,by first | lia | (dsimp only;lia)⟩
  case post1 =>
   rintro c st'' ⟨rfl,⟨r,rest,rfl,al⟩ | ⟨out,ia,ib,ac,bc,rfl,lo⟩⟩
   ·exact wpS_pure ⟨_,_,_,rfl,al,rfl⟩
   ·refine IH (Mg (Kl ⟨rfl,?_⟩))
    refine IH (JU (Jw (I:=fun y c st''=>∃ g out ia ib mg ac bc,st''=gs st g∧c=(none,out,ia,ib,mg,ac,bc)∧Lo S a b (x+2) out ia ib) (Q:=fun c st''=>∃ g,st''=gs st g∧((∃ r rest,c=(some r,rest)∧Al S r)∨∃ out ia ib mg ac bc,c=(none,out,ia,ib,mg,ac,bc)∧Lo S a b (x+2) out ia ib)) ?step2 ?fin2 ⟨g,_,_,_,_,_,_,rfl,rfl,lo⟩) ?post2)
    case fin2 =>
     rintro c st'' ⟨g,out,ia,ib,mg,ac,bc,rfl,rfl,lo⟩
     exact⟨g,rfl,.inr ⟨_,_,_,_,_,_,rfl,lo⟩⟩
    case post2 =>
     rintro c st'' ⟨g,rfl,⟨r,rest,rfl,al⟩ | ⟨out,ia,ib,mg,ac,bc,rfl,al,la,lb,gt⟩⟩
     ·exact wpS_pure ⟨_,_,_,rfl,al,rfl⟩
     ·refine IH (lA ?_)
      exact wpS_pure ⟨_,_,_,_,_,rfl,rfl,al,la,lb,by lia⟩
    case step2 =>
     rintro y c st'' _ hy ⟨g,out,ia,ib,mg,ac,bc,rfl,rfl,al,la,lb,gt⟩
     refine az (fun _=>?_) fun _=>?_
     all_goals
      refine IH (lA ?_)
      refine IH (aZ (i:=ib) (by lia) ?_)
      refine IH (dC hL (qg _) (hb.at (by lia)) ha (by show ia+(a.size-ia)≤_;lia) (by show 0<a.size-ia;lia) fun k hk=>?_)
      have hk:k≤a.size-ia:=hk
      refine az (fun _=>?_) fun _=>?_
      ·refine az (fun _=>wpS_pure ⟨_,rfl,.inl ⟨_,_,rfl,((al.app ha.ext).app hb.ext).app ha.ext⟩⟩) fun n4=>?_
       refine az (fun _=>wpS_pure ⟨_,rfl,.inl ⟨_,_,rfl,((al.app ha.ext).app ha.ext).app hb.ext⟩⟩) fun n5=>?_
       have n4:ia+k+1≠a.size:=by simpa using n4
       have n5:ia+k≠a.size:=by simpa using n5
       have alk:=al.app (ha.ext (i:=ia) (j:=ia+k))
       refine IH (aZ (i:=ib) (by lia) ?_)
       have al3:=alk.push (hb.at (i:=ib) (by lia))
       refine az (fun _=>wpS_pure ⟨_,rfl,.inl ⟨_,_,rfl,(al3.app ha.ext).app hb.ext⟩⟩) fun n6=>?_
       have n6:ib+1≠b.size:=by simpa using n6
       refine IH (aZ (i:=ia+k) (by lia) ?_)
       refine IH (dC hL (qg _) (ha.at (by lia)) hb (by show ib+1+(b.size-(ib+1))≤_;lia) (by show 0<b.size-(ib+1);lia) fun k1 hk1=>?_)
       have hk1:k1≤b.size-(ib+1):=hk1
       refine az (fun _=>?_) fun _=>?_
       ·refine az (fun _=>wpS_pure ⟨_,rfl,.inl ⟨_,_,rfl,((al3.app hb.ext).app ha.ext).app hb.ext⟩⟩) fun n7=>?_
        have n7:ib+1+k1≠b.size:=by simpa using n7
        refine IH (aZ (i:=ia+k) (by lia) ?_)
        have al4:=(al3.app (hb.ext (i:=ib+1) (j:=ib+1+k1))).push (ha.at (i:=ia+k) (by lia))
        refine az (fun _=>wpS_pure ⟨_,rfl,.inl ⟨_,_,rfl,(al4.app hb.ext).app ha.ext⟩⟩) fun n8=>?_
        have n8:ia+k+1+1≠a.size:=by simpa using n8
        exact az (fun _=>wpS_pure ⟨_,rfl,.inr ⟨_,_,_,_,_,_,rfl,al4,by first | lia | (dsimp only;lia),by first | lia | (dsimp only;lia),by first | lia | (dsimp only;lia)⟩⟩) fun _=>wpS_pure ⟨_,_,_,_,_,_,_,rfl,rfl,al4,by first | lia | (dsimp only;lia),by first | lia | (dsimp only;lia),by first | lia | (dsimp only;lia)⟩
       ·refine IH (aZ (i:=ia+k) (by lia) ?_)
        have al4:=al3.push (ha.at (i:=ia+k) (by lia))
        refine az (fun _=>wpS_pure ⟨_,rfl,.inl ⟨_,_,rfl,(al4.app hb.ext).app ha.ext⟩⟩) fun n8=>?_
        have n8:ia+k+1+1≠a.size:=by simpa using n8
        exact az (fun _=>wpS_pure ⟨_,rfl,.inr ⟨_,_,_,_,_,_,rfl,al4,by first | lia | (dsimp only;lia),by first | lia | (dsimp only;lia),by first | lia | (dsimp only;lia)⟩⟩) fun _=>wpS_pure ⟨_,_,_,_,_,_,_,rfl,rfl,al4,by first | lia | (dsimp only;lia),by first | lia | (dsimp only;lia),by first | lia | (dsimp only;lia)⟩
      ·refine IH (aZ (i:=ib) (by lia) ?_)
       have al3:=al.push (hb.at (i:=ib) (by lia))
       refine az (fun _=>wpS_pure ⟨_,rfl,.inl ⟨_,_,rfl,(al3.app ha.ext).app hb.ext⟩⟩) fun n6=>?_
       have n6:ib+1≠b.size:=by simpa using n6
       refine IH (aZ (i:=ia) (by lia) ?_)
       refine IH (dC hL (qg _) (ha.at (by lia)) hb (by show ib+1+(b.size-(ib+1))≤_;lia) (by show 0<b.size-(ib+1);lia) fun k1 hk1=>?_)
       have hk1:k1≤b.size-(ib+1):=hk1
       refine az (fun _=>?_) fun _=>?_
       ·refine az (fun _=>wpS_pure ⟨_,rfl,.inl ⟨_,_,rfl,((al3.app hb.ext).app ha.ext).app hb.ext⟩⟩) fun n7=>?_
        have n7:ib+1+k1≠b.size:=by simpa using n7
        refine IH (aZ (i:=ia) (by lia) ?_)
        have al4:=(al3.app (hb.ext (i:=ib+1) (j:=ib+1+k1))).push (ha.at (i:=ia) (by lia))
        refine az (fun _=>wpS_pure ⟨_,rfl,.inl ⟨_,_,rfl,(al4.app hb.ext).app ha.ext⟩⟩) fun n8=>?_
        have n8:ia+1+1≠a.size:=by simpa using n8
        exact az (fun _=>wpS_pure ⟨_,rfl,.inr ⟨_,_,_,_,_,_,rfl,al4,by first | lia | (dsimp only;lia),by first | lia | (dsimp only;lia),by first | lia | (dsimp only;lia)⟩⟩) fun _=>wpS_pure ⟨_,_,_,_,_,_,_,rfl,rfl,al4,by first | lia | (dsimp only;lia),by first | lia | (dsimp only;lia),by first | lia | (dsimp only;lia)⟩
       ·refine IH (aZ (i:=ia) (by lia) ?_)
        have al4:=al3.push (ha.at (i:=ia) (by lia))
        refine az (fun _=>wpS_pure ⟨_,rfl,.inl ⟨_,_,rfl,(al4.app hb.ext).app ha.ext⟩⟩) fun n8=>?_
        have n8:ia+1+1≠a.size:=by simpa using n8
        exact az (fun _=>wpS_pure ⟨_,rfl,.inr ⟨_,_,_,_,_,_,rfl,al4,by first | lia | (dsimp only;lia),by first | lia | (dsimp only;lia),by first | lia | (dsimp only;lia)⟩⟩) fun _=>wpS_pure ⟨_,_,_,_,_,_,_,rfl,rfl,al4,by first | lia | (dsimp only;lia),by first | lia | (dsimp only;lia),by first | lia | (dsimp only;lia)⟩
end
end UfTs
end
section
namespace UfTs
open PySem PyProof.Rows
section
variable {prog:Program}{w:World}{A:Around}{E:Value→Shared→Prop}{s:Shared}{κ:SortKind}{S:Keyed→Prop}
inductive Hi(S:Keyed→Prop)(a b:Array Keyed)(k:Nat)(na nb:Nat)(out:Array Keyed):Prop
 | mk (al:Al S out) (l1:1≤na) (la:na+1≤a.size) (l2:2≤nb) (lb:nb≤b.size) (gt:na+nb+k≤a.size+b.size)
def uZ(hL:lQ prog w A s κ S){a b:Array Keyed}{st:SortSt}{Q:Array Keyed→SortSt→Prop}(q:Quiet κ st)(ha:Al S a)(hb:Al S b)(pa:1≤a.size)(pb:1≤b.size)(h:∀ r g,Al S r→Q r (gs st g)):wpS (model prog w) A E s (rq a b) Q st:=by
 delta rq
 refine IH (Mg (Kl ⟨rfl,?_⟩))
 refine IH (aZ (i:=a.size-1) (by lia) ?_)
 have h0:=ha.at (i:=a.size-1) (by lia)
 have qg:∀ g,Quiet κ (gs st g):=fun g=>⟨q.kind,q.failed⟩
 refine az (fun _=>wpS_pure (h _ (gallopOf st) ((ha.ext.app hb.ext).app (Al.one h0).rev))) fun n1=>?_
 refine az (fun _=>wpS_pure (h _ (gallopOf st) ((hb.ext.app ha.ext).app (Al.one h0).rev))) fun n2=>?_
 have n1:a.size-1≠0:=by simpa using n1
 have n2:b.size≠1:=by simpa using n2
 refine IH (Lf ?_)
 refine IH (JU (Jw (I:=fun x c st'=>∃ na nb out mg g,c=(none,na,nb,out,mg)∧st'=gs st g∧Hi S a b (x+1) na nb out) (Q:=fun c st'=>∃ r rest g,c=(some r,rest)∧Al S r∧st'=gs st g) ?step ?fin ⟨_,_,_,_,gallopOf st,rfl,rfl,Al.one h0,by lia,by lia,by lia,by lia,by lia⟩) ?post)
 case fin =>
  rintro c st' ⟨na,nb,out,mg,g,rfl,rfl,al,l1,la,l2,lb,gt⟩
  lia
 case post =>
  rintro c st' ⟨r,rest,g,rfl,al,rfl⟩
  exact wpS_pure (h _ _ al)
 case step =>
  rintro x c st' _ hx ⟨na,nb,out,mg,g,rfl,rfl,hi⟩
  refine IH (JU (Jw (I:=fun y c st''=>st''=gs st g∧∃ na nb out ac bc,c=(none,na,nb,out,ac,bc)∧Hi S a b (x+1+min y 1) na nb out) (Q:=fun c st''=>st''=gs st g∧((∃ r rest,c=(some r,rest)∧Al S r)∨∃ na nb out ac bc,c=(none,na,nb,out,ac,bc)∧Hi S a b (x+2) na nb out)) ?step1 ?fin1 ⟨rfl,_,_,_,_,_,rfl,hi⟩) ?post1)
  case fin1 =>
   rintro c st'' ⟨rfl,na,nb,out,ac,bc,rfl,al,l1,la,l2,lb,gt⟩
   exact⟨rfl,.inr ⟨_,_,_,_,_,rfl,al,l1,la,l2,lb,by lia⟩⟩
  case step1 =>
   rintro y c st'' _ hy ⟨rfl,na,nb,out,ac,bc,rfl,al,l1,la,l2,lb,gt⟩
   refine IH (aZ (i:=nb-1) (by lia) (IH (aZ (i:=na-1) (by lia) (IH (sN hL (qg g) (hb.at (by lia)) (ha.at (by lia)) fun bw=>?_)))))
   refine az (fun _=>?_) fun _=>?_
   ·refine IH (aZ (i:=na-1) (by lia) ?_)
    have al2:=al.push (ha.at (i:=na-1) (by lia))
    refine az (fun _=>wpS_pure ⟨rfl,.inl ⟨_,_,rfl,(ha.ext.app hb.ext).app al2.rev⟩⟩) fun n3=>?_
    have n3:na-1≠0:=by simpa using n3
    exact az (fun _=>wpS_pure ⟨rfl,.inr ⟨_,_,_,_,_,rfl,al2,by first | lia | (dsimp only;lia),by first | lia | (dsimp only;lia),by first | lia | (dsimp only;lia),by first | lia | (dsimp only;lia),by first | lia | (dsimp only;lia)⟩⟩) fun _=>wpS_pure ⟨rfl,_,_,_,_,_,rfl,al2,by first | lia | (dsimp only;lia),by first | lia | (dsimp only;lia),by first | lia | (dsimp only;lia),by first | lia | (dsimp only;lia),by first | lia | (dsimp only;lia)⟩
   ·refine IH (aZ (i:=nb-1) (by lia) ?_)
    have al2:=al.push (hb.at (i:=nb-1) (by lia))
    refine az (fun _=>wpS_pure ⟨rfl,.inl ⟨_,_,rfl,(hb.ext.app ha.ext).app al2.rev⟩⟩) fun n3=>?_
    have n3:nb-1≠1:=by simpa using n3
    exact az (fun _=>wpS_pure ⟨rfl,.inr ⟨_,_,_,_,_,rfl,al2,by first | lia | (dsimp only;lia),by first | lia | (dsimp only;lia),by first | lia | (dsimp only;lia),by first | lia | (dsimp only;lia),by first | lia | (dsimp only;lia)⟩⟩) fun _=>wpS_pure ⟨rfl,_,_,_,_,_,rfl,al2,by first | lia | (dsimp only;lia),by first | lia | (dsimp only;lia),by first | lia | (dsimp only;lia),by first | lia | (dsimp only;lia),by first | lia | (dsimp only;lia)⟩
  case post1 =>
   rintro c st'' ⟨rfl,⟨r,rest,rfl,al⟩ | ⟨na,nb,out,ac,bc,rfl,hi⟩⟩
   ·exact wpS_pure ⟨_,_,_,rfl,al,rfl⟩
   ·refine IH (Mg (Kl ⟨rfl,?_⟩))
    refine IH (JU (Jw (I:=fun y c st''=>∃ g na nb out mg ac bc,st''=gs st g∧c=(none,na,nb,out,mg,ac,bc)∧Hi S a b (x+2) na nb out) (Q:=fun c st''=>∃ g,st''=gs st g∧((∃ r rest,c=(some r,rest)∧Al S r)∨∃ na nb out mg ac bc,c=(none,na,nb,out,mg,ac,bc)∧Hi S a b (x+2) na nb out)) ?step2 ?fin2 ⟨g,_,_,_,_,_,_,rfl,rfl,hi⟩) ?post2)
    case fin2 =>
     rintro c st'' ⟨g,na,nb,out,mg,ac,bc,rfl,rfl,hi⟩
     exact⟨g,rfl,.inr ⟨_,_,_,_,_,_,rfl,hi⟩⟩
    case post2 =>
     rintro c st'' ⟨g,rfl,⟨r,rest,rfl,al⟩ | ⟨na,nb,out,mg,ac,bc,rfl,al,l1,la,l2,lb,gt⟩⟩
     ·exact wpS_pure ⟨_,_,_,rfl,al,rfl⟩
     ·refine IH (lA ?_)
      exact wpS_pure ⟨_,_,_,_,_,rfl,rfl,al,l1,la,l2,lb,by lia⟩
    case step2 =>
     rintro y c st'' _ hy ⟨g,na,nb,out,mg,ac,bc,rfl,rfl,al,l1,la,l2,lb,gt⟩
     refine az (fun _=>?_) fun _=>?_
     all_goals
      refine IH (lA ?_)
      refine IH (aZ (i:=nb-1) (by lia) ?_)
      refine IH (dC hL (qg _) (hb.at (by lia)) ha (by show 0+na≤_;lia) (by show na-1<na;lia) fun k hk=>?_)
      have hk:k≤na:=hk
      refine az (fun z0=>?_) fun z0=>?_
      ·have z0:na-k > 0:=z0
       refine az (fun _=>wpS_pure ⟨_,rfl,.inl ⟨_,_,rfl,(ha.ext.app hb.ext).app (al.app ha.ext.rev).rev⟩⟩) fun n4=>?_
       have n4:k≠0:=by simpa using n4
       have alk:=al.app (ha.ext (i:=k) (j:=na)).rev
       refine IH (aZ (i:=nb-1) (by lia) ?_)
       have al3:=alk.push (hb.at (i:=nb-1) (by lia))
       refine az (fun _=>wpS_pure ⟨_,rfl,.inl ⟨_,_,rfl,(hb.ext.app ha.ext).app al3.rev⟩⟩) fun n6=>?_
       have n6:nb-1≠1:=by simpa using n6
       refine IH (aZ (i:=k-1) (by lia) ?_)
       refine IH (dC hL (qg _) (ha.at (by lia)) hb (by show 0+(nb-1)≤_;lia) (by show nb-1-1<nb-1;lia) fun k1 hk1=>?_)
       have hk1:k1≤nb-1:=hk1
       refine az (fun z1=>?_) fun z1=>?_
       ·have z1:nb-1-k1 > 0:=z1
        refine az (fun _=>wpS_pure ⟨_,rfl,.inl ⟨_,_,rfl,(hb.ext.app ha.ext).app (al3.app hb.ext.rev).rev⟩⟩) fun n7=>?_
        refine az (fun _=>wpS_pure ⟨_,rfl,.inl ⟨_,_,rfl,(ha.ext.app hb.ext).app (al3.app hb.ext.rev).rev⟩⟩) fun n9=>?_
        have n7:k1≠1:=by simpa using n7
        have n9:k1≠0:=by simpa using n9
        refine IH (aZ (i:=k-1) (by lia) ?_)
        have al4:=(al3.app (hb.ext (i:=k1) (j:=nb-1)).rev).push (ha.at (i:=k-1) (by lia))
        refine az (fun _=>wpS_pure ⟨_,rfl,.inl ⟨_,_,rfl,(ha.ext.app hb.ext).app al4.rev⟩⟩) fun n8=>?_
        have n8:k-1≠0:=by simpa using n8
        exact az (fun _=>wpS_pure ⟨_,rfl,.inr ⟨_,_,_,_,_,_,rfl,al4,by first | lia | (dsimp only;lia),by first | lia | (dsimp only;lia),by first | lia | (dsimp only;lia),by first | lia | (dsimp only;lia),by first | lia | (dsimp only;lia)⟩⟩) fun _=>wpS_pure ⟨_,_,_,_,_,_,_,rfl,rfl,al4,by first | lia | (dsimp only;lia),by first | lia | (dsimp only;lia),by first | lia | (dsimp only;lia),by first | lia | (dsimp only;lia),by first | lia | (dsimp only;lia)⟩
       ·have z1:¬ nb-1-k1 > 0:=z1
        refine IH (aZ (i:=k-1) (by lia) ?_)
        have al4:=al3.push (ha.at (i:=k-1) (by lia))
        refine az (fun _=>wpS_pure ⟨_,rfl,.inl ⟨_,_,rfl,(ha.ext.app hb.ext).app al4.rev⟩⟩) fun n8=>?_
        have n8:k-1≠0:=by simpa using n8
        exact az (fun _=>wpS_pure ⟨_,rfl,.inr ⟨_,_,_,_,_,_,rfl,al4,by first | lia | (dsimp only;lia),by first | lia | (dsimp only;lia),by first | lia | (dsimp only;lia),by first | lia | (dsimp only;lia),by first | lia | (dsimp only;lia)⟩⟩) fun _=>wpS_pure ⟨_,_,_,_,_,_,_,rfl,rfl,al4,by first | lia | (dsimp only;lia),by first | lia | (dsimp only;lia),by first | lia | (dsimp only;lia),by first | lia | (dsimp only;lia),by first | lia | (dsimp only;lia)⟩
      ·have z0:¬ na-k > 0:=z0
       refine IH (aZ (i:=nb-1) (by lia) ?_)
       have al3:=al.push (hb.at (i:=nb-1) (by lia))
       refine az (fun _=>wpS_pure ⟨_,rfl,.inl ⟨_,_,rfl,(hb.ext.app ha.ext).app al3.rev⟩⟩) fun n6=>?_
       have n6:nb-1≠1:=by simpa using n6
       refine IH (aZ (i:=na-1) (by lia) ?_)
       refine IH (dC hL (qg _) (ha.at (by lia)) hb (by show 0+(nb-1)≤_;lia) (by show nb-1-1<nb-1;lia) fun k1 hk1=>?_)
       have hk1:k1≤nb-1:=hk1
       refine az (fun z1=>?_) fun z1=>?_
       ·have z1:nb-1-k1 > 0:=z1
        refine az (fun _=>wpS_pure ⟨_,rfl,.inl ⟨_,_,rfl,(hb.ext.app ha.ext).app (al3.app hb.ext.rev).rev⟩⟩) fun n7=>?_
        refine az (fun _=>wpS_pure ⟨_,rfl,.inl ⟨_,_,rfl,(ha.ext.app hb.ext).app (al3.app hb.ext.rev).rev⟩⟩) fun n9=>?_
        have n7:k1≠1:=by simpa using n7
        have n9:k1≠0:=by simpa using n9
        refine IH (aZ (i:=na-1) (by lia) ?_)
        have al4:=(al3.app (hb.ext (i:=k1) (j:=nb-1)).rev).push (ha.at (i:=na-1) (by lia))
        refine az (fun _=>wpS_pure ⟨_,rfl,.inl ⟨_,_,rfl,(ha.ext.app hb.ext).app al4.rev⟩⟩) fun n8=>?_
        have n8:na-1≠0:=by simpa using n8
        exact az (fun _=>wpS_pure ⟨_,rfl,.inr ⟨_,_,_,_,_,_,rfl,al4,by first | lia | (dsimp only;lia),by first | lia | (dsimp only;lia),by first | lia | (dsimp only;lia),by first | lia | (dsimp only;lia),by first | lia | (dsimp only;lia)⟩⟩) fun _=>wpS_pure ⟨_,_,_,_,_,_,_,rfl,rfl,al4,by first | lia | (dsimp only;lia),by first | lia | (dsimp only;lia),by first | lia | (dsimp only;lia),by first | lia | (dsimp only;lia),by first | lia | (dsimp only;lia)⟩
       ·have z1:¬ nb-1-k1 > 0:=z1
        refine IH (aZ (i:=na-1) (by lia) ?_)
        have al4:=al3.push (ha.at (i:=na-1) (by lia))
        refine az (fun _=>wpS_pure ⟨_,rfl,.inl ⟨_,_,rfl,(ha.ext.app hb.ext).app al4.rev⟩⟩) fun n8=>?_
        have n8:na-1≠0:=by simpa using n8
        exact az (fun _=>wpS_pure ⟨_,rfl,.inr ⟨_,_,_,_,_,_,rfl,al4,by first | lia | (dsimp only;lia),by first | lia | (dsimp only;lia),by first | lia | (dsimp only;lia),by first | lia | (dsimp only;lia),by first | lia | (dsimp only;lia)⟩⟩) fun _=>wpS_pure ⟨_,_,_,_,_,_,_,rfl,rfl,al4,by first | lia | (dsimp only;lia),by first | lia | (dsimp only;lia),by first | lia | (dsimp only;lia),by first | lia | (dsimp only;lia),by first | lia | (dsimp only;lia)⟩
end
end UfTs
end
section
namespace UfTs
open PySem PyProof.Rows
section
variable {prog:Program}{w:World}{A:Around}{E:Value→Shared→Prop}{s:Shared}{κ:SortKind}{S:Keyed→Prop}
structure Cl(κ:SortKind)(S:Keyed→Prop)(n:Nat)(st:SortSt):Prop where
 q:Quiet κ st
 al:Al S (arrOf st)
 sz:(arrOf st).size=n
def Ej{st st':SortSt}{Q:PUnit→SortSt→Prop}(h:Q ⟨⟩ st'):wpS (model prog w) A E s (set st':StateT SortSt Sem PUnit) Q st:=by
 unfold wpS
 rw [StateT.run_set]
 exact wpAny_pure ⟨rfl,h⟩
def zz{xs:Array Keyed}{i:Nat}{x:Keyed}(h:Al S xs)(hx:S x):Al S (xs.setIfInBounds i x):=fun y hy=>by
 rcases Array.mem_or_eq_of_mem_setIfInBounds hy with z | z
 ·exact h y z
 ·rw [z];exact hx
theorem vF:∀ (l:List (Keyed × Nat)) (sa:Nat) (xs:Array Keyed),Al S xs→(∀ p∈l,S p.1)→Al S (l.foldl (fun a p=>a.setIfInBounds (sa+p.2) p.1) xs)∧(l.foldl (fun a p=>a.setIfInBounds (sa+p.2) p.1) xs).size=xs.size
 | [],_,_,h,_=>⟨h,rfl⟩
 | p::l,sa,xs,h,hl=>by
  obtain⟨h1,h2⟩:=vF l sa (xs.setIfInBounds (sa+p.2) p.1) (zz h (hl p List.mem_cons_self)) fun q hq=>hl q (List.mem_cons_of_mem _ hq)
  exact⟨h1,by rw [JD,h2,Array.size_setIfInBounds]⟩
def xR{r:Array Keyed}(h:Al S r):∀ p∈r.toList.zipIdx,S p.1:=fun p hp=>by
 have:=List.fst_mem_of_mem_zipIdx (x:=p) hp
 exact h _ (by simpa using this)
def uK(hL:lQ prog w A s κ S){n i sa na sb nb pw pw2:Nat}{st:SortSt}{Q:Bool→SortSt→Prop}(c:Cl κ S n st)(h1:(pendingOf st)[i]?=some (sa,na,pw))(h2:(pendingOf st)[i+1]?=some (sb,nb,pw2))(e:sb=sa+na)(pa:1≤na)(pb:1≤nb)(le:sb+nb≤n)(h:∀ st',Cl κ S n st'→pendingOf st'=((pendingOf st).setIfInBounds i (sa,na+nb,pw)).eraseIdxIfInBounds (i+1)→Q true st'):wpS (model prog w) A E s (mergeAt' i) Q st:=by
 delta mergeAt'
 refine IH (Lf ?_)
 have sz:=c.sz
 show wpS (model prog w) A E s (match ((pendingOf st)[i]?,(pendingOf st)[i+1]?) with | (some (sa,na,pw),some (sb,nb,_))=>_ | _=>_) Q st
 rw [h1,h2]
 refine IH (Ej ?_)
 refine IH (aZ (arr:=arrOf st) (i:=sb) (by lia) ?_)
 have q0:Quiet κ (SortSt.mk' (kindOf st) (arrOf st) (((pendingOf st).setIfInBounds i (sa,na+nb,pw)).eraseIdxIfInBounds (i+1)) (gallopOf st) (failedOf st)):=⟨c.q.kind,c.q.failed⟩
 have al:=c.al
 refine IH (dC (arr:=arrOf st) hL q0 (al.at (by lia)) al (by lia) (by lia) fun k hk=>?_)
 refine az (fun _=>wpS_pure (h _ ⟨q0,al,sz⟩ rfl)) fun n1=>?_
 have n1:na-k≠0:=by simpa using n1
 refine IH (aZ (arr:=arrOf st) (i:=sa+k+(na-k)-1) (by lia) ?_)
 refine IH (dC (arr:=arrOf st) hL q0 (al.at (by lia)) al (by lia) (by lia) fun m hm=>?_)
 refine az (fun _=>wpS_pure (h _ ⟨q0,al,sz⟩ rfl)) fun n2=>?_
 have n2:m≠0:=by simpa using n2
 have fin:∀ (r:Array Keyed) (g:Nat),Al S r→Cl κ S n (SortSt.mk' (kindOf st) (r.toList.zipIdx.foldl (fun a p=>a.setIfInBounds (sa+k+p.2) p.1) (arrOf st)) (((pendingOf st).setIfInBounds i (sa,na+nb,pw)).eraseIdxIfInBounds (i+1)) g (failedOf st)):=fun r g hr=>by
  obtain⟨f1,f2⟩:=vF r.toList.zipIdx (sa+k) (arrOf st) al (xR hr)
  exact⟨⟨c.q.kind,c.q.failed⟩,f1,by rw [← sz];exact f2⟩
 have nn:(failedOf st).isNone=true:=by rw [c.q.failed];rfl
 refine az (fun _=>?_) fun _=>?_
 ·refine IH (uV (a:=(arrOf st).extract (sa+k) sb) (b:=(arrOf st).extract sb (sb+m)) hL q0 al.ext al.ext (by rw [LX];lia) (by rw [LX];lia) fun r g hr=>?_)
  refine IH (KO (IH (Lf (wpS_pure ?_))))
  have:=h _ (fin r g hr) rfl
  rw [← nn] at this
  exact this
 ·refine IH (uZ (a:=(arrOf st).extract (sa+k) sb) (b:=(arrOf st).extract sb (sb+m)) hL q0 al.ext al.ext (by rw [LX];lia) (by rw [LX];lia) fun r g hr=>?_)
  refine IH (KO (IH (Lf (wpS_pure ?_))))
  have:=h _ (fin r g hr) rfl
  rw [← nn] at this
  exact this
def Cl.arr{n:Nat}{st:SortSt}{xs:Array Keyed}(c:Cl κ S n st)(hp:xs.Perm (arrOf st)):Cl κ S n (setArr st xs) :=
 ⟨⟨c.q.kind,c.q.failed⟩,fun y hy=>c.al y (by
  have:=(Array.perm_iff_toList_perm.mp hp).mem_iff.mp (show y∈xs.toList by simpa using hy)
  simpa using this),by rw [← c.sz];exact hp.size_eq⟩
def gO{i j n:Nat}{st:SortSt}{Q:Unit→SortSt→Prop}(c:Cl κ S n st)(h:∀ st',Cl κ S n st'→pendingOf st'=pendingOf st→Q () st'):wpS (model prog w) A E s (reverseSlice' i j) Q st:=by
 rw [reverseSlice'_eq]
 exact KO (h _ (c.arr (mirror_perm _ _ _ _)) rfl)
def Bt{i j n:Nat}{st:SortSt}{Q:Unit→SortSt→Prop}(c:Cl κ S n st)(h:∀ st',Cl κ S n st'→pendingOf st'=pendingOf st→Q () st'):wpS (model prog w) A E s (moveDown' i j) Q st:=by
 rw [moveDown'_eq]
 exact KO (h _ (c.arr (bubble_perm _ _ _)) rfl)
def ip(hL:lQ prog w A s κ S){i j n:Nat}{st:SortSt}{Q:Option Bool→SortSt→Prop}(c:Cl κ S n st)(hi:i<n)(hj:j<n)(h:∀ b,Q (some b) st):wpS (model prog w) A E s (ltAt' i j) Q st :=
 Bs hL c.q c.al (by rw [c.sz];exact hi) (by rw [c.sz];exact hj) h
def xJ(hL:lQ prog w A s κ S){lo m ok n:Nat}{st:SortSt}{Q:Bool→SortSt→Prop}(c:Cl κ S n st)(le:lo+m≤n)(h:∀ st',Cl κ S n st'→pendingOf st'=pendingOf st→Q true st'):wpS (model prog w) A E s (binarySort' lo m ok) Q st:=by
 delta binarySort'
 refine IH (JU (Jw (I:=fun _ c st'=>c=(none,())∧Cl κ S n st'∧pendingOf st'=pendingOf st) (Q:=fun c st'=>c=(none,())∧Cl κ S n st'∧pendingOf st'=pendingOf st) ?step (fun c st' z=>z) ⟨rfl,c,rfl⟩) ?post)
 case post =>
  rintro _ st' ⟨rfl,c',p'⟩
  exact wpS_pure (h st' c' p')
 case step =>
  rintro k _ st' _ hk ⟨rfl,c',p'⟩
  refine IH (JU (Jw (I:=fun _ c st''=>st''=st'∧∃ l r,c=(none,l,r)∧r≤k) (Q:=fun c st''=>st''=st'∧∃ l r,c=(none,l,r)) ?istep (fun c st'' ⟨e,l,r,z,_⟩=>⟨e,l,r,z⟩) ⟨rfl,_,_,rfl,by lia⟩) ?ipost)
  case istep =>
   rintro x _ st'' _ hx ⟨rfl,l,r,rfl,hr⟩
   refine az (fun _=>wpS_pure ⟨rfl,_,_,rfl⟩) fun z=>?_
   have z:¬ l≥r:=z
   refine IH (ip hL c' (by lia) (by dsimp only;lia) fun b=>?_)
   exact az (fun _=>wpS_pure ⟨rfl,_,_,rfl,by dsimp only;lia⟩) fun _=>wpS_pure ⟨rfl,_,_,rfl,hr⟩
  case ipost =>
   rintro _ st'' ⟨rfl,l,r,rfl⟩
   exact IH (Bt c' fun st3 c3 p3=>wpS_pure ⟨rfl,c3,p3.trans p'⟩)
def zG(hL:lQ prog w A s κ S){lo nrem n:Nat}{st:SortSt}{Q:Option Nat→SortSt→Prop}(c:Cl κ S n st)(le:lo+nrem≤n)(h1:1≤nrem)(h:∀ m st',Cl κ S n st'→pendingOf st'=pendingOf st→1≤m→m≤nrem→Q (some m) st'):wpS (model prog w) A E s (countRun' lo nrem) Q st:=by
 delta countRun'
 refine IH (JU (Jw (I:=fun x c st'=>st'=st∧c=(none,x)) (Q:=fun c st'=>st'=st∧∃ m,c=(none,m)∧1≤m∧m≤nrem) ?step ?fin ⟨rfl,rfl⟩) ?post)
 case fin =>
  rintro _ st' ⟨rfl,rfl⟩
  exact⟨rfl,_,rfl,by lia,by lia⟩
 case step =>
  rintro x _ st' hx1 hx ⟨rfl,rfl⟩
  refine IH (ip hL c (by dsimp only;lia) (by dsimp only;lia) fun b=>?_)
  exact az (fun _=>wpS_pure ⟨rfl,_,rfl,by dsimp only;lia,by dsimp only;lia⟩) fun _=>wpS_pure ⟨rfl,rfl⟩
 case post =>
  rintro _ st' ⟨rfl,m,rfl,m1,m2⟩
  refine az (fun _=>wpS_pure (h m _ c rfl m1 m2)) fun z=>?_
  have z:m≠nrem:=by simpa using z
  refine az (fun g=>?_) fun g=>?_
  ·refine IH (ip hL c (by lia) (by dsimp only;lia) fun b=>?_)
   refine az (fun _=>wpS_pure (h m _ c rfl m1 m2)) fun _=>?_
   refine IH (gO c fun st2 c2 p2=>?_)
   refine IH (Mg (Kl ⟨rfl,?_⟩))
   refine IH (JU (Jw (I:=fun x c st3=>∃ e,c=(none,x,e)∧Cl κ S n st3∧pendingOf st3=pendingOf st') (Q:=fun c st3=>∃ l e,c=(none,l,e)∧1≤l∧l≤nrem∧Cl κ S n st3∧pendingOf st3=pendingOf st') ?step2 ?fin2 ⟨_,rfl,c2,p2⟩) ?post2)
   case fin2 =>
    rintro _ st3 ⟨e,rfl,c3,p3⟩
    exact⟨_,e,rfl,by lia,by lia,c3,p3⟩
   case step2 =>
    rintro x _ st3 hx1 hx ⟨e,rfl,c3,p3⟩
    refine IH (ip hL c3 (by dsimp only;lia) (by dsimp only;lia) fun b=>?_)
    refine az (fun _=>?_) fun _=>?_
    ·exact az (fun _=>IH (gO c3 fun st4 c4 p4=>wpS_pure ⟨_,rfl,c4,p4.trans p3⟩)) fun _=>wpS_pure ⟨_,rfl,c3,p3⟩
    ·refine IH (ip hL c3 (by dsimp only;lia) (by dsimp only;lia) fun b=>?_)
     exact az (fun _=>wpS_pure ⟨_,_,rfl,by dsimp only;lia,by dsimp only;lia,c3,p3⟩) fun _=>wpS_pure ⟨_,rfl,c3,p3⟩
   case post2 =>
    rintro _ st3 ⟨l,e,rfl,l1,l2,c3,p3⟩
    refine az (fun _=>IH (gO c3 fun st4 c4 p4=>?_)) fun _=>?_
    ·refine IH (gO c4 fun st5 c5 p5=>?_)
     refine IH (JU (Jw (I:=fun x c st6=>st6=st5∧c=(none,x)) (Q:=fun c st6=>st6=st5∧∃ m,c=(none,m)∧1≤m∧m≤nrem) ?_ ?_ ⟨rfl,rfl⟩) ?_)
     ·rintro x _ st6 hx1 hx ⟨rfl,rfl⟩
      have hx1:l≤x:=hx1
      refine IH (ip hL c5 (by dsimp only;lia) (by dsimp only;lia) fun b=>?_)
      exact az (fun _=>wpS_pure ⟨rfl,_,rfl,by dsimp only;lia,by dsimp only;lia⟩) fun _=>wpS_pure ⟨rfl,rfl⟩
     ·rintro _ st6 ⟨rfl,rfl⟩
      exact⟨rfl,_,rfl,by dsimp only;lia,by dsimp only;lia⟩
     ·rintro _ st6 ⟨rfl,m,rfl,m1,m2⟩
      exact wpS_pure (h m _ c5 (p5.trans (p4.trans p3)) m1 m2)
    ·refine IH (gO c3 fun st5 c5 p5=>?_)
     refine IH (JU (Jw (I:=fun x c st6=>st6=st5∧c=(none,x)) (Q:=fun c st6=>st6=st5∧∃ m,c=(none,m)∧1≤m∧m≤nrem) ?_ ?_ ⟨rfl,rfl⟩) ?_)
     ·rintro x _ st6 hx1 hx ⟨rfl,rfl⟩
      have hx1:l≤x:=hx1
      refine IH (ip hL c5 (by dsimp only;lia) (by dsimp only;lia) fun b=>?_)
      exact az (fun _=>wpS_pure ⟨rfl,_,rfl,by dsimp only;lia,by dsimp only;lia⟩) fun _=>wpS_pure ⟨rfl,rfl⟩
     ·rintro _ st6 ⟨rfl,rfl⟩
      exact⟨rfl,_,rfl,by dsimp only;lia,by dsimp only;lia⟩
     ·rintro _ st6 ⟨rfl,m,rfl,m1,m2⟩
      exact wpS_pure (h m _ c5 (p5.trans p3) m1 m2)
  ·refine IH (Mg (Kl ⟨rfl,?_⟩))
   refine IH (JU (Jw (I:=fun x c st3=>∃ e,c=(none,x,e)∧Cl κ S n st3∧pendingOf st3=pendingOf st') (Q:=fun c st3=>∃ l e,c=(none,l,e)∧1≤l∧l≤nrem∧Cl κ S n st3∧pendingOf st3=pendingOf st') ?step2 ?fin2 ⟨_,rfl,c,rfl⟩) ?post2)
   case fin2 =>
    rintro _ st3 ⟨e,rfl,c3,p3⟩
    exact⟨_,e,rfl,by lia,by lia,c3,p3⟩
   case step2 =>
    rintro x _ st3 hx1 hx ⟨e,rfl,c3,p3⟩
    refine IH (ip hL c3 (by dsimp only;lia) (by dsimp only;lia) fun b=>?_)
    refine az (fun _=>?_) fun _=>?_
    ·exact az (fun _=>IH (gO c3 fun st4 c4 p4=>wpS_pure ⟨_,rfl,c4,p4.trans p3⟩)) fun _=>wpS_pure ⟨_,rfl,c3,p3⟩
    ·refine IH (ip hL c3 (by dsimp only;lia) (by dsimp only;lia) fun b=>?_)
     exact az (fun _=>wpS_pure ⟨_,_,rfl,by dsimp only;lia,by dsimp only;lia,c3,p3⟩) fun _=>wpS_pure ⟨_,rfl,c3,p3⟩
   case post2 =>
    rintro _ st3 ⟨l,e,rfl,l1,l2,c3,p3⟩
    refine az (fun _=>IH (gO c3 fun st4 c4 p4=>?_)) fun _=>?_
    ·refine IH (gO c4 fun st5 c5 p5=>?_)
     refine IH (JU (Jw (I:=fun x c st6=>st6=st5∧c=(none,x)) (Q:=fun c st6=>st6=st5∧∃ m,c=(none,m)∧1≤m∧m≤nrem) ?_ ?_ ⟨rfl,rfl⟩) ?_)
     ·rintro x _ st6 hx1 hx ⟨rfl,rfl⟩
      have hx1:l≤x:=hx1
      refine IH (ip hL c5 (by dsimp only;lia) (by dsimp only;lia) fun b=>?_)
      exact az (fun _=>wpS_pure ⟨rfl,_,rfl,by dsimp only;lia,by dsimp only;lia⟩) fun _=>wpS_pure ⟨rfl,rfl⟩
     ·rintro _ st6 ⟨rfl,rfl⟩
      exact⟨rfl,_,rfl,by dsimp only;lia,by dsimp only;lia⟩
     ·rintro _ st6 ⟨rfl,m,rfl,m1,m2⟩
      exact wpS_pure (h m _ c5 (p5.trans (p4.trans p3)) m1 m2)
    ·refine IH (gO c3 fun st5 c5 p5=>?_)
     refine IH (JU (Jw (I:=fun x c st6=>st6=st5∧c=(none,x)) (Q:=fun c st6=>st6=st5∧∃ m,c=(none,m)∧1≤m∧m≤nrem) ?_ ?_ ⟨rfl,rfl⟩) ?_)
     ·rintro x _ st6 hx1 hx ⟨rfl,rfl⟩
      have hx1:l≤x:=hx1
      refine IH (ip hL c5 (by dsimp only;lia) (by dsimp only;lia) fun b=>?_)
      exact az (fun _=>wpS_pure ⟨rfl,_,rfl,by dsimp only;lia,by dsimp only;lia⟩) fun _=>wpS_pure ⟨rfl,rfl⟩
     ·rintro _ st6 ⟨rfl,rfl⟩
      exact⟨rfl,_,rfl,by dsimp only;lia,by dsimp only;lia⟩
     ·rintro _ st6 ⟨rfl,m,rfl,m1,m2⟩
      exact wpS_pure (h m _ c5 (p5.trans p3) m1 m2)
end
end UfTs
end
section
namespace UfTs
open PySem PyProof.Rows
abbrev Run:=Nat × Nat × Nat
def cP:List Run→Nat→Nat→Prop
 | [],a,b=>a=b
 | (s,n,_)::r,a,b=>s=a∧1≤n∧cP r (a+n) b
theorem cP.le:∀ {l:List Run} {a b:Nat},cP l a b→a≤b
 | [],_,_,h=>MT h
 | (s,n,_)::r,a,b,⟨_,h2,h3⟩=>by have:=cP.le h3;lia
theorem cP.merge:∀ {l:List Run} {a b i sa na pw sb nb pw2:Nat},cP l a b→l[i]?=some (sa,na,pw)→l[i+1]?=some (sb,nb,pw2) →
  (sb=sa+na∧1≤na∧1≤nb∧sb+nb≤b)∧cP ((l.set i (sa,na+nb,pw)).eraseIdx (i+1)) a b
 | [],_,_,_,_,_,_,_,_,_,_,h,_=>by simp at h
 | (s,n,p)::r,a,b,0,sa,na,pw,sb,nb,pw2,⟨h1,h2,h3⟩,e1,e2=>by
  have e1:(s,n,p)=(sa,na,pw):=by simpa using e1
  obtain⟨rfl,rfl,rfl⟩:s=sa∧n=na∧p=pw:=by simpa using e1
  match r,h3,e2 with
  | [],_,e2=>simp at e2
  | (s',n',p')::r,⟨k1,k2,k3⟩,e2 =>
   have e2:(s',n',p')=(sb,nb,pw2):=by simpa using e2
   cases e2
   have:=cP.le k3
   refine⟨⟨by lia,h2,k2,by lia⟩,?_⟩
   show cP ((s,n+nb,p)::r) a b
   exact⟨h1,by lia,by rw [← Nat.add_assoc];exact k3⟩
 | (s,n,p)::r,a,b,i+1,sa,na,pw,sb,nb,pw2,⟨h1,h2,h3⟩,e1,e2=>by
  obtain⟨k1,k2⟩:=cP.merge h3 (i:=i) (by simpa using e1) (by simpa using e2)
  exact⟨k1,h1,h2,k2⟩
theorem cP.snoc:∀ {l:List Run} {a b n p:Nat},cP l a b→1≤n→cP (l++[(b,n,p)]) a (b+n)
 | [],a,b,n,p,h,hn=>by
  have h:a=b:=h
  subst h
  exact⟨rfl,hn,rfl⟩
 | (s,m,q)::r,a,b,n,p,⟨h1,h2,h3⟩,hn=>⟨h1,h2,cP.snoc h3 hn⟩
theorem cP.mod:∀ {l:List Run} {a b:Nat} (i pw:Nat),cP l a b→cP (l.modify i fun x=>(x.1,x.2.1,pw)) a b
 | [],_,_,i,pw,h=>by simpa using h
 | (s,n,p)::r,a,b,0,pw,⟨h1,h2,h3⟩=>by
  rw [List.modify_zero_cons]
  exact⟨h1,h2,h3⟩
 | (s,n,p)::r,a,b,i+1,pw,⟨h1,h2,h3⟩=>by
  rw [List.modify_succ_cons]
  exact⟨h1,h2,cP.mod i pw h3⟩
section
variable {prog:Program}{w:World}{A:Around}{E:Value→Shared→Prop}{s:Shared}{κ:SortKind}{S:Keyed→Prop}
def lM(hL:lQ prog w A s κ S){n i lo:Nat}{st:SortSt}{Q:Bool→SortSt→Prop}(c:Cl κ S n st)(ct:cP (pendingOf st).toList 0 lo)(le:lo≤n)(hi:i+1<(pendingOf st).size)(h:∀ st',Cl κ S n st'→cP (pendingOf st').toList 0 lo→Q true st'):wpS (model prog w) A E s (mergeAt' i) Q st:=by
 obtain⟨⟨sa,na,pw⟩,e1⟩:∃ x,(pendingOf st)[i]?=some x:=⟨_,NT _ i (by lia)⟩
 obtain⟨⟨sb,nb,pw2⟩,e2⟩:∃ x,(pendingOf st)[i+1]?=some x:=⟨_,NT _ (i+1) hi⟩
 obtain⟨⟨k1,k2,k3,k4⟩,k5⟩:=ct.merge (by rw [JM];exact e1) (by rw [JM];exact e2)
 refine uK hL c e1 e2 k1 k2 k3 (by lia) fun st' c' p'=>h st' c' ?_
 rw [p',Array.toList_eraseIdxIfInBounds,Array.toList_setIfInBounds]
 exact k5
def AX(hL:lQ prog w A s κ S){n:Nat}{st:SortSt}{Q:Unit→SortSt→Prop}(c:Cl κ S n st)(p:pendingOf st = #[])(h:∀ st',Cl κ S n st'→Q () st'):wpS (model prog w) A E s sortRuns' Q st:=by
 delta sortRuns'
 refine IH (Lf ?_)
 have sz:=c.sz
 refine IH (JU (Jw (I:=fun _ x st'=>∃ lo,x=(none,lo)∧lo≤n∧Cl κ S n st'∧cP (pendingOf st').toList 0 lo) (Q:=fun x st'=>∃ lo,x=(none,lo)∧lo≤n∧Cl κ S n st'∧cP (pendingOf st').toList 0 lo) ?step (fun x st' z=>z) ⟨0,rfl,by lia,c,by rw [p];rfl⟩) ?post)
 case post =>
  rintro _ st' ⟨lo,rfl,le,c',ct⟩
  refine IH (JU (Jw (I:=fun _ x st2=>x=(none,())∧Cl κ S n st2∧cP (pendingOf st2).toList 0 lo) (Q:=fun x st2=>x=(none,())∧Cl κ S n st2) ?_ (fun x st2 z=>⟨z.1,z.2.1⟩) ⟨rfl,c',ct⟩) ?_)
  ·rintro x _ st2 _ _ ⟨rfl,c2,ct2⟩
   refine IH (Lf ?_)
   refine az (fun _=>wpS_pure ⟨rfl,c2⟩) fun z=>?_
   have z:¬(pendingOf st2).size≤1:=z
   refine IH (lM hL c2 ct2 le ?_ fun st3 c3 ct3=>?_)
   ·have any:∀ (c:Prop) [Decidable c],(if c then(pendingOf st2).size-2-1 else(pendingOf st2).size-2)+1<(pendingOf st2).size:=fun c _=>by split <;> lia
    exact any _
   ·exact az (fun z=>absurd z (by decide)) fun _=>wpS_pure ⟨rfl,c3,ct3⟩
  ·rintro _ st2 ⟨rfl,c2⟩
   exact wpS_pure (h _ c2)
 case step =>
  rintro x _ st' _ _ ⟨lo,rfl,le,c',ct⟩
  refine az (fun _=>wpS_pure ⟨lo,rfl,le,c',ct⟩) fun z=>?_
  have z:¬ lo≥n:=by rw [← sz];exact z
  refine IH (zG hL c' (by dsimp only;show lo+((arrOf st).size-lo)≤n;lia) (by dsimp only;show 1≤(arrOf st).size-lo;lia) fun m st2 c2 p2 m1 m2=>?_)
  have m2:m≤(arrOf st).size-lo:=m2
  refine az (fun g=>?_) fun _=>?_
  ·have g:m<minRun' (arrOf st).size (arrOf st).size 0:=g
   refine IH (Mg (Kl ⟨rfl,?_⟩))
   refine IH (xJ hL c2 (show lo+(min ((arrOf st).size-lo) (minRun' (arrOf st).size (arrOf st).size 0))≤n by lia) fun st3 c3 p3=>?_)
   refine az (fun z=>absurd z (by decide)) fun _=>?_
   refine IH (Lf ?_)
   generalize hb:(pendingOf st3).back?=ob
   have ct3:cP (pendingOf st3).toList 0 lo:=by rw [p3,p2];exact ct
   cases ob with
   | none =>
    refine IH (KO (wpS_pure ⟨lo+(min ((arrOf st).size-lo) (minRun' (arrOf st).size (arrOf st).size 0)),rfl,by lia,⟨⟨c3.q.kind,c3.q.failed⟩,c3.al,c3.sz⟩,?_⟩))
    show cP ((pendingOf st3).push (lo,(min ((arrOf st).size-lo) (minRun' (arrOf st).size (arrOf st).size 0)),0)).toList 0 (lo+(min ((arrOf st).size-lo) (minRun' (arrOf st).size (arrOf st).size 0)))
    rw [K3]
    exact ct3.snoc (by lia)
   | some y =>
    obtain⟨s1,n1,y3⟩:=y
    refine IH (JU (Jw (I:=fun _ x st4=>x=(none,())∧Cl κ S n st4∧cP (pendingOf st4).toList 0 lo) (Q:=fun x st4=>x=(none,())∧Cl κ S n st4∧cP (pendingOf st4).toList 0 lo) ?_ (fun x st4 z=>z) ⟨rfl,c3,ct3⟩) ?_)
    ·rintro x _ st4 _ _ ⟨rfl,c4,ct4⟩
     refine IH (Lf ?_)
     dsimp only
     generalize hp:(if (pendingOf st4).size > 1 then(pendingOf st4)[(pendingOf st4).size-2]? else none)=op
     cases op with
     | none=>exact wpS_pure ⟨rfl,c4,ct4⟩
     | some y =>
      obtain⟨y1,y2,older⟩:=y
      have g:(pendingOf st4).size > 1:=by
       apply MQ
       intro g
       rw [if_neg g] at hp
       cases hp
      refine az (fun _=>wpS_pure ⟨rfl,c4,ct4⟩) fun _=>?_
      refine IH (lM hL c4 ct4 le (show(pendingOf st4).size-2+1<(pendingOf st4).size by lia) fun st5 c5 ct5=>?_)
      exact az (fun z=>absurd z (by decide)) fun _=>wpS_pure ⟨rfl,c5,ct5⟩
    ·rintro _ st4 ⟨rfl,c4,ct4⟩
     refine IH (KO ?_)
     refine IH (KO (wpS_pure ⟨lo+(min ((arrOf st).size-lo) (minRun' (arrOf st).size (arrOf st).size 0)),rfl,by lia,⟨⟨c4.q.kind,c4.q.failed⟩,c4.al,c4.sz⟩,?_⟩))
     have:=cP.mod ((pendingOf st4).size-1) (power' (arrOf st).size (2*s1+n1) (2*s1+n1+n1+(min ((arrOf st).size-lo) (minRun' (arrOf st).size (arrOf st).size 0))) (arrOf st).size) ct4
     show cP (((pendingOf st4).modify _ _).push (lo,(min ((arrOf st).size-lo) (minRun' (arrOf st).size (arrOf st).size 0)),0)).toList 0 (lo+(min ((arrOf st).size-lo) (minRun' (arrOf st).size (arrOf st).size 0)))
     rw [K3,NO]
     exact cP.snoc this (by lia)
  ·refine IH (Lf ?_)
   generalize hb:(pendingOf st2).back?=ob
   have ct3:cP (pendingOf st2).toList 0 lo:=by rw [p2];exact ct
   cases ob with
   | none =>
    refine IH (KO (wpS_pure ⟨lo+m,rfl,by lia,⟨⟨c2.q.kind,c2.q.failed⟩,c2.al,c2.sz⟩,?_⟩))
    show cP ((pendingOf st2).push (lo,m,0)).toList 0 (lo+m)
    rw [K3]
    exact ct3.snoc (by lia)
   | some y =>
    obtain⟨s1,n1,y3⟩:=y
    refine IH (JU (Jw (I:=fun _ x st4=>x=(none,())∧Cl κ S n st4∧cP (pendingOf st4).toList 0 lo) (Q:=fun x st4=>x=(none,())∧Cl κ S n st4∧cP (pendingOf st4).toList 0 lo) ?_ (fun x st4 z=>z) ⟨rfl,c2,ct3⟩) ?_)
    ·rintro x _ st4 _ _ ⟨rfl,c4,ct4⟩
     refine IH (Lf ?_)
     dsimp only
     generalize hp:(if (pendingOf st4).size > 1 then(pendingOf st4)[(pendingOf st4).size-2]? else none)=op
     cases op with
     | none=>exact wpS_pure ⟨rfl,c4,ct4⟩
     | some y =>
      obtain⟨y1,y2,older⟩:=y
      have g:(pendingOf st4).size > 1:=by
       apply MQ
       intro g
       rw [if_neg g] at hp
       cases hp
      refine az (fun _=>wpS_pure ⟨rfl,c4,ct4⟩) fun _=>?_
      refine IH (lM hL c4 ct4 le (show(pendingOf st4).size-2+1<(pendingOf st4).size by lia) fun st5 c5 ct5=>?_)
      exact az (fun z=>absurd z (by decide)) fun _=>wpS_pure ⟨rfl,c5,ct5⟩
    ·rintro _ st4 ⟨rfl,c4,ct4⟩
     refine IH (KO ?_)
     refine IH (KO (wpS_pure ⟨lo+m,rfl,by lia,⟨⟨c4.q.kind,c4.q.failed⟩,c4.al,c4.sz⟩,?_⟩))
     have:=cP.mod ((pendingOf st4).size-1) (power' (arrOf st).size (2*s1+n1) (2*s1+n1+n1+m) (arrOf st).size) ct4
     show cP (((pendingOf st4).modify _ _).push (lo,m,0)).toList 0 (lo+m)
     rw [K3,NO]
     exact cP.snoc this (by lia)
end
end UfTs
end
section
namespace UfTs
open PySem PySem.Spec PyProof.Rows
structure FT(h:Heap)(p:Addr)(x:Str)(tk:Tok)(q:Addr)(its:List Value)(ns:List Int):Prop where
 p:IsTup h p #[.str x tk,.ref q]
 q:IsTup h q its.toArray
 i:IntsAre its ns
def wQ(h:Heap)(v:Value):Prop:=∃ p x tk q its ns,v=.ref p∧FT h p x tk q its ns
theorem wQ.keeps{h h':Heap}{v:Value}(z:wQ h v)(hk:∀ b o,h.get? b=some o→h'.get? b=some o):wQ h' v:=by
 obtain⟨p,x,tk,q,its,ns,rfl,a,b,c⟩:=z
 exact⟨p,x,tk,q,its,ns,rfl,a.keeps hk,b.keeps hk,c⟩
def Co{p q:Addr}{a b:List Int}{its its2:List Value}(p1:IsTup s.heap p its.toArray)(p2:IsTup s.heap q its2.toArray)(i1:IntsAre its a)(i2:IntsAre its2 b)(hu:A.units<cLine):∃ k,SeqAt.EqAt A s (.ref p) (.ref q) k:=by
 by_cases e:p=q
 ·subst e
  exact⟨true,KW _⟩
 ·have all:∀ (v w:Value),v∈its→w∈its2→∃ k,SeqAt.EqAt A.in1 s v w k:=fun v w hv hw=>by
   obtain⟨n,t,rfl⟩:=i1.all v hv
   obtain⟨m,u,rfl⟩:=i2.all w hw
   exact⟨_,L2.iy (x:=.int m) (y:=.int n) ⟨_,rfl⟩ ⟨_,rfl⟩ rfl rfl⟩
  have:∃ e:Nat→Bool,∀ j (h1:j<its.toArray.size) (h2:j<its2.toArray.size),SeqAt.EqAt A.in1 s its.toArray[j] its2.toArray[j] (e j):=by
   have c:∀ j,∃ k,∀ (h1:j<its.toArray.size) (h2:j<its2.toArray.size),SeqAt.EqAt A.in1 s its.toArray[j] its2.toArray[j] k:=fun j=>by
    by_cases h1:j<its.toArray.size
    ·by_cases h2:j<its2.toArray.size
     ·obtain⟨k,hk⟩:=all its.toArray[j] its2.toArray[j] (by simp) (by simp)
      exact⟨k,fun _ _=>hk⟩
     ·exact⟨true,fun _ z=>absurd z h2⟩
    ·exact⟨true,fun z=>absurd z h1⟩
   exact⟨fun j=>Classical.choose (c j),fun j=>Classical.choose_spec (c j)⟩
  obtain⟨f,hf⟩:=this
  exact⟨_,.of_refs e (Ls (A:=A) p1 p2 hu hf)⟩
def Bm{b:Bool}{x y:Str}{t u:Tok}{Q:Bool→Shared→Prop}(h:∀ b,Q b s):wpAny (model prog w) A (oneLt' b (.str x t) (.str y u)) Q E s:=by
 cases b with
 | true=>exact oneLt_str (h _)
 | false =>
  rw [oneLt'_eq]
  simp only [Jy,Km]
  exact IE (lt_str (JE (h _)))
def BI{p q:Addr}{a b:List Int}{its its2:List Value}{Q:Bool→Shared→Prop}(p1:IsTup s.heap p its.toArray)(p2:IsTup s.heap q its2.toArray)(i1:IntsAre its a)(i2:IntsAre its2 b)(hu:A.units<cLine)(h:∀ b,Q b s):wpAny (model prog w) A (oneLt' false (.ref p) (.ref q)) Q E s:=by
 rw [oneLt'_eq]
 simp only [Jy,Km]
 exact IE (HT.uz p1 p2 i1 i2 hu (JE (h _)))
def FO{b:Bool}{v u:Value}(hv:wQ s.heap v)(hu':wQ s.heap u)(hu:A.units<cLine)(Q:Bool→Shared→Prop)(E:Value→Shared→Prop)(h:∀ b,Q b s):wpAny (model prog w) A (keyLt' (tuples' b) v u) Q E s:=by
 obtain⟨p,x,tk,q,its,ns,rfl,P1,P2,P3⟩:=hv
 obtain⟨p',x',tk',q',its',ns',rfl,R1,R2,R3⟩:=hu'
 obtain⟨o,ho,hc,n,hd⟩:=P1
 obtain⟨o',ho',hc',n',hd'⟩:=R1
 delta keyLt'
 refine IE (M5 ho hd (IE (M5 ho' hd' ?_)))
 have e1:∃ k,SeqAt.EqAt A s (.str x tk) (.str x' tk') k:=⟨_,L2.iy (x:=.str x') (y:=.str x) ⟨_,rfl⟩ ⟨_,rfl⟩ rfl rfl⟩
 obtain⟨k1,e1⟩:=e1
 obtain⟨k2,e2⟩:=Co P2 R2 P3 R3 hu
 show wpAny (model prog w) A (forIn [((Value.str x tk,Value.str x' tk'),0),((Value.ref q,Value.ref q'),1)] (none,()) _ >>= _) Q E s
 rw [Ky]
 refine IE (IE (IE (e1 _ _ _ _ ?_)))
 cases k1 with
 | false=>exact IE (Bm fun r=>wpAny_pure (wpAny_pure (wpAny_pure (h _))))
 | true =>
  refine wpAny_pure ?_
  dsimp only
  rw [Ky]
  refine IE (IE (e2 _ _ _ _ ?_))
  cases k2 with
  | false =>
   have:(b&&(1:Nat)==0)=false:=by cases b <;> rfl
   simp only [this]
   exact IE (BI P2 R2 P3 R3 hu fun r=>wpAny_pure (wpAny_pure (wpAny_pure (h _))))
  | true =>
   refine wpAny_pure ?_
   dsimp only
   rw [MB]
   exact wpAny_pure (wpAny_pure (h _))
end UfTs
end
section
namespace UfTs
open PySem PySem.Spec PyProof.Rows
def IsTup.ne{h:Heap}{p a:Addr}{its:Array Value}{xs:Array Value}{n:Nat}(t:IsTup h p its)(ho:h.get? a=some (seqObj "list" xs n)):p≠a:=by
 rintro rfl
 obtain⟨o,e,c,_⟩:=t
 rw [ho] at e
 cases e
 exact absurd (show Value.type "list"=Value.type "tuple" from c) (by decide)
def wQ.but{h h':Heap}{v:Value}{a:Addr}{xs:Array Value}{n:Nat}(z:wQ h v)(ho:h.get? a=some (seqObj "list" xs n))(hk:∀ b o,b≠a→h.get? b=some o→h'.get? b=some o):wQ h' v:=by
 obtain⟨p,x,tk,q,its,ns,rfl,a1,b1,c⟩:=z
 have n1:=IsTup.ne a1 ho
 have n2:=IsTup.ne b1 ho
 obtain⟨o1,e1,r1⟩:=a1
 obtain⟨o2,e2,r2⟩:=b1
 exact⟨p,x,tk,q,its,ns,rfl,⟨o1,hk _ _ n1 e1,r1⟩,⟨o2,hk _ _ n2 e2,r2⟩,c⟩
theorem mY{α β:Type}{f:α→Sem β}{P:β→Prop}{M:Model}:∀ (l:List α) {Q:List β→Shared→Prop},(∀ v∈l,∀ (Q':β→Shared→Prop),(∀ r,P r→Q' r s)→wpAny M A (f v) Q' E s)→(∀ rs,(∀ r∈rs,P r)→Q rs s)→wpAny M A (l.mapM f) Q E s
 | [],Q,_,h=>by
  rw [List.mapM_nil]
  exact wpAny_pure (h [] fun r hr=>nomatch hr)
 | v::l,Q,hf,h=>by
  rw [List.mapM_cons]
  refine IE (hf v List.mem_cons_self _ fun r hr=>IE (mY l (fun u hu=>hf u (List.mem_cons_of_mem _ hu)) fun rs hrs=>wpAny_pure (h _ fun z hz=>?_)))
  rcases IP.mp hz with e | e
  ·rw [e];exact hr
  ·exact hrs z e
def Cw{vs:List Value}{Q:SortKind→Shared→Prop}(hv:∀ v∈vs,wQ s.heap v)(h:∀ b,Q (tuples' b) s):wpAny (model prog w) A (keyKind' vs.toArray) Q E s:=by
 rw [keyKind'_eq,List.mapM_toArray,map_eq_pure_bind]
 refine IE (IE (mY (P:=fun r=>∃ x t,r=some (Value.str x t)) _ (fun v hm Q' hq=>?_) fun rs hrs=>wpAny_pure ?_))
 ·obtain⟨p,x,tk,q,its,ns,rfl,⟨o,ho,hc,n,hd⟩,_,_⟩:=hv v hm
  delta firstOfTuple'
  refine IE (wpAny_typeOf_ref ho ?_)
  rw [hc]
  refine IE (M5 ho hd ?_)
  exact wpAny_pure (hq _ ⟨x,tk,rfl⟩)
 ·have all:(rs.toArray.all (·.isSome))=true:=by
   rw [List.all_toArray,JO]
   intro r hr
   obtain⟨x,t,rfl⟩:=hrs r hr
   rfl
  rw [if_pos all]
  refine IE (Kl ?_)
  rw [oneTypeOnly'_eq,List.filterMap_toArray,List.mapM_toArray,map_eq_pure_bind]
  refine IE (IE (IE (mY (P:=fun _=>True) _ (fun v hm Q' hq=>?_) fun ts _=>wpAny_pure ?_)))
  ·obtain⟨r,hr,e⟩:=KP.mp hm
   obtain⟨x,t,rfl⟩:=hrs r hr
   cases e
   exact LS (Nv s x t) (hq _ trivial)
  ·cases (List.toArray ts)[0]? with
   | none=>exact wpAny_pure (wpAny_pure (h _))
   | some t=>exact wpAny_pure (wpAny_pure (h _))
def pj{a:Addr}{vs:List Value}{n:Nat}{P:Fin→Shared→Prop}(ho:s.heap.get? a=some (seqObj "list" vs.toArray n))(hv:∀ v∈vs,wQ s.heap v)(hz:vs.length≤sizeLine)(hu:A.units<cLine)
  (h:∀ out:Array Value,(∀ v∈out,v∈vs)→out.size=vs.length→P (.done (.ret .none)) { s with heap:=sortedHeap s.heap a vs out }):wpAny (model prog w) A (Builtin.«list.sort» ⟨[.ref a],[]⟩) P E s:=by
 rw [list_sort_plain]
 have ha:a<s.heap.objs.size:=IJ ho
 have hsz:vs.toArray.size=vs.length:=by simp
 refine IE (M5 ho rfl ?_)
 refine IE (listUpdate_at ho rfl ?_ (hsz:=by rw [hsz];exact hz))
 obtain⟨e1,ho1⟩:∃ e1,(s.heap.update a (Obj.mapSeq fun _=>#[])).get? a=some (seqObj "list" #[] e1):=⟨_,get?_update_seq ho (fun _=>#[])⟩
 refine IE (seqEpoch_at ho1 rfl ?_)
 refine IE (wpAny_newTuple ?_ (by simpa using hz))
 refine IE (Mb ?_)
 refine JI ?_
 have ho6:(((s.heap.update a (Obj.mapSeq fun _=>#[])).push (seqObj "tuple" vs.toArray 0)).push (seqObj "list" #[] 0)).get? a=some (seqObj "list" #[] e1):=by
  rw [L7 _ _ _ (by rw [Lj,KG];exact IS (Jp ha)),L7 _ _ _ (by rw [KG];exact IS ha)]
  exact ho1
 show wpAny (model prog w) A _ P E { s with heap:=((s.heap.update a (Obj.mapSeq fun _=>#[])).push (seqObj "tuple" vs.toArray 0)).push (seqObj "list" #[] 0) }
 have kp:∀ b o,b≠a→s.heap.get? b=some o→(((s.heap.update a (Obj.mapSeq fun _=>#[])).push (seqObj "tuple" vs.toArray 0)).push (seqObj "list" #[] 0)).get? b=some o:=fun b o nb e=>by
  have hb:=IJ e
  rw [L7 _ _ _ (by rw [Lj,KG];exact IS (Jp hb)),L7 _ _ _ (by rw [KG];exact IS hb),Heap.get?_update_ne _ _ _ _ nb]
  exact e
 have hv6:∀ v∈vs,wQ (((s.heap.update a (Obj.mapSeq fun _=>#[])).push (seqObj "tuple" vs.toArray 0)).push (seqObj "list" #[] 0)) v:=fun v hm=>(hv v hm).but ho kp
 have fin:∀ out:Array Keyed,Al (fun p=>p.1=p.2∧p.1∈vs) out→out.size=vs.length→P (.done (.ret .none)) { s with heap:=sortedHeap s.heap a vs (out.map (·.2)) }:=fun out al sz=>h _ (fun v hm=>by
  obtain⟨p,hp,rfl⟩:=Array.mem_map.mp hm
  obtain⟨z1,z2⟩:=al p hp
  rw [← z1];exact z2) (by rw [Nt];exact sz)
 have al0:Al (fun p:Keyed=>p.1=p.2∧p.1∈vs) (vs.toArray.zip vs.toArray):=fun p hp=>by
  have:p∈vs.zip vs:=by simpa using hp
  exact mem_zip_self this
 have sz0:(vs.toArray.zip vs.toArray).size=vs.length:=pairsOf_size vs
 dsimp only
 by_cases h2:vs.toArray.size<2
 ·rw [if_pos h2,if_pos h2]
  refine IE (wpAny_pure ?_)
  rw [StateT.run_pure]
  refine IE (wpAny_pure ?_)
  dsimp only
  refine IE (seqEpoch_at ho6 rfl ?_)
  refine IE (listUpdate_at ho6 rfl ?_ (hsz2:=by rw [Nt];show(pairsOf vs).size≤_;rw [pairsOf_size];lia))
  simp only [bne_self_eq_false,Jy,Km]
  exact wpAny_pure (fin _ al0 sz0)
 ·rw [if_neg h2,if_neg h2]
  refine IE (Cw hv6 fun b=>?_)
  refine IE (Kf (AX (κ:=tuples' b) (S:=fun p=>p.1=p.2∧p.1∈vs) (n:=vs.length) (st:=SortSt.mk' (tuples' b) (vs.toArray.zip vs.toArray) #[] 7 none) (Q:=fun _ st'=>Cl (tuples' b) (fun p=>p.1=p.2∧p.1∈vs) vs.length st') (fun x y hx hy Q E hq=>FO (hv6 _ hx.2) (hv6 _ hy.2) hu Q E hq) ⟨⟨rfl,rfl⟩,al0,sz0⟩ rfl fun st' c=>c) ?_ fun _ _ e=>e)
  rintro⟨⟨⟩,st'⟩ s' ⟨rfl,c⟩
  dsimp only
  refine IE (seqEpoch_at ho6 rfl ?_)
  refine IE (listUpdate_at ho6 rfl ?_ (hsz2:=by rw [Nt];exact Jf (MT c.sz) (by lia)))
  rw [c.q.failed]
  simp only [bne_self_eq_false,Jy,Km]
  exact wpAny_pure (fin _ c.al c.sz)
end UfTs
end
section
namespace UfTs
open PySem PySem.Spec PyProof.Rows
def xZ{l:Addr}{vs:List Value}{Q:Value→Shared→Prop}(hl:s.heap.IsList l vs.toArray)(hv:∀ v∈vs,wQ s.heap v)(hz:vs.length≤sizeLine)(hu:A.units+2<cLine)
  (h:∀ h' D (out:Array Value) n,(∀ b o,s.heap.get? b=some o→h'.get? b=some o)→s.heap.objs.size≤D→h'.get? D=some (seqObj "list" out n)→(∀ v∈out,v∈vs)→out.size=vs.length→Q (.ref D) { s with heap:=h' }):wpAny (model prog w) A (call (.builtin "sorted") [.ref l]) Q E s:=by
 refine K4 kind_sorted MY MZ (M0 _) ?_
 unfold Builtin.«sorted»
 refine IE (m:=checkCount "sorted" 1 1 _) (wpAny_pure ?_)
 refine IE (collect_list hl ?_ (by simpa using hz))
 refine IE (Mb ?_ hz)
 have k0:∀ b o,s.heap.get? b=some o→((s.heap.push (seqObj "list" #[] 0)).update s.heap.objs.size (Obj.mapSeq (· ++ vs.toArray))).get? b=some o:=fun b o e=>by
  rw [Ju _ _ (Ki (IJ e))]
  exact IF _ e
 have z0:s.heap.objs.size≤((s.heap.push (seqObj "list" #[] 0)).update s.heap.objs.size (Obj.mapSeq (· ++ vs.toArray))).objs.size:=by rw [KG,Lj];exact JY _
 generalize ((s.heap.push (seqObj "list" #[] 0)).update s.heap.objs.size (Obj.mapSeq (· ++ vs.toArray)))=h1 at k0 z0 ⊢
 have hoL:(h1.push (seqObj "list" vs.toArray 0)).get? h1.objs.size=some (seqObj "list" vs.toArray 0):=IQ _ rfl
 have hv1:∀ v∈vs,wQ (h1.push (seqObj "list" vs.toArray 0)) v:=fun v hm=>(hv v hm).keeps fun b o e=>IF _ (k0 b o e)
 refine IE (JI (Kj Mx ⟨_,hoL,rfl⟩ Mj (pj hoL hv1 hz (by show A.units+1+1<cLine;lia) fun out o1 o2=>⟨_,rfl,?_⟩) (My _)))
 obtain⟨e,he⟩:=MN (h:=h1.push (seqObj "list" vs.toArray 0)) (a:=h1.objs.size) (vs:=vs) (n:=0) (out:=out) hoL
 refine wpAny_pure ⟨_,rfl,h _ _ out e (fun b o hb=>?_) z0 he o1 o2⟩
 have hb1:=k0 b o hb
 rw [Mz (IS (IJ hb1)) (by rw [Lj];exact Jp (IJ hb1))]
 exact IF _ hb1
def ye{l:Addr}{vs:List Value}{Q:Value→Shared→Prop}(hl:s.heap.IsList l vs.toArray){ns:List Int}(hI:IntsAre vs ns)(h64:vs.length<64)
  (h:∀ h' D (out:Array Value) n,(∀ b o,s.heap.get? b=some o→h'.get? b=some o)→s.heap.objs.size≤D→h'.get? D=some (seqObj "list" out n)→(∃ ns',IntsAre out.toList ns'∧ns'.Perm ns∧ns'.Pairwise (·≤·))→Q (.ref D) { s with heap:=h' }):wpAny (model prog w) A (call (.builtin "sorted") [.ref l]) Q E s:=by
 have hz:vs.length≤sizeLine:=by rw [sizeLine_eq];lia
 refine K4 kind_sorted MY MZ (M0 _) ?_
 unfold Builtin.«sorted»
 refine IE (m:=checkCount "sorted" 1 1 _) (wpAny_pure ?_)
 refine IE (collect_list hl ?_ (by simpa using hz))
 refine IE (Mb ?_ hz)
 have k0:∀ b o,s.heap.get? b=some o→((s.heap.push (seqObj "list" #[] 0)).update s.heap.objs.size (Obj.mapSeq (· ++ vs.toArray))).get? b=some o:=fun b o e=>by
  rw [Ju _ _ (Ki (IJ e))]
  exact IF _ e
 have z0:s.heap.objs.size≤((s.heap.push (seqObj "list" #[] 0)).update s.heap.objs.size (Obj.mapSeq (· ++ vs.toArray))).objs.size:=by rw [KG,Lj];exact JY _
 generalize ((s.heap.push (seqObj "list" #[] 0)).update s.heap.objs.size (Obj.mapSeq (· ++ vs.toArray)))=h1 at k0 z0 ⊢
 have hoL:(h1.push (seqObj "list" vs.toArray 0)).get? h1.objs.size=some (seqObj "list" vs.toArray 0):=IQ _ rfl
 refine IE (JI (Kj Mx ⟨_,hoL,rfl⟩ Mj (list_sort_tree hoL hI h64 fun out ns' o1 o2 o3=>⟨_,rfl,?_⟩) (My _)))
 obtain⟨e,he⟩:=MN (h:=h1.push (seqObj "list" vs.toArray 0)) (a:=h1.objs.size) (vs:=vs) (n:=0) (out:=out) hoL
 refine wpAny_pure ⟨_,rfl,h _ _ out e (fun b o hb=>?_) z0 he ⟨ns',o1,o2,o3⟩⟩
 have hb1:=k0 b o hb
 rw [Mz (IS (IJ hb1)) (by rw [Lj];exact Jp (IJ hb1))]
 exact IF _ hb1
end UfTs
namespace L2
open PySem PySem.Spec PyProof.Rows UfB Uf
def bQ(T:List Nat):List Nat:=T.mergeSort fun a b=>decide (a≤b)
def c6(T:List Nat):(bQ T).Perm T:=NL _ _
def kX(T:List Nat):(bQ T).Pairwise (·≤·):=by
 have:=Nd (le:=fun a b:Nat=>decide (a≤b)) (fun a b c h1 h2=>by simp at *;lia) (fun a b=>by simp;lia) T
 exact this.imp fun h=>by simpa using h
def pA{xs T:List Nat}(h:xs.Pairwise (·≤·))(p:xs.Perm T):xs=bQ T:=K9 (fun a b _ _ h1 h2=>Nat.le_antisymm h1 h2) h (kX T) (p.trans (c6 T).symm)
def ur{xs ys:List Nat}(p:xs.Perm ys):bQ xs=bQ ys:=pA (kX xs) ((c6 xs).trans p)
def zu{xs:List Nat}{x:Nat}:x∈bQ xs↔x∈xs:=(c6 xs).mem_iff
def iA(xs:List Nat):(bQ xs).length=xs.length:=(c6 xs).length_eq
section
variable {X:Cx}
def fm(T:List Nat):nats T=(T.map fun n:Nat=>(n:Int)).map V.int:=by
 unfold nats
 rw [List.map_map]
 rfl
def E6(K:PySem.W.Frag):List V→Hp→VK→Prop:=fun xs H Q=>∃ l T,xs=[.ref l]∧aA K H l (nats T)∧T.length<64∧∀ p,H p=none→Q (.ref p) (upd H p (.lst (nats (bQ T))))
theorem kA:∀ {us:List Value} {ns:List Int},IntsAre us ns→Vals (ns.map V.int) us
 | _,_,.nil=>.nil
 | _,_,.cons n t h=>.cons ⟨t,rfl⟩ (kA h)
def jn:dM X (.builtin "sorted") (E6 X.K):=by
 intro pins s σ H xs us Q I r h
 obtain⟨l,T,rfl,hl,hz,q⟩:=h
 obtain⟨u,rfl,ru⟩:=vals1 r
 cases ru
 obtain⟨its,rv,pl,_⟩:=I.list hl
 rw [fm] at rv
 have i1:=intsAre_of rv
 have l1:its.length=T.length:=by
  have:=rv.length
  rw [List.length_map,List.length_map] at this
  exact this.symm
 refine UfTs.ye pl.isList i1 (by lia) fun h' D out n kp nw at' ⟨ns',o1,o2,o3⟩=>?_
 have e:ns'=(bQ T).map (fun n:Nat=>(n:Int)):=by
  refine K9 (fun a b _ _ h1 h2=>Int.le_antisymm h1 h2) o3 ?_ (o2.trans ((c6 T).map _).symm)
  exact Lr.mpr ((kX T).imp fun h=>Int.ofNat_le.mpr h)
 subst e
 have hv:=kA o1
 rw [← fm] at hv
 have hlen:(nats (bQ T)).length≤sizeLine:=by rw [aX,iA,sizeLine_eq];lia
 refine⟨.ref D,_,I.laid (o:=.lst (nats (bQ T))) (t':=s.toks) kp nw (show bJ X.prog X.w _ h' D (.lst (nats (bQ T))) from⟨hlen,out.toList,n,hv,by rw [LA];exact at'⟩),rfl,q _ (I.hok.fresh nw)⟩
def Ec(X:Cx):List V→Hp→VK→Prop:=fun xs H Q=>∃ (l:Addr) (qs:List Addr),xs=[.ref l]∧aA X.K H l (qs.map V.ref)∧X.A.units+2<cLine∧(∀ q∈qs,∃ x t T,H q=some (.tup [.str x,.ref t])∧H t=some (.tup (nats T)))∧∀ (p:Addr) (qs':List Addr),H p=none→(∀ q∈qs',q∈qs)→qs'.length=qs.length→Q (.ref p) (upd H p (.lst (qs'.map V.ref)))
theorem vY:∀ {qs:List Addr} {us:List Value},Vals (qs.map V.ref) us→us=qs.map Value.ref
 | [],_,.nil=>rfl
 | q::qs,_,.cons r h=>by
  have r:_=Value.ref q:=r
  rw [r,vY h]
  rfl
theorem vv:∀ (qs:List Addr),Vals (qs.map V.ref) (qs.map Value.ref)
 | []=>.nil
 | q::qs=>.cons rfl (vv qs)
def tj:dM X (.builtin "sorted") (Ec X):=by
 intro pins s σ H xs us Q I r h
 obtain⟨l,qs,rfl,hl,hu,hq,q⟩:=h
 obtain⟨u,rfl,ru⟩:=vals1 r
 cases ru
 obtain⟨its,rv,pl,hz⟩:=I.list hl
 have e:=vY rv
 subst e
 rw [List.length_map] at hz
 refine UfTs.xZ pl.isList (fun v hv=>?_) (by rw [List.length_map];exact hz) hu fun h' D out n kp nw at' o1 o2=>?_
 ·obtain⟨p,hp,rfl⟩:=IV.mp hv
  obtain⟨x,t,T,h1,h2⟩:=hq p hp
  obtain⟨i1,r1,p1,_⟩:=I.tuple (bO.of (K:=X.K) h1)
  obtain⟨i2,r2,p2,_⟩:=I.tuple (bO.of (K:=X.K) h2)
  obtain⟨a,b,rfl,⟨tk,rfl⟩,rb⟩:=r1.two
  have rb:b=Value.ref t:=rb
  subst rb
  rw [fm] at r2
  exact⟨p,x,tk,t,i2,_,rfl,p1,p2,intsAre_of r2⟩
 ·have:∃ qs':List Addr,out.toList=qs'.map Value.ref∧∀ z∈qs',z∈qs:=by
   have all:∀ (vs:List Value),(∀ v∈vs,v∈qs.map Value.ref)→∃ qs':List Addr,vs=qs'.map Value.ref∧∀ z∈qs',z∈qs:=fun vs=>by
    induction vs with
    | nil=>exact fun _=>⟨[],rfl,fun z hz=>nomatch hz⟩
    | cons v vs ih =>
     intro hv
     obtain⟨qs',e1,e2⟩:=ih fun u hu=>hv u (List.mem_cons_of_mem _ hu)
     obtain⟨p,hp,rfl⟩:=IV.mp (hv v List.mem_cons_self)
     refine⟨p::qs',by rw [e1];rfl,fun z hz=>?_⟩
     rcases IP.mp hz with e | e
     ·rw [e];exact hp
     ·exact e2 z e
   exact all _ fun v hv=>o1 v (by simpa using hv)
  obtain⟨qs',e1,e2⟩:=this
  have l1:qs'.length=qs.length:=by
   have:out.toList.length=qs'.length:=by rw [e1,List.length_map]
   rw [JR,o2,List.length_map] at this
   exact this.symm
  have hlen:(qs'.map V.ref).length≤sizeLine:=by rw [List.length_map,l1];exact hz
  exact⟨.ref D,_,I.laid (o:=.lst (qs'.map V.ref)) (t':=s.toks) kp nw (show bJ X.prog X.w _ h' D (.lst (qs'.map V.ref)) from⟨hlen,out.toList,n,by rw [e1];exact vv _,by rw [LA];exact at'⟩),rfl,q _ _ (I.hok.fresh nw) e2 l1⟩
end
end L2
end
section
namespace UfTs
open PySem PySem.Spec PyProof.Rows L2
abbrev Pr:=Str × List Nat
def Cr(h:Heap)(k:Pr)(a:Addr):Prop:=∃ tk q its,FT h a k.1 tk q its (k.2.map fun n:Nat=>(n:Int))
def vD{its:List Value}{a b:List Int}(h:IntsAre its a)(k:IntsAre its b):a=b:=by
 rw [← h.nums,← k.nums]
def vc{a b:List Nat}(h:a.map (fun n:Nat=>(n:Int))=b.map fun n:Nat=>(n:Int)):a=b:=MI (fun _ _ z=>by lia) |>.mp h
def IsTup.uniq{h:Heap}{a:Addr}{xs ys:Array Value}(p:IsTup h a xs)(q:IsTup h a ys):xs=ys:=by
 obtain⟨o,e,_,n,d⟩:=p
 obtain⟨o',e',_,n',d'⟩:=q
 rw [e] at e'
 cases e'
 rw [d] at d'
 cases d'
 rfl
def Cr.inj{h:Heap}{a:Addr}{x y:Pr}(p:Cr h x a)(q:Cr h y a):x=y:=by
 obtain⟨tk,b,its,p1,p2,p3⟩:=p
 obtain⟨tk',b',its',q1,q2,q3⟩:=q
 have e:=IsTup.uniq p1 q1
 have e1:Value.str x.1 tk=Value.str y.1 tk'∧Value.ref b=Value.ref b':=by simpa using e
 obtain⟨e1,e2⟩:=e1
 cases e2
 have e3:=IsTup.uniq p2 q2
 have e3:its=its':=by simpa using e3
 subst e3
 exact Prod.ext (by injection e1) (vc (vD p3 q3))
def IsTup.Dc{h h':Heap}{a d:Addr}{xs:Array Value}{o:Obj}{es ep}(t:IsTup h a xs)(ho:h.get? d=some o)(hd:o.data=.dict es ep)(hs:Heap.SameBut d h h'):IsTup h' a xs:=by
 obtain⟨o',e,c,n,dd⟩:=t
 have hne:a≠d:=by
  rintro rfl
  rw [ho] at e
  cases e
  rw [hd] at dd
  exact nomatch dd
 exact⟨o',(hs.2 a hne).trans e,c,n,dd⟩
def Cv{p q:Addr}{a b:List Nat}{its its2:List Value}(p1:IsTup s.heap p its.toArray)(p2:IsTup s.heap q its2.toArray)(i1:IntsAre its (a.map fun n:Nat=>(n:Int)))(i2:IntsAre its2 (b.map fun n:Nat=>(n:Int)))(hu:A.units<cLine):SeqAt.EqAt A s (.ref p) (.ref q) (decide (a=b)):=by
 have n1:=i1.nums
 have n2:=i2.nums
 by_cases e:p=q
 ·subst e
  have:its=its2:=by simpa using IsTup.uniq p1 p2
  subst this
  rw [IL (vc (vD i1 i2))]
  exact KW _
 ·have l1:its.length=a.length:=by rw [← List.length_map (f:=numOf),n1,List.length_map]
  have l2:its2.length=b.length:=by rw [← List.length_map (f:=numOf),n2,List.length_map]
  have:=Ls (A:=A) (e:=fun j=>decide (a[j]?=b[j]?)) p1 p2 hu fun j h1 h2=>by
   have h1':j<its.length:=by simpa using h1
   have h2':j<its2.length:=by simpa using h2
   obtain⟨n,t,e1⟩:=i1.all its[j] (by simp)
   obtain⟨m,u,e2⟩:=i2.all its2[j] (by simp)
   have g1:a[j]?=some a[j]:=IG (by lia)
   have g2:b[j]?=some b[j]:=IG (by lia)
   have v1:(a[j]:Int)=n:=by
    have:(its.map numOf)[j]?=some n:=by rw [List.getElem?_map,IG h1',e1];rfl
    rw [n1,List.getElem?_map,g1] at this
    simpa using this
   have v2:(b[j]:Int)=m:=by
    have:(its2.map numOf)[j]?=some m:=by rw [List.getElem?_map,IG h2',e2];rfl
    rw [n2,List.getElem?_map,g2] at this
    simpa using this
   show SeqAt.EqAt A.in1 s its[j] its2[j] _
   rw [e1,e2]
   have:=L2.iy (A:=A.in1) (s:=s) (x:=.int m) (y:=.int n) (u:=.int n t) (v:=.int m u) ⟨_,rfl⟩ ⟨_,rfl⟩ rfl rfl
   have e5:L2.rn (.int n) (.int m)=decide (a[j]?=b[j]?):=by
    show(n==m)=_
    rw [Jz,KJ,Jo,g1,g2]
    constructor
    ·intro z
     congr 1
     lia
    ·intro z
     have:=Jk z
     lia
   rw [e5] at this
   exact this
  have e6:((List.range (min its.toArray.size its2.toArray.size)).all (fun j=>decide (a[j]?=b[j]?))&&its.toArray.size==its2.toArray.size)=decide (a=b):=by
   rw [IY,IY,l1,l2,Jz,Ka,JO,KJ,Jo]
   constructor
   ·rintro⟨h,hl⟩
    refine L6 fun j=>?_
    by_cases hj:j<a.length
    ·exact JF (h j (JK.mpr (by lia)))
    ·rw [Jm (by lia),Jm (by lia)]
   ·rintro rfl
    exact⟨fun j _=>IL rfl,rfl⟩
  rw [e6] at this
  exact .of_refs e this
def Dr{a b:Addr}{x y:Pr}(h1:Cr s.heap x a)(h2:Cr s.heap y b)(hu:A.units+1<cLine):SeqAt.EqAt A s (.ref a) (.ref b) (decide (x=y)):=by
 by_cases e:a=b
 ·subst e
  rw [IL (h1.inj h2)]
  exact KW _
 ·obtain⟨tk,q,its,p1,p2,p3⟩:=h1
  obtain⟨tk',q',its',r1,r2,r3⟩:=h2
  have:=Ls (A:=A) (e:=fun j=>if j=0 then decide (x.1=y.1) else decide (x.2=y.2)) p1 r1 (by lia) fun j h1 h2=>by
   match j,h1 with
   | 0,_ =>
    have:=L2.iy (A:=A.in1) (s:=s) (x:=.str y.1) (y:=.str x.1) (u:=.str x.1 tk) (v:=.str y.1 tk') ⟨_,rfl⟩ ⟨_,rfl⟩ rfl rfl
    have e5:L2.rn (.str x.1) (.str y.1)=decide (x.1=y.1):=by
     show(x.1==y.1)=_
     rw [Jz,KJ,Jo]
    rw [e5] at this
    exact this
   | 1,_=>exact Cv p2 r2 p3 r3 (show A.units+1<cLine from hu)
   | j+2,h=>exact absurd h (by simp)
  have e6:((List.range 2).all (fun j=>if j=0 then decide (x.1=y.1) else decide (x.2=y.2))&&(2:Nat)==2)=decide (x=y):=by
   rw [Jz]
   simp [List.range_succ,Prod.ext_iff]
  exact .of_refs e (by rw [← e6];exact this)
def yq(prog:Program)(w:World)(k:Pr):Int:=reduceHash (Builtin.Tuple.tupleHashOf [(aQ prog w).hash (Sum.inr k.1),tupleKeyHash (aQ prog w) (k.2.map fun n:Nat=>(Sum.inl (n:Int):Key))])
theorem lP{prog:Program}{w:World}:∀ {its:List Value} {ns:List Int},IntsAre its ns→ItemsAre (aQ prog w) (ns.map Sum.inl) its
 | _,_,.nil=>.nil
 | _,_,.cons n t h=>.cons (mU (k:=Sum.inl n) ⟨t,rfl⟩) (lP h)
def zP{h:Heap}{q:Addr}{its:List Value}{T:List Nat}(p:IsTup h q its.toArray)(i:IntsAre its (T.map fun n:Nat=>(n:Int))):IsTupleKey (aQ prog w) h (T.map fun n:Nat=>(Sum.inl (n:Int):Key)) q:=by
 obtain⟨o,e,c,n,d⟩:=p
 refine⟨o,its.toArray,n,e,c,d,?_⟩
 have:=lP (prog:=prog) (w:=w) i
 rw [List.map_map] at this
 exact this
def AY{k:Pr}{a:Addr}{Q:Int→Shared→Prop}(hu:A.units+1<cLine)(hk:Cr s.heap k a)(h:Q (yq prog w k) { s with toks:=s.toks+(k.2.length+3) }):wpAny (model prog w) A (pyHash (.ref a)) Q E s:=by
 obtain⟨tk,q,its,p1,p2,p3⟩:=hk
 have kt:=zP (prog:=prog) (w:=w) p2 p3
 obtain⟨o,ho,hc,n,hd⟩:=p1
 have hT:s.TypeIs (.ref a) "tuple":=⟨o,ho,hc⟩
 unfold pyHash
 first | unfold pyHashByItsType | skip
 first | refine IE (wpAny_cRoomFor_or (.inr (by lia)) ?_) | skip
 refine IE (Kx hT L8.lookup ?_)
 show wpAny _ _ (if (some (Value.builtin "tuple.__hash__")==some Value.none)=true then _ else _) Q E s
 rw [if_neg (by rw [beq_builtin_none];exact Je)]
 refine IE (Kx hT L8.lookup ?_)
 refine IE (wpAny_callSpecialIfBoundUnlessNone?_slot hT L8 (Kj L8 hT F.entry_tuple_hash ?_ (F.args_tuple_hash_1 _)))
 show wpAny _ _ (Builtin.Tuple.tupleItemsOf (.ref a) >>= _) _ _ s
 refine IE (wpAny_tupleItemsOf ho hd ?_)
 refine IE ?_
 rw [← MJ]
 show wpAny _ _ (forIn [Value.str k.1 tk,Value.ref q] _ _) _ _ s
 rw [Ky]
 refine IE (IE ((aQ prog w).pyHash (k:=Sum.inr k.1) (mU (k:=Sum.inr k.1) ⟨tk,rfl⟩) (wpAny_pure ?_)))
 show wpAny _ _ (forIn [Value.ref q] _ _) _ _ _
 rw [Ky]
 refine IE (IE (wpAny_pyHash_tuple (knd:=aQ prog w) (show A.units+1<cLine from hu) kt (wpAny_pure ?_)))
 show wpAny _ _ (forIn [] _ _) _ _ _
 rw [MB]
 refine wpAny_pure ?_
 show wpAny _ _ (retInt (Builtin.Tuple.tupleHashOf [(aQ prog w).hash (Sum.inr k.1),tupleKeyHash (aQ prog w) (k.2.map fun n:Nat=>(Sum.inl (n:Int):Key))])) _ _ _
 refine wpAny_ret_mkInt ?_
 unfold yq reduceHash at h
 rw [List.length_map]
 have et:s.toks+1+(k.2.length+1)+1=s.toks+(k.2.length+3):=by lia
 show wpAny _ _ (if (decide (-(2:Int) ^ 63≤Builtin.Tuple.tupleHashOf [(aQ prog w).hash (Sum.inr k.1),tupleKeyHash (aQ prog w) (k.2.map fun n:Nat=>(Sum.inl (n:Int):Key))])&&decide (Builtin.Tuple.tupleHashOf [(aQ prog w).hash (Sum.inr k.1),tupleKeyHash (aQ prog w) (k.2.map fun n:Nat=>(Sum.inl (n:Int):Key))]<2 ^ 63))=true then _ else _) Q E { s with toks:=s.toks+1+(k.2.length+1)+1 }
 rw [et]
 generalize Builtin.Tuple.tupleHashOf [(aQ prog w).hash (Sum.inr k.1),tupleKeyHash (aQ prog w) (k.2.map fun n:Nat=>(Sum.inl (n:Int):Key))]=z at h ⊢
 split
 ·rename_i c
  rw [if_pos c] at h
  exact wpAny_pure h
 ·rename_i c
  rw [if_neg c] at h
  exact IE (Kl (wpAny_pure h))
def tI{q:Addr}{its:List Value}{ns:List Int}{Q:Bool→Shared→Prop}(p:IsTup s.heap q its.toArray)(i:IntsAre its ns)(h:Q true s):wpAny (model prog w) A (eqIsQuiet 7 (.ref q)) Q E s:=by
 obtain⟨o,ho,hc,n,hd⟩:=p
 have hT:s.TypeIs (.ref q) "tuple":=⟨o,ho,hc⟩
 unfold eqIsQuiet
 refine IE (Kx hT F.slot_tuple_eq.lookup ?_)
 show wpAny _ _ (isInstance (.ref q) (.type "tuple") >>= _) _ _ s
 refine IE (Lz hT isSubtype_tuple_tuple ?_)
 simp only [Mc,Jy,Km]
 refine IE (KD ho hd ?_)
 refine IE ?_
 show wpAny _ _ (forIn its.toArray _ _) _ _ s
 rw [← MJ]
 refine wpAny_forIn_list _ (fun rest r s'=>r.1=none∧s'=s∧∀ v∈rest,carriedByValue v=true) _ ?_ ?_ _ _ ⟨rfl,rfl,fun v hv=>by obtain⟨m,t,rfl⟩:=i.all v hv;rfl⟩
 ·rintro v rest r s' ⟨hr,rfl,hall⟩
  rw [eqIsQuiet_byValue _ (hall v List.mem_cons_self)]
  refine IE (wpAny_pure ?_)
  simp only [Mc,Jy,Km]
  exact wpAny_pure ⟨rfl,rfl,fun u hu'=>hall u (List.mem_cons_of_mem _ hu')⟩
 ·rintro⟨r1,r2⟩ s' ⟨hr,rfl,_⟩
  simp only at hr
  subst hr
  exact wpAny_pure h
def zF{k:Pr}{a:Addr}{Q:Bool→Shared→Prop}(hk:Cr s.heap k a)(h:Q true s):wpAny (model prog w) A (eqIsQuiet 8 (.ref a)) Q E s:=by
 obtain⟨tk,q,its,⟨o,ho,hc,n,hd⟩,p2,p3⟩:=hk
 have hT:s.TypeIs (.ref a) "tuple":=⟨o,ho,hc⟩
 unfold eqIsQuiet
 refine IE (Kx hT F.slot_tuple_eq.lookup ?_)
 show wpAny _ _ (isInstance (.ref a) (.type "tuple") >>= _) _ _ s
 refine IE (Lz hT isSubtype_tuple_tuple ?_)
 simp only [Mc,Jy,Km]
 refine IE (KD ho hd ?_)
 refine IE ?_
 show wpAny _ _ (forIn #[Value.str k.1 tk,Value.ref q] _ _) _ _ s
 rw [← MJ]
 show wpAny _ _ (forIn [Value.str k.1 tk,Value.ref q] _ _) _ _ s
 rw [Ky,eqIsQuiet_byValue _ rfl]
 refine IE (IE (wpAny_pure ?_))
 simp only [Mc,Jy,Km]
 refine wpAny_pure ?_
 dsimp only
 rw [Ky]
 refine IE (IE (tI p2 p3 ?_))
 simp only [Mc,Jy,Km]
 refine wpAny_pure ?_
 dsimp only
 rw [MB]
 exact wpAny_pure (wpAny_pure h)
def ft(prog:Program)(w:World):HeapKind prog w Pr where
 is:=Cr
 hash:=yq prog w
 draws:=fun k=>k.2.length+3
 room:=fun A=>A.units+1<cLine
 inj:=fun hx hy=>hx.inj hy
 keeps:=fun x ho hd hs=>let ⟨tk,q,its,p1,p2,p3⟩:=x;⟨tk,q,its,IsTup.Dc p1 ho hd hs,IsTup.Dc p2 ho hd hs,p3⟩
 pyHash:=fun hu hk h=>AY hu hk h
 eqBool:=fun hu hx hy h=>Dr hx hy hu _ _ _ _ h
 quiet:=fun hk h=>zF hk h
end UfTs
end
section
namespace L2
open PySem PySem.Spec PyProof.Rows UfTs Uf UfB
def jy(H:Hp)(k:Pr)(p:Addr):Prop:=∃ t,H p=some (.tup [.str k.1,.ref t])∧H t=some (.tup (nats k.2))
def jy.same{H H':Hp}{k:Pr}{p:Addr}(h:jy H k p)(s:∀ a xs,H a=some (.tup xs)→H' a=some (.tup xs)):jy H' k p:=let ⟨t,a,b⟩:=h;⟨t,s _ _ a,s _ _ b⟩
def PD(P:Program)(w:World)(a:Addr)(ks:List (Pr × Addr)):HO:=.ext fun h=>∃ xs:List (Pr × Addr × Value),xs.map (fun x=>(x.1,x.2.1))=ks∧(a==sysModules)=false∧xs.length≤sizeLine∧∃ o es ep,h.get? a=some o∧o.ExactDict∧o.data=.dict es ep∧es.toList=xs.map (entryOfKey (ft P w))∧(xs.map (·.1)).Nodup
section
variable {X:Cx}{pins:List (Addr × Obj)}{σ:St}{H:Hp}{s:Shared}{a p:Addr}{k:Pr}{ks:List (Pr × Addr)}{A:Around}{E:Value→Shared→Prop}
def pK(I:Inv X pins σ H s)(h:jy H k p):Cr s.heap k p:=by
 obtain⟨t,h1,h2⟩:=h
 obtain⟨i1,r1,p1,_⟩:=I.tuple (bO.of (K:=X.K) h1)
 obtain⟨i2,r2,p2,_⟩:=I.tuple (bO.of (K:=X.K) h2)
 obtain⟨u,v,rfl,⟨tk,rfl⟩,rb⟩:=r1.two
 have rb:v=Value.ref t:=rb
 subst rb
 rw [fm] at r2
 exact⟨tk,t,i2,p1,p2,intsAre_of r2⟩
def zY(I:Inv X pins σ H s)(e:H a=some (PD X.prog X.w a ks))(hk:∀ z∈ks,jy H z.1 z.2):∃ xs:List (Pr × Addr × Value),xs.map (fun x=>(x.1,x.2.1))=ks∧(a==sysModules)=false∧xs.length≤sizeLine∧s.heap.DictOfH (ft X.prog X.w) a xs:=by
 obtain⟨⟨xs,e1,e2,e3,o,es,ep,h1,h2,h3,h4,h5⟩,_⟩:=I.hok a _ e
 refine⟨xs,e1,e2,e3,o,es,ep,h1,h2,h3,h4,fun x hx=>?_,h5⟩
 exact pK I (hk (x.1,x.2.1) (by rw [← e1];exact IV.mpr ⟨x,hx,rfl⟩))
def C7{P:Program}{w:World}{H':Hp}{h:Heap}{xs:List (Pr × Addr × Value)}(e1:xs.map (fun x=>(x.1,x.2.1))=ks)(e2:(a==sysModules)=false)(e3:xs.length≤sizeLine)(d:h.DictOfH (ft P w) a xs):bJ P w H' h a (PD P w a ks):=by
 obtain⟨o,es,ep,h1,h2,h3,h4,_,h5⟩:=d
 refine⟨⟨xs,e1,e2,e3,o,es,ep,h1,h2,h3,h4,h5⟩,⟨o,h1⟩,?_⟩
 rintro g1 g2 ⟨xs,e1,e2,e3,o,es,ep,h1,r⟩ k
 exact⟨xs,e1,e2,e3,o,es,ep,k _ h1,r⟩
def kg{xs:List (Pr × Addr × Value)}(e:xs.map (fun x=>(x.1,x.2.1))=ks):(atKey xs k).isSome=decide (k∈ks.map (·.1)):=by
 unfold atKey
 rw [L4,← e,List.map_map,Jz,List.find?_isSome]
 simp
def F3(X:Cx)(neg:Bool):R2:=fun x y H Q=>∃ (p a:Addr) (k:Pr) (ks:List (Pr × Addr)),x=.ref p∧y=.ref a∧X.A.units+2<cLine∧jy H k p∧H a=some (PD X.prog X.w a ks)∧(∀ z∈ks,jy H z.1 z.2)∧Q (.bl (if neg then !decide (k∈ks.map (·.1)) else decide (k∈ks.map (·.1)))) H
def FP:gr X (compareOp .In) (F3 X false):=by
 intro pins s σ H x y v u Q I rx ry h
 obtain⟨p,a,k,ks,rfl,rfl,hu,hp,ha,hk,q⟩:=h
 cases rx
 cases ry
 obtain⟨xs,e1,e2,e3,d⟩:=zY I ha hk
 refine wpAny_in_heap (knd:=ft X.prog X.w) (show X.A.units+1+1<cLine from hu) (pK I hp) e2 d ?_
 rw [kg e1]
 exact⟨.bl _,H,I.tok _,rfl,q⟩
def yV:gr X (compareOp .NotIn) (F3 X true):=by
 intro pins s σ H x y v u Q I rx ry h
 obtain⟨p,a,k,ks,rfl,rfl,hu,hp,ha,hk,q⟩:=h
 cases rx
 cases ry
 obtain⟨xs,e1,e2,e3,d⟩:=zY I ha hk
 refine wpAny_notIn_heap (knd:=ft X.prog X.w) (show X.A.units+1+1<cLine from hu) (pK I hp) e2 d ?_
 rw [kg e1]
 exact⟨.bl _,H,I.tok _,rfl,q⟩
def F0(X:Cx)(td ty tv:TE):TS:=fun D σ H=>tv σ H fun v H1=>td σ H1 fun x H2=>ty σ H2 fun y H3=>∃ (p a:Addr) (k:Pr) (ks:List (Pr × Addr)),y=.ref p∧x=.ref a∧jy H3 k p∧H3 a=some (PD X.prog X.w a ks)∧(∀ z∈ks,jy H3 z.1 z.2)∧k∉ks.map (·.1)∧ks.length<sizeLine∧D.nx σ (upd H3 a (PD X.prog X.w a (ks++[(k,p)])))
def Bq{o i value:Expr}{pos pos':Pos}{td ty tv:TE}(hu:X.A.units+2<cLine)(ho:PE X o td)(hi:PE X i ty)(hv:PE X value tv)(hs:swapsWith value (some (.Subscript o i pos')) pos.line X.env=pure false) :
  PS X (.Assign [.Subscript o i pos'] value pos) (F0 X td ty tv):=by
 intro pins s σ H D I h
 refine wpAny_Assign_Subscript (bM (hv pins s σ H _ I h) fun r s1 ⟨v,H1,I1,rv,q1⟩=>bM (ho pins s1 σ H1 _ I1 q1) fun u s2 ⟨x,H2,I2,rx,q2⟩=>bM (hi pins s2 σ H2 _ I2 q2) fun iv s3 ⟨y,H3,I3,ry,p,a,k,ks,ey,ex,hp,ha,hk,hn,hl,q3⟩=>?_) hs
 subst ex
 subst ey
 obtain rfl:u=Value.ref a:=rx
 obtain rfl:iv=Value.ref p:=ry
 obtain⟨xs,e1,e2,e3,d⟩:=zY I3 ha hk
 have hno:atKey xs k=none:=by
  have:=kg (k:=k) e1
  rw [decide_eq_false hn] at this
  exact Option.not_isSome_iff_eq_none.mp (by rw [this];exact Je)
 have ll:ks.length=xs.length:=by rw [← e1,List.length_map]
 refine wpAny_setItem_heap (knd:=ft X.prog X.w) (hsz:=e3) (show X.A.units+1+1<cLine from hu) (pK I3 hp) d fun h' d' hs'=>⟨σ,_,?_,q3⟩
 rw [storedH_new hno] at d'
 have he:∃ q,h'.get? a=some q:=let ⟨q,_,_,hq,_⟩:=d';⟨q,hq⟩
 exact kU I3 (by rw [ha];exact True.intro) hs' he (C7 (by rw [List.map_append,e1];rfl) e2 (by rw [List.length_append];show xs.length+1≤_;lia) d')
def Ii(X:Cx)(te:TE):TE:=fun σ H Q=>te σ H fun v H1=>∃ a,H1 a=some (.dK [])∧Q v (upd H1 a (PD X.prog X.w a []))
def ES{e:Expr}{te:TE}(he:PE X e te):PE X e (Ii X te):=by
 intro pins s σ H Q I h
 refine bM (he pins s σ H _ I h) fun u s1 ⟨v,H1,I1,r1,a,ea,q⟩=>?_
 obtain⟨z,hd,vs,rel,o,es,ep,h1,h2,h3,_,h4,_⟩:=CU I1.hok ea
 cases rel
 have es0:es.toList=[]:=by
  have:=h4.length
  simpa using this
 have d:s1.heap.DictOfH (ft X.prog X.w) a []:=⟨o,es,ep,h1,h2,h3,es0,(fun x hx=>by simp at hx),List.nodup_nil⟩
 exact⟨v,_,I1.write (t':=s1.toks) (h':=s1.heap) (x:=a) (e:=a) (by rw [ea];exact True.intro) (.inl rfl) (fun b u _ q=>q) ⟨o,h1⟩ (C7 rfl hd (IU _) d),r1,q⟩
end
end L2
end
section
namespace L2
open PySem PySem.Spec PyProof.Rows UfSrt
def rm(H:Hp)(D:Addr):Hp:=fun b=>if b=D then none else H b
def pD{H:Hp}{D:Addr}:rm H D D=none:=if_pos rfl
def vk{H:Hp}{D b:Addr}(h:b≠D):rm H D b=H b:=if_neg h
def BF{H H':Hp}(D:Addr)(s:aq H H'):aq (rm H D) (rm H' D):=fun b o e=>by
 by_cases h:b=D
 ·subst h
  rw [pD] at e
  cases e
 ·rw [vk h] at e ⊢
  exact s b o e
def CV(H:Hp)(D:Addr):aq (rm H D) H:=fun b o e=>by
 by_cases h:b=D
 ·subst h
  rw [pD] at e
  cases e
 ·rwa [vk h] at e
end L2
end
section
namespace Uf
open PySem L2 UfSrt UfB UfTs
abbrev pM:Stmt:=inClass mQ 5
abbrev pQ:Stmt:=inClass mQ 9
def dk{T:List Nat}{i:Nat}{v:V}(h:(nats T)[i]?=some v):∃ n,T[i]?=some n∧v=nat n:=by
 unfold nats at h
 rw [List.getElem?_map] at h
 cases e:T[i]? with
 | none=>rw [e] at h;cases h
 | some n=>rw [e] at h;cases h;exact⟨n,rfl,rfl⟩
structure WA where
 p:Addr
 dx:Addr
 aS:Addr
 aO:Addr
 aN:Addr
 aW:Addr
 aG:Addr
 aB:Addr
 aT:Addr
 aP:Addr
def WA.fs(B:WA):List (Str × V):=vt B.p B.aS B.aO B.aN B.aW B.aG B.aB B.aT B.aP
def WA.l(B:WA):List Addr:=[B.aP,B.aT,B.aB,B.aG,B.aW,B.aN,B.aO,B.aS]
section
variable (B:WA)
def WA.fN:B.fs.lookup ("base_net":Str)=some (.ref B.p):=by
 unfold WA.fs vt
 repeat first | rw [ar,if_pos rfl] | rw [ar,if_neg (by decide +kernel)]
def WA.fS:B.fs.lookup ("spot_tuples":Str)=some (.ref B.aS):=(kd _ _ _ _ _ _ _ _ _).s
def WA.fT:B.fs.lookup ("taker_bits":Str)=some (.ref B.aT):=(kd _ _ _ _ _ _ _ _ _).t
def WA.fB:B.fs.lookup ("beside_bits":Str)=some (.ref B.aB):=(kd _ _ _ _ _ _ _ _ _).b
def WA.fP:B.fs.lookup ("place_bits":Str)=some (.ref B.aP):=(kd _ _ _ _ _ _ _ _ _).p
def WA.fO:B.fs.lookup ("occurrence_tuples":Str)=some (.ref B.aO):=by
 unfold WA.fs vt
 repeat first | rw [ar,if_pos rfl] | rw [ar,if_neg (by decide +kernel)]
def WA.fH:B.fs.lookup ("numbers_there":Str)=some (.ref B.aN):=by
 unfold WA.fs vt
 repeat first | rw [ar,if_pos rfl] | rw [ar,if_neg (by decide +kernel)]
def WA.fW:B.fs.lookup ("own_bits":Str)=some (.ref B.aW):=by
 unfold WA.fs vt
 repeat first | rw [ar,if_pos rfl] | rw [ar,if_neg (by decide +kernel)]
def WA.fG:B.fs.lookup ("given_bits":Str)=some (.ref B.aG):=by
 unfold WA.fs vt
 repeat first | rw [ar,if_pos rfl] | rw [ar,if_neg (by decide +kernel)]
end
abbrev mN(H:Hp):List Pr→List Addr→Prop:=Paired (jy H)
structure dw(P:Program)(w:World)(C CW:Addr)(H:Hp)(x:Addr)(B:WA)(ms:List Mv)(S:List Str)(f:WF):Prop where
 ad:AN CW H x B.dx B.fs B.aS B.aT B.aB B.aP f.W
 oc:∃ qs,H B.aO=some (.lst (qs.map V.ref))∧mN H f.oc qs∧H B.aN=some (PD P w B.aN (f.oc.zip qs))
 ow:H B.aW=some (.lst (nats f.own))
 gb:∃ gs,H B.aG=some (.lst (nats gs))∧gs.length=f.oc.length
 nd:B.l.Nodup
 net:cc C (rm H B.aP) B.p ms S
section
variable {P:Program}{w:World}{C CW x:Addr}{H H':Hp}{B:WA}{ms:List Mv}{S:List Str}{f:WF}
def dw.rB(h:dw P w C CW H x B ms S f):cc C H B.p ms S:=h.net.same (CV _ _)
theorem dw.same(h:dw P w C CW H x B ms S f)(s:aq H H'):dw P w C CW H' x B ms S f:=by
 obtain⟨qs,e1,e2,e3⟩:=h.oc
 obtain⟨gs,g1,g2⟩:=h.gb
 obtain⟨q2,i1,i2⟩:=h.ad.sp
 exact⟨⟨s _ _ h.ad.ins,⟨q2,s _ _ i1,Paired.cu i2 fun _ _ e=>s _ _ e⟩,s _ _ h.ad.tk,s _ _ h.ad.be,s _ _ h.ad.pl⟩,⟨qs,s _ _ e1,Paired.cu e2 fun _ _ e=>e.same fun _ _ e=>s _ _ e,s _ _ e3⟩,s _ _ h.ow,⟨gs,s _ _ g1,g2⟩,h.nd,h.net.same (BF _ s)⟩
end
def CQ:Sp:=fun vs H Q _=>∃ b n:Nat,vs=[nat b,nat n]∧Q (.bl (b.testBit n)) H
def Fv:aD ["bits", "number"] ["bits", "number"] (au Bz):=eR
def BK(x n:Nat):decide (V.int (Builtin.bitAnd ((x:Int) / 2 ^ ((n:Nat):Int).toNat) 1)=V.int 1)=x.testBit n:=by
 have e:((x:Int) / 2 ^ ((n:Nat):Int).toNat)=((x / 2 ^ n:Nat):Int):=by
  rw [JA]
  push_cast
  rfl
 have e2:Builtin.bitAnd ((x / 2 ^ n:Nat):Int) 1=((x / 2 ^ n &&& 1:Nat):Int):=jx (x / 2 ^ n) 1
 rw [e,e2,Jz,Jo,Nat.testBit_eq_decide_div_mod_eq,Jo,Nat.and_one_is_mod]
 constructor
 ·intro z
  have:=V.int.inj z
  lia
 ·intro z
  rw [z]
  rfl
def Em{f:Addr}{fd:FuncData}(F:dv K "has" "has" Bz f fd):bo P w K mg base cS 1 f fd ["bits", "number"] CQ:=by
 refine F.oK Fv fun cdv A outer s H vs Q E hr h=>?_
 ·obtain⟨b,n,rfl,k⟩:=h
  refine⟨_,ai (aI (cY gX (aE iF (aE pf (pv 0) (pv 1)) ak) ak (bC _))),?_⟩
  refine⟨_,rfl,_,rfl,_,_,rfl,rfl,(by lia),_,_,rfl,rfl,rfl,?_⟩
  rw [BK]
  exact k
def vg(P:Program)(w:World)(C CW:Addr):Sp:=fun vs H Q _=>∃ (x:Addr) (B:WA) (ms:List Mv) (S:List Str) (f:WF) (n:Nat),vs=[.ref x,nat n]∧dw P w C CW H x B ms S f∧n<f.W.sp.length∧Q .non H
def Bg:aD ["self", "number"] ["self", "number"] (au pM):=eR
def yY{f C CW:Addr}{fd:FuncData}(F:dv K "must_have_spot" "Web.must_have_spot" pM f fd)(T:Txt K mg)(CT:gG K CW):bo P w K mg base cS 1 f fd ["self", "number"] (vg P w C CW):=by
 refine F.oK Bg fun cdv A outer s H vs Q E hr h=>?_
 ·obtain⟨x,B,ms,S,f,n,rfl,W,hn,k⟩:=h
  refine⟨_,ai (bH (cz (sD lV vO ak (pv 1) (ay bu rfl T.len cL (aa (aM (pv 0) rfl) ae)))) (ai cV) aU),?_⟩
  obtain⟨qs,h1,h2⟩:=W.ad.sp
  have lq:=IX h2
  refine⟨_,rfl,_,_,rfl,rfl,_,rfl,?_⟩
  rw [IL (show(0:Int)≤((n:Nat):Int) by lia)]
  refine bF ⟨_,rfl,x,CW,B.dx,_,_,rfl,W.ad.ins,CT.cl,CT.nS,B.fS,_,qs.length,rfl,.inl ⟨_,aA.of h1,by rw [List.length_map]⟩,_,_,rfl,rfl,_,rfl,?_⟩
  rw [IL (show((n:Nat):Int)<((qs.length:Nat):Int) by lia)]
  exact bB k
def wD(P:Program)(w:World)(C CW:Addr):Sp:=fun vs H Q _=>∃ (x t:Addr) (fs:List (Str × V)) (dx aS aW:Addr) (f:WF) (T:List Nat),vs=[.ref x,.ref t]∧H x=some (.ins CW dx fs)∧fs.lookup ("spot_tuples":Str)=some (.ref aS)∧fs.lookup ("own_bits":Str)=some (.ref aW)∧(∃ qs,H aS=some (.lst (qs.map V.ref))∧fe H f.W.sp qs)∧H aW=some (.lst (nats f.own))∧H t=some (.tup (nats T))∧(∀ t∈T,t<f.W.sp.length)∧(∀ s g,cT f.W.sp s=some g→g<f.own.length)∧Q (nat (cE f T)) H
def jZ:aD ["self", "spots", "ahead", "spot", "giver"] ["self", "spots"] (au pQ):=eR
inductive AhI(H:Hp)(x t:Addr)(f:WF)(T:List Nat)(i:Nat)(σ:St)(H2:Hp):Prop
 | mk (v3 v4:Option V) (q0:σ=[some (.ref x),some (.ref t),some (nat (cE f (T.take i))),v3,v4]) (q1:H2=H)
def Aq{f C CW:Addr}{fd:FuncData}(F:dv K "bits_ahead" "Web.bits_ahead" pQ f fd)(CT:gG K CW):bo P w K mg base cS 1 f fd ["self", "spots"] (wD P w C CW):=by
 refine F.oK jZ fun cdv A outer s H vs Q E hr h=>?_
 ·obtain⟨x,t,fs,dx,aS,aW,f,T,rfl,ins,lS,lW,⟨qs,hqs,hp⟩,how,ht,tl,gl,kk⟩:=h
  refine⟨_,af (cB 2 jZ ak)
   (af (bq IT rfl (gR (pv 1)) (dX 3 jZ)
    (af (cB 4 jZ (bb eE (bb aR (aM (pv 0) rfl) (pv 3) (fun _ _=>rfl)) ak (fun _ _=>rfl)))
    (ai (bH (bj k8 (pv 4) ir (bC _)) (ai (cB 2 jZ (aE jY (pv 2) (bb aR (aM (pv 0) rfl) (pv 4) (fun _ _=>rfl))))) aU))))
   (ai (aI (pv 2)))),?_⟩
  have lq:=IX hp
  refine⟨_,rfl,t,rfl,⟨_,bO.of ht⟩,jV (K:=K) (a:=t) (xs:=nats T) (AhI H x t f T) ⟨none,none,rfl,rfl⟩ (fun i σ H2 _ h=>by cases h;subst_vars;exact bO.of ht) ?_ ?_⟩
  ·rintro i v σ H2 hi ⟨v3,v4,rfl,rfl⟩
   obtain⟨n,hn,rfl⟩:=dk hi
   have hlt:=tl n (IK hn)
   have hqn:qs[n]?=some (qs[n]'(by lia)):=IG (by lia)
   obtain⟨p,hpn,hq⟩:=bA hp hqn
   generalize qs[n]'(by lia)=q at hqn hq
   have eg:cT f.W.sp n=p.2:=by unfold cT;rw [hpn];rfl
   have es:cE f (T.take (i+1))=match p.2 with | some g=>cE f (T.take i) ||| f.own.getD g 0 | none=>cE f (T.take i):=by
    unfold cE
    rw [av hn,Kn,← eg]
    rfl
   refine⟨_,rfl,x,CW,dx,_,_,rfl,ins,CT.cl,CT.nS,lS,_,rfl,aS,_,_,_,rfl,rfl,aA.of hqs,bh (j:=n) (by rw [List.getElem?_map,hqn];rfl),q,_,1,_,rfl,rfl,bO.of hq,bh (j:=1) rfl,?_⟩
   have gl:=gl n
   rw [eg] at gl
   obtain⟨y,g⟩:=p
   cases g with
   | none =>
    refine⟨_,rfl,rfl,_,rfl,?_⟩
    refine bB ?_
    exact⟨_,_,by rw [es];rfl,rfl⟩
   | some g =>
    refine⟨_,rfl,rfl,_,rfl,?_⟩
    refine bF ?_
    refine⟨_,rfl,_,rfl,x,CW,dx,_,_,rfl,ins,CT.cl,CT.nW,lW,_,rfl,aW,_,_,_,rfl,rfl,aA.of how,bh (j:=g) (fQ (gl g rfl)),_,_,rfl,rfl,?_⟩
    dsimp only [nat]
    rw [gq]
    exact⟨_,_,by rw [es];rfl,rfl⟩
  ·rintro σ H2 ⟨v3,v4,rfl,rfl⟩
   rw [aX,Jc]
   exact⟨_,rfl,kk⟩
end Uf
end
section
namespace L2
open PySem PySem.Spec PyProof.Rows UfSrt
def EV{xs:List V}{p:V→Bool}{i:Nat}{x:V}(h:xs.all p=true)(e:xs[i]?=some x):p x=true:=JO.mp h x (IK e)
def iP{xs:List V}{us:List Value}(r:Vals xs us){i:Nat}{u:Value}(e:us[i]?=some u):∃ x,xs[i]?=some x∧RelV x u:=by
 have hl:=r.length
 have hi:=(IM.mp e).1
 have h1:xs[i]?=some xs[i]:=IG (by lia)
 obtain⟨w,h2,h3⟩:=r.get h1
 rw [e] at h2
 cases h2
 exact⟨_,h1,h3⟩
section
variable {X:Cx}
inductive Alike(K:PySem.W.Frag)(H:Hp):V→V→Prop
 | flat {v:V}:eX v=true→Alike K H v v
 | tup {p q:Addr} {ts:List V}:bO K H p ts→bO K H q ts→ts.all eX=true→Alike K H (.ref p) (.ref q)
def qH{v:V}(h:eX v=true):rn v v=true:=by
 cases v <;> first | rfl | exact absurd (show false=true from h) Je | (simp [rn])
def Aj{pins:List (Addr × Obj)}{s:Shared}{σ:St}{H:Hp}{A:Around}{x y:V}{u v:Value}(I:Inv X pins σ H s)(h:Alike X.K H x y)(rx:RelV x u)(ry:RelV y v)(hu:A.units<cLine):SeqAt.EqAt A s u v true:=by
 cases h with
 | flat f =>
  have:=iy (A:=A) (s:=s) rx ry f f
  rwa [qH f] at this
 | @tup p q ts h1 h2 f =>
  cases rx
  cases ry
  by_cases e:p=q
  ·subst e
   exact KW _
  ·obtain⟨its,r1,p1,_⟩:=I.tuple h1
   obtain⟨its2,r2,p2,_⟩:=I.tuple h2
   have l1:=r1.length
   have l2:=r2.length
   have:=Ls (A:=A) (e:=fun _=>true) p1 p2 hu fun j h1 h2=>by
    have h1':j<its.length:=by simpa using h1
    have h2':j<its2.length:=by simpa using h2
    obtain⟨w,e1,e2⟩:=iP r1 (IG h1')
    obtain⟨w',e3,e4⟩:=iP r2 (IG h2')
    rw [e1] at e3
    cases e3
    have fw:=EV f e1
    have:=iy (A:=A.in1) (s:=s) e2 e4 fw fw
    rwa [qH fw] at this
   have e5:((List.range (min its.toArray.size its2.toArray.size)).all (fun _=>true)&&its.toArray.size==its2.toArray.size)=true:=by
    rw [IY,IY,← l1,← l2]
    simp
   rw [e5] at this
   exact .of_refs e this
def ic{pins:List (Addr × Obj)}{s:Shared}{σ:St}{H:Hp}{A:Around}{xs ys:List V}{us vs:List Value}(I:Inv X pins σ H s)(h:Paired (Alike X.K H) xs ys)(rx:Vals xs us)(ry:Vals ys vs)(hu:A.units<cLine) :
  ∀ j (h1:j<us.toArray.size) (h2:j<vs.toArray.size),SeqAt.EqAt A s us.toArray[j] vs.toArray[j] true:=fun j h1 h2=>by
 have h1':j<us.length:=by simpa using h1
 have h2':j<vs.length:=by simpa using h2
 obtain⟨w,e1,e2⟩:=iP rx (IG h1')
 obtain⟨w',e3,e4⟩:=iP ry (IG h2')
 obtain⟨a,e5,e6⟩:=cg h e3
 rw [e1] at e5
 cases e5
 exact Aj I e6 e2 e4 hu
def AH(K:PySem.W.Frag)(b:Bool)(A:Around):R2:=fun x y H Q=>∃ p q xs ys,x=.ref p∧y=.ref q∧A.units+1<cLine∧aA K H p xs∧aA K H q ys∧Paired (Alike K H) xs ys∧Q (.bl b) H
def yR:gr X (compareOp .Eq) (AH X.K true X.A):=by
 intro pins s σ H x y v u Q I rx ry h
 obtain⟨p,q,xs,ys,rfl,rfl,hu,hp,hq,hal,k⟩:=h
 cases rx
 cases ry
 obtain⟨its,r1,p1,_⟩:=I.list hp
 obtain⟨its2,r2,p2,_⟩:=I.list hq
 have l1:=r1.length
 have l2:=r2.length
 have l3:=IX hal
 refine M6 (e:=fun _=>true) p1.isList p2.isList (by simp;lia) (by lia) (ic (A:=X.A.in1) I hal r1 r2 hu) X.prog X.w X.xe _ ⟨.bl true,H,I,?_,k⟩
 show Value.bool _=Value.bool true
 simp
def mK:gr X (compareOp .NotEq) (AH X.K false X.A):=by
 intro pins s σ H x y v u Q I rx ry h
 obtain⟨p,q,xs,ys,rfl,rfl,hu,hp,hq,hal,k⟩:=h
 cases rx
 cases ry
 obtain⟨its,r1,p1,_⟩:=I.list hp
 obtain⟨its2,r2,p2,_⟩:=I.list hq
 have l1:=r1.length
 have l2:=r2.length
 have l3:=IX hal
 refine SeqAt.RcNeAt.lists (e:=fun _=>true) p1.isList p2.isList (by simp;lia) (by lia) (ic (A:=X.A.in1) I hal r1 r2 hu) X.prog X.w X.xe _ ⟨.bl false,H,I,?_,k⟩
 show Value.bool _=Value.bool false
 simp
theorem eD{K:PySem.W.Frag}{H:Hp}:∀ {xs:List V},xs.all eX=true→Paired (Alike K H) xs xs
 | [],_=>.nil
 | x::xs,h=>by
  rw [Ma,Ka] at h
  exact .cons (.flat h.1) (eD h.2)
end
end L2
end
section
namespace Uf
open PySem L2 UfSrt UfB UfTs
abbrev pd:Stmt:=inClass mQ 7
abbrev pz:Stmt:=inClass mQ 8
def nX(f:WF)(t:Nat):Str:=((f.W.sp[t]?).map (·.1)).getD ""
def ck(B:WA)(x:Str)(h:x∉[("base_net":Str), "spot_tuples", "occurrence_tuples", "numbers_there", "own_bits", "given_bits", "beside_bits", "taker_bits", "place_bits"]):B.fs.lookup x=none:=by
 simp only [IP,Jq,Ke,Mm] at h
 obtain⟨h1,h2,h3,h4,h5,h6,h7,h8,h9⟩:=h
 unfold WA.fs vt
 rw [ar,if_neg h9,ar,if_neg h8,ar,if_neg h7,ar,if_neg h6,ar,if_neg h5,ar,if_neg h4,ar,if_neg h3,ar,if_neg h2,ar,if_neg h1]
 rfl
def wF(P:Program)(w:World)(C CW:Addr):Sp:=fun vs H Q _=>∃ (x l:Addr) (B:WA) (ms:List Mv) (S:List Str) (f:WF) (m:Mv) (T:List Nat),vs=[.ref x,.str m.1,.ref l]∧dw P w C CW H x B ms S f∧m∈ms∧H l=some (.lst (nats T))∧T.length≤4∧(∀ t∈T,t<f.W.sp.length)∧aH (T.map (nX f))=aH m.2.1∧∀ H',aq H H'→Q .non H'
def k7:aD ["self", "move", "spots", "places", "spot"] ["self", "move", "spots"] (au pd):=eR
inductive MfI(H:Hp)(x l pl:Addr)(m:Str)(i:Nat)(σ:St)(H2:Hp):Prop
 | mk (v4:Option V) (q0:σ=[some (.ref x),some (.str m),some (.ref l),some (.ref pl),v4]) (q1:H2=H)
def zt{f C CW:Addr}{fd:FuncData}(F:dv K "must_fit" "Web.must_fit" pd f fd)(T0:Txt K mg)(NC:gU K C)(CT:gG K CW)
  (DT:jI P w K mg base C "takes" "Net.takes" iz ["self", "move"] 3 (ja C (·.2.1)))
  (DS:jI P w K mg base CW "must_have_spot" "Web.must_have_spot" pM ["self", "number"] 1 (vg P w C CW)) :
  bo P w K mg base cS 4 f fd ["self", "move", "spots"] (wF P w C CW):=by
 refine F.oK k7 fun cdv A outer s H vs Q E hr h=>?_
 ·obtain⟨x,l,B,ms,S,f,m,T,rfl,W,hm,hl,l4,tl,hs,kk⟩:=h
  have hu:=dY hr
  have hsl:=Ji
  refine⟨_,af (cB 3 k7 (bZ (aM (pv 0) rfl) NC.cl DT.d.mt DT.g hr DT.d.bd .nil bz (aa (pv 1) ae)))
   (af (bq IT rfl (aK (pv 2)) (dX 4 k7)
    (ai (a9 (bZ (pv 0) CT.cl DS.d.mt DS.g (hr.mono (by decide)) DS.d.bd .nil bz (aa (pv 4) ae)))))
   (ai (bH (bj mK (ay dz rfl T0.aH cn (aa (bN (N:=["spot", "self"]) (n:=1) (ci:=[0]) rfl (aK (pv 2))
     (j6 k7)
     (fun z=>⟨jg 0,bV,bb eE (bb aR (aM (pv 1) rfl) (pv 0) (fun _ _=>rfl)) ak (fun _ _=>rfl)⟩)) ae)) (pv 3) (bC _)) (ai cV) aU))),?_⟩
  obtain⟨dn,aP,aS,aT,aG,kT,kG,n1,_⟩:=W.rB.at'.ob
  refine⟨_,rfl,x,CW,B.dx,_,_,rfl,W.ad.ins,CT.cl,CT.nN,B.fN,B.p,dn,_,rfl,n1,cW _ _ _ _ sv qK sJ qS,_,rfl,B.p,ms,S,m,rfl,W.rB,hm,fun H1 pl s1 npl hpl=>?_⟩
  have W1:=W.same s1
  have hl1:=s1 _ _ hl
  refine⟨_,rfl,l,rfl,⟨_,aA.of hl1⟩,br (K:=K) (a:=l) (xs:=nats T) (MfI H1 x l pl m.1) ⟨none,rfl,rfl⟩ (fun i σ H2 _ h=>by cases h;subst_vars;exact aA.of hl1) ?_ ?_⟩
  ·rintro i v σ H2 hi ⟨v4,rfl,rfl⟩
   obtain⟨n,hn,rfl⟩:=dk hi
   exact⟨_,rfl,x,B.dx,_,rfl,W1.ad.ins,ck B _ (by decide +kernel),_,rfl,x,B,ms,S,f,n,rfl,W1,tl n (IK hn),_,rfl,rfl⟩
  ·rintro σ H2 ⟨v4,rfl,rfl⟩
   obtain⟨qs,hqs,hp⟩:=W1.ad.sp
   have lq:=IX hp
   refine⟨_,rfl,l,rfl,⟨_,aA.of hl1⟩,fun z D hD=>cy (a:=l) (xs:=nats T) (fun i ys H3=>ys=aF ((T.take i).map (nX f))∧H3 D=some (.lst ys)∧aq H2 H3) ⟨rfl,ag,ao hD⟩ (fun i ys H3 _ p=>aA.of (p.2.2 _ _ hl1)) ?_ ?_⟩
   ·rintro i v ys H3 hi ⟨rfl,hys,s3⟩
    obtain⟨n,hn,rfl⟩:=dk hi
    have hlt:=tl n (IK hn)
    have hqn:qs[n]?=some (qs[n]'(by lia)):=IG (by lia)
    obtain⟨p,hpn,hq⟩:=bA hp hqn
    generalize qs[n]'(by lia)=q at hqn hq
    have en:nX f n=p.1:=by unfold nX;rw [hpn];rfl
    refine⟨_,rfl,x,CW,B.dx,_,_,rfl,s3 _ _ W1.ad.ins,CT.cl,CT.nS,B.fS,_,rfl,B.aS,_,_,_,rfl,rfl,aA.of (s3 _ _ hqs),bh (j:=n) (by rw [List.getElem?_map,hqn];rfl),q,_,0,_,rfl,rfl,bO.of (s3 _ _ hq),bh (j:=0) rfl,hys,?_,?_,ag,aY s3 hD⟩
    ·rw [aw,List.length_map,Jj]
     lia
    ·rw [av hn,List.map_append]
     unfold aF
     rw [List.map_append]
     show _=_++[V.str (nX f n)]
     rw [en]
   rintro ys H3 ⟨rfl,hys,s3⟩
   rw [aX,Jc] at hys
   refine⟨D,_,rfl,aA.of hys,by rw [List.length_map];lia,fun so nso=>?_⟩
   rw [hs]
   obtain⟨H4,eU,s4,hso⟩:=nE nso (.lst (aF (aH m.2.1)))
   rw [eU]
   refine⟨_,rfl,so,pl,_,_,rfl,rfl,hu,aA.of hso,aA.of ((s3.trans s4) _ _ hpl),eD (eL _),_,rfl,?_⟩
   exact bB (kk _ (s1.trans (s3.trans s4)))
def we(P:Program)(w:World)(C CW:Addr):Sp:=fun vs H Q _=>∃ (x l:Addr) (B:WA) (ms:List Mv) (S:List Str) (f:WF) (T:List Nat),vs=[.ref x,.ref l]∧dw P w C CW H x B ms S f∧f.W.be.length=f.W.sp.length∧H l=some (.lst (nats T))∧(∀ t∈T,t<f.W.sp.length)∧T.Nodup∧(∀ a∈T,∀ b∈T,a≠b→(f.W.be.getD a 0).testBit b=true)∧∀ H',aq H H'→Q .non H'
def lH:aD ["self", "spots", "at", "other", "one"] ["self", "spots"] (au pz):=eR
inductive Hy(H:Hp)(x l:Addr)(i:Nat)(σ:St)(H2:Hp):Prop
 | mk (v2 v3 v4:Option V) (q0:σ=[some (.ref x),some (.ref l),v2,v3,v4]) (q1:aq H H2)
inductive Ht(H:Hp)(x l:Addr)(v2 v3:Option V)(i:Nat)(σ:St)(H2:Hp):Prop
 | mk (v4:Option V) (q0:σ=[some (.ref x),some (.ref l),v2,v3,v4]) (q1:H2=H)
def zB{f C CW:Addr}{fd:FuncData}(F:dv K "must_stand_beside" "Web.must_stand_beside" pz f fd)(T2:Txt2 mg)(CT:gG K CW)
  (DH:gJ P w K mg base "has" Bz ["bits", "number"] 1 CQ) :
  bo P w K mg base cS 2 f fd ["self", "spots"] (we P w C CW):=by
 refine F.oK lH fun cdv A outer s H vs Q E hr h=>?_
 ·obtain⟨x,l,B,ms,S,f,T,rfl,W,bl,hl,tl,nd,sd,kk⟩:=h
  refine⟨_,ai (bq IT rfl (j0 rfl T2.enm (aa (pv 1) ae)) (dt rfl (aL (dX 2 lH) (aL (dX 3 lH) cH)))
   (ai (bq IT rfl (aK (dU fZ (pv 1) gh (eK (pv 2)))) (dX 4 lH)
    (ai (bH (cz (cf (eA DH hr (aa (bb aR (aM (pv 0) rfl) (pv 4) (fun _ _=>rfl)) (aa (pv 3) ae))))) (ai cV) aU))))),?_⟩
  refine⟨_,rfl,l,rfl,⟨_,aA.of hl⟩,hU (K:=K) (a:=l) (xs:=nats T) (Hy H x l) ⟨none,none,none,rfl,fun _ _ e=>e⟩ (fun i σ H2 _ h=>by obtain⟨_,_,_,_,s⟩:=h;exact aA.of (s _ _ hl)) ?_ ?_⟩
  ·rintro i v p σ H2 hi ⟨v2,v3,v4,rfl,s2⟩ np
   obtain⟨n,hn,rfl⟩:=dk hi
   obtain⟨H3,eU,s3,hp⟩:=nE np (.tup [.int (i:Int),nat n])
   rw [eU]
   have s03:=s2.trans s3
   have cut:ix (nats T) none (some (i:Int))=nats (T.take i):=by
    rw [Fo]
    unfold nats
    rw [NG]
   refine⟨p,_,rfl,bO.of hp,rfl,_,_,rfl,_,_,rfl,rfl,?_⟩
   refine⟨_,rfl,_,rfl,_,rfl,l,_,rfl,aA.of (s03 _ _ hl),fun c nc=>?_⟩
   rw [cut]
   obtain⟨H4,eU,s4,hc⟩:=nE nc (.lst (nats (T.take i)))
   rw [eU]
   have W4:=W.same (s03.trans s4)
   refine⟨c,rfl,⟨_,aA.of hc⟩,br (K:=K) (a:=c) (xs:=nats (T.take i)) (Ht H4 x l _ _) ⟨_,rfl,rfl⟩ (fun j σ H5 _ h=>by cases h;subst_vars;exact aA.of hc) ?_ ?_⟩
   ·rintro j v σ H5 hj ⟨v4,rfl,rfl⟩
    obtain⟨k,hk,rfl⟩:=dk hj
    have hk':k∈T.take i:=IK hk
    have kT:=Kb hk'
    have ne:k≠n:=fun z=>by
     obtain⟨j',hj',e⟩:=List.mem_take_iff_getElem.mp hk'
     have e1:T[j']?=some n:=by rw [IG (by lia),e,z]
     have:=(List.getElem?_inj (by lia) nd).mp (e1.trans hn.symm)
     lia
    refine⟨_,rfl,x,CW,B.dx,_,_,rfl,W4.ad.ins,CT.cl,CT.nB,B.fB,_,rfl,B.aB,_,_,_,rfl,rfl,aA.of W4.ad.be,bh (j:=k) (fQ (by rw [bl];exact tl k kT)),_,rfl,_,n,rfl,_,rfl,?_⟩
    rw [sd k kT n (IK hn) ne]
    exact bB ⟨_,rfl,rfl⟩
   ·rintro σ H5 ⟨v4,rfl,rfl⟩
    exact⟨_,_,_,rfl,s03.trans s4⟩
  ·rintro σ H2 ⟨v2,v3,v4,rfl,s2⟩
   exact kk _ s2
end Uf
end
section
namespace Uf
open PySem L2 UfB UfSrt UfM
def yl(f:WF)(x:Str):Nat:=((f.W.pl.find? fun p=>decide (p.1=x)).map (·.2)).getD 0
def eY(W:nC):Prop:=∀ p∈W.pl,∀ s,p.2.testBit s=true↔(W.sp[s]?).map (·.1)=some p.1
def yf{W:nC}{g:Option Nat}{b:Nat}{x:Str}(h:eY W):eY (eC g (W,b) x).1:=by
 intro p hp s
 have hp:p∈iU W.pl x W.sp.length:=hp
 show p.2.testBit s=true↔((W.sp++[(x,g)])[s]?).map (·.1)=some p.1
 unfold iU at hp
 obtain⟨q,hq,rfl⟩:=IV.mp hp
 have hs:=h q hq s
 by_cases e:q.1=x
 ·rw [if_pos e,Lw,Mr,KA,Jo,hs]
  by_cases l:s<W.sp.length
  ·rw [Jx l]
   constructor
   ·rintro(z | z)
    ·exact z
    ·lia
   ·exact .inl
  ·rw [JW (by lia),Jm (by lia)]
   by_cases l2:s=W.sp.length
   ·subst l2
    rw [Ms]
    simp [e]
   ·rw [Jm (by simp;lia)]
    simp
    lia
 ·rw [if_neg e,hs]
  by_cases l:s<W.sp.length
  ·rw [Jx l]
  ·rw [JW (by lia),Jm (by lia)]
   by_cases l2:s=W.sp.length
   ·subst l2
    rw [Ms]
    simp
    exact fun z=>e z.symm
   ·rw [Jm (by simp;lia)]
theorem ky{g:Option Nat}:∀ (xs:List Str) (p:nC × Nat),eY p.1→eY (bp g p xs).1
 | [],_,h=>h
 | x::xs,p,h=>ky xs (eC g p x) (yf (W:=p.1) (b:=p.2) h)
def uX{f:WF}{m:Str}{T:List Nat}{gs:List Str}(h:eY f.W):eY (dJ f m T gs).W:=ky gs _ h
def wx{f:WF}(h:eY f.W){x:Str}(hx:x∈f.W.pl.map (·.1))(s:Nat):(yl f x).testBit s=true↔(f.W.sp[s]?).map (·.1)=some x:=by
 unfold yl
 cases e:f.W.pl.find? fun p=>decide (p.1=x) with
 | none =>
  obtain⟨p,hp,rfl⟩:=IV.mp hx
  have:=Ll.mp e p hp
  simp at this
 | some p =>
  have h1:=List.mem_of_find?_eq_some e
  have h2:p.1=x:=by have:=List.find?_some e;simpa using this
  rw [← h2]
  exact h p h1 s
abbrev Ch:=List Nat × Nat
def CL(f:WF)(x:Str)(c:Ch):List Ch:=(mem (c.2 &&& yl f x)).map fun s=>(c.1++[s],c.2 &&& f.W.be.getD s 0)
def iS(f:WF)(x:Str)(cs:List Ch):List Ch:=cs.flatMap (CL f x)
def xq(f:WF)(xs:List Str):List Ch:=xs.foldl (fun cs x=>iS f x cs) [([],2 ^ f.W.sp.length-1)]
structure ub(f:WF)(xs:List Str)(c:Ch):Prop where
 lt:∀ t∈c.1,t<f.W.sp.length
 nd:c.1.Nodup
 nm:c.1.map (nX f)=xs
 side:∀ a∈c.1,∀ b∈c.1,a≠b→(f.W.be.getD a 0).testBit b=true
 b:∀ s,c.2.testBit s=true↔s<f.W.sp.length∧∀ t∈c.1,(f.W.be.getD t 0).testBit s=true
def vy{f:WF}{xs:List Str}{c:Ch}(h:ub f xs c):c.2<2 ^ f.W.sp.length:=by
 refine LM _ fun i hi=>?_
 cases e:c.2.testBit i with
 | false=>rfl
 | true =>
  have:=((h.b i).mp e).1
  lia
def xK{f:WF}(gd:Good f)(gp:eY f.W){xs:List Str}{x:Str}(hx:x∈f.W.pl.map (·.1)){c d:Ch}(h:ub f xs c)(hd:d∈CL f x c):ub f (xs++[x]) d:=by
 obtain⟨s,hs,rfl⟩:=IV.mp hd
 have i9:=gd.i9
 have b256:(c.2 &&& yl f x)<2 ^ 256:=Jt Nj (IW (vy h) (Jr (by decide) (by lia)))
 have hb:=(mem_iff b256).mp hs
 rw [Ln,Ka] at hb
 obtain⟨s1,s2⟩:=(h.b s).mp hb.1
 have s3:=(wx gp hx s).mp hb.2
 have sym:∀ {a b:Nat},a<f.W.sp.length→b<f.W.sp.length→(f.W.be.getD a 0).testBit b=true→(f.W.be.getD b 0).testBit a=true:=fun {a b} ha hb z=>by
  obtain⟨z1,z2⟩:=(gd.be a b ha hb).mp z
  exact(gd.be b a hb ha).mpr ⟨fun q=>z1 q.symm,z2.symm⟩
 have irr:(f.W.be.getD s 0).testBit s≠true:=fun z=>((gd.be s s s1 s1).mp z).1 rfl
 have ns:s∉c.1:=fun z=>irr (s2 s z)
 refine⟨fun t ht=>?_,?_,?_,fun a ha b hb' n=>?_,fun t=>?_⟩
 ·rcases Ja.mp ht with z | z
  ·exact h.lt t z
  ·have:t=s:=by simpa using z
   rw [this];exact s1
 ·refine JT.mpr ⟨h.nd,by simp,fun a ha b hb'=>?_⟩
  have:b=s:=by simpa using hb'
  rw [this]
  rintro rfl
  exact ns ha
 ·rw [List.map_append,h.nm]
  show xs++[nX f s]=_
  unfold nX
  rw [s3]
  rfl
 ·have hA:a∈c.1∨a=s:=by simpa using ha
  have hB:b∈c.1∨b=s:=by simpa using hb'
  clear ha hb'
  rcases hA with hA | hA
  ·rcases hB with hB | hB
   ·exact h.side a hA b hB n
   ·rw [hB]
    exact s2 a hA
  ·rcases hB with hB | hB
   ·rw [hA]
    exact sym (h.lt b hB) s1 (s2 b hB)
   ·exact absurd (hA.trans hB.symm) n
 ·show(c.2 &&& f.W.be.getD s 0).testBit t=true↔_
  rw [Ln,Ka,h.b t]
  simp only [Ja,Jd]
  constructor
  ·rintro⟨⟨z1,z2⟩,z3⟩
   exact⟨z1,fun u hu=>hu.elim (z2 u) fun e=>by rw [e];exact z3⟩
  ·rintro⟨z1,z2⟩
   exact⟨⟨z1,fun u hu=>z2 u (.inl hu)⟩,z2 s (.inr rfl)⟩
theorem oh{f:WF}(gd:Good f)(gp:eY f.W):∀ (ys xs:List Str) (cs:List Ch),(∀ y∈ys,y∈f.W.pl.map (·.1))→(∀ c∈cs,ub f xs c)→∀ c∈ys.foldl (fun cs x=>iS f x cs) cs,ub f (xs++ys) c
 | [],xs,cs,_,h=>by
  rw [Lg]
  exact h
 | y::ys,xs,cs,hy,h=>by
  rw [JD,show xs++y::ys=(xs++[y])++ys by simp]
  refine oh gd gp ys (xs++[y]) (iS f y cs) (fun z hz=>hy z (List.mem_cons_of_mem _ hz)) fun d hd=>?_
  obtain⟨c,hc,hd⟩:=Me.mp hd
  exact xK gd gp (hy y List.mem_cons_self) (h c hc) hd
def md{f:WF}(gd:Good f)(gp:eY f.W){xs:List Str}(hx:∀ y∈xs,y∈f.W.pl.map (·.1)):∀ c∈xq f xs,ub f xs c:=by
 refine oh gd gp xs [] _ hx fun c hc=>?_
 have:c=([],2 ^ f.W.sp.length-1):=by simpa using hc
 subst this
 refine⟨fun t ht=>(by simp at ht),.nil,rfl,fun a ha=>(by simp at ha),fun s=>?_⟩
 show(2 ^ f.W.sp.length-1).testBit s=true↔_
 rw [KS]
 simp
def cnt(f:WF)(x:Str):Nat:=((List.range f.W.sp.length).filter fun i=>decide ((f.W.sp[i]?).map (·.1)=some x)).length
theorem two_le{α:Type}{p q:α→Bool}(h:∀ a,p a=true→q a=true→False):∀ l:List α,(l.filter p).length+(l.filter q).length≤l.length
 | []=>by simp
 | a::l=>by
  have ih:=two_le h l
  have ha:=h a
  rw [La,La,Jh]
  cases e1:p a <;> cases e2:q a
  ·simp;lia
  ·simp;lia
  ·simp;lia
  ·exact(ha e1 e2).elim
def By(f:WF){x y:Str}(h:x≠y):cnt f x+cnt f y≤f.W.sp.length:=by
 have:=two_le (p:=fun i=>decide ((f.W.sp[i]?).map (·.1)=some x)) (q:=fun i=>decide ((f.W.sp[i]?).map (·.1)=some y)) (fun a h1 h2=>by
  have h1:=JF h1
  have h2:=JF h2
  rw [h1] at h2
  exact h (Jk h2)) (List.range f.W.sp.length)
 rw [List.length_range] at this
 exact this
def ER(f:WF)(x:Str):cnt f x≤f.W.sp.length:=Jf (JB _ _) (by rw [List.length_range];exact II _)
def BM{f:WF}(gp:eY f.W){x:Str}(hx:x∈f.W.pl.map (·.1))(b:Nat):(mem (b &&& yl f x)).length≤cnt f x:=by
 unfold mem cnt
 refine(List.Nodup.length_le_of_subset (Md.filter _) fun i hi=>?_)
 have hb:=(Jl.mp hi).2
 rw [Ln,Ka] at hb
 have:=(wx gp hx i).mp hb.2
 refine Jl.mpr ⟨JK.mpr ?_,IL this⟩
 refine M4 fun z=>?_
 rw [Jm z] at this
 cases this
theorem dW{f:WF}(gp:eY f.W){x:Str}(hx:x∈f.W.pl.map (·.1)):∀ cs:List Ch,(iS f x cs).length≤cs.length*cnt f x
 | []=>by simp [iS]
 | c::cs=>by
  have ih:=dW gp hx cs
  have:(iS f x (c::cs)).length=(CL f x c).length+(iS f x cs).length:=by unfold iS;rw [List.flatMap_cons,List.length_append]
  rw [this,Jh,Nat.succ_mul]
  have:(CL f x c).length≤cnt f x:=by unfold CL;rw [List.length_map];exact BM gp hx _
  lia
def Cq{a b n:Nat}(h:a+b≤n):4*(a*b)≤n*n:=by
 have h1:(a+b)*(a+b)≤n*n:=MC h h
 have h2:4*(a*b)≤(a+b)*(a+b):=by
  rcases NS a b with z | z
  ·obtain⟨c,rfl⟩:=L3 z
   have:(a+(a+c))*(a+(a+c))=4*(a*(a+c))+c*c:=by grind
   lia
  ·obtain⟨c,rfl⟩:=L3 z
   have:(b+c+b)*(b+c+b)=4*((b+c)*b)+c*c:=by grind
   lia
 lia
def qd{f:WF}(gp:eY f.W)(n68:f.W.sp.length≤68):∀ {ys:List Str},ys.Nodup→ys.length≤4→(∀ y∈ys,y∈f.W.pl.map (·.1))→(xq f ys).length≤1336336:=by
 have two:∀ {a b:Str},a≠b→cnt f a*cnt f b≤1156:=fun {a b} h=>by
  have:=Cq (By f h)
  have:f.W.sp.length*f.W.sp.length≤68*68:=MC n68 n68
  lia
 have one:∀ a,cnt f a≤68:=fun a=>Jf (ER f a) n68
 intro ys nd l4 hy
 unfold xq
 match ys,nd,l4,hy with
 | [],_,_,_=>simp
 | [a],_,_,hy =>
  have:=dW gp (hy a (by simp)) [([],2 ^ f.W.sp.length-1)]
  have:=one a
  simp only [JD,MD,J5] at *
  lia
 | [a,b],nd,_,hy =>
  have nab:a≠b:=by simp at nd;exact nd
  have h1:=dW gp (hy a (by simp)) [([],2 ^ f.W.sp.length-1)]
  have h2:=dW gp (hy b (by simp)) (iS f a [([],2 ^ f.W.sp.length-1)])
  have h3:=two nab
  simp only [JD,MD,J5,NU] at *
  have:=K6 (cnt f b) h1
  lia
 | [a,b,c],nd,_,hy =>
  have nab:a≠b:=by simp at nd;exact nd.1.1
  have h1:=dW gp (hy a (by simp)) [([],2 ^ f.W.sp.length-1)]
  have h2:=dW gp (hy b (by simp)) (iS f a [([],2 ^ f.W.sp.length-1)])
  have h4:=dW gp (hy c (by simp)) (iS f b (iS f a [([],2 ^ f.W.sp.length-1)]))
  have h3:=two nab
  simp only [JD,MD,J5,NU] at *
  have h5:=K6 (cnt f b) h1
  have h6:(iS f b (iS f a [([],2 ^ f.W.sp.length-1)])).length≤1156:=by lia
  have:=MC h6 (one c)
  lia
 | [a,b,c,d],nd,_,hy =>
  have nab:a≠b:=by simp at nd;exact nd.1.1
  have ncd:c≠d:=by simp at nd;exact nd.2.2
  have h1:=dW gp (hy a (by simp)) [([],2 ^ f.W.sp.length-1)]
  have h2:=dW gp (hy b (by simp)) (iS f a [([],2 ^ f.W.sp.length-1)])
  have h4:=dW gp (hy c (by simp)) (iS f b (iS f a [([],2 ^ f.W.sp.length-1)]))
  have h7:=dW gp (hy d (by simp)) (iS f c (iS f b (iS f a [([],2 ^ f.W.sp.length-1)])))
  have h3:=two nab
  have h8:=two ncd
  simp only [JD,MD,J5,NU] at *
  have h5:=K6 (cnt f b) h1
  have h6:(iS f b (iS f a [([],2 ^ f.W.sp.length-1)])).length≤1156:=by lia
  have h9:=K6 (cnt f d) h4
  have h10:(iS f b (iS f a [([],2 ^ f.W.sp.length-1)])).length*cnt f c*cnt f d≤1156*1156:=by
   rw [Nat.mul_assoc]
   exact MC h6 h8
  lia
 | a::b::c::d::e::r,_,l4,_=>simp at l4
end Uf
end
section
namespace UfTs
open PySem PySem.Spec PyProof.Rows
def tW{l:Addr}{vs:List Value}{Q:Value→Shared→Prop}(hl:IsTup s.heap l vs.toArray){ns:List Int}(hI:IntsAre vs ns)(h64:vs.length<64)
  (h:∀ (h1 h':Heap) (D:Addr) (out:Array Value) n,(∀ b o,s.heap.get? b=some o→h1.get? b=some o)→(∀ b o,h1.get? b=some o→h'.get? b=some o)→h1.objs.size≤D→h'.get? D=some (seqObj "list" out n)→(∃ ns',IntsAre out.toList ns'∧ns'.Perm ns∧ns'.Pairwise (·≤·))→Q (.ref D) { s with heap:=h' }):wpAny (model prog w) A (call (.builtin "sorted") [.ref l]) Q E s:=by
 have hz:vs.length≤sizeLine:=by rw [sizeLine_eq];lia
 obtain⟨o,ho,hc,n,hd⟩:=hl
 refine K4 kind_sorted MY MZ (M0 _) ?_
 unfold Builtin.«sorted»
 refine IE (m:=checkCount "sorted" 1 1 _) (wpAny_pure ?_)
 refine IE (wpAny_collect_seq l (.inr rfl) ho hc hd (fun h1 k0=>?_) (by simpa using hz))
 show wpAny _ _ (newList vs >>= _) _ _ _
 refine IE (Mb ?_ hz)
 have hoL:(h1.push (seqObj "list" vs.toArray 0)).get? h1.objs.size=some (seqObj "list" vs.toArray 0):=IQ _ rfl
 refine IE (JI (Kj Mx ⟨_,hoL,rfl⟩ Mj (list_sort_tree hoL hI h64 fun out ns' o1 o2 o3=>⟨_,rfl,?_⟩) (My _)))
 obtain⟨e,he⟩:=MN (h:=h1.push (seqObj "list" vs.toArray 0)) (a:=h1.objs.size) (vs:=vs) (n:=0) (out:=out) hoL
 refine wpAny_pure ⟨_,rfl,h h1 _ _ out e k0 (fun b o hb1=>?_) (II _) he ⟨ns',o1,o2,o3⟩⟩
 rw [Mz (IS (IJ hb1)) (by rw [Lj];exact Jp (IJ hb1))]
 exact IF _ hb1
end UfTs
namespace L2
open PySem PySem.Spec PyProof.Rows UfB Uf
section
variable {X:Cx}
def Dp(K:PySem.W.Frag):List V→Hp→VK→Prop:=fun xs H Q=>∃ l T,xs=[.ref l]∧bO K H l (nats T)∧T.length<64∧∀ p,H p=none→Q (.ref p) (upd H p (.lst (nats (bQ T))))
def uT:dM X (.builtin "sorted") (Dp X.K):=by
 intro pins s σ H xs us Q I r h
 obtain⟨l,T,rfl,hl,hz,q⟩:=h
 obtain⟨u,rfl,ru⟩:=vals1 r
 cases ru
 obtain⟨its,rv,pl,_⟩:=I.tuple hl
 rw [fm] at rv
 have i1:=intsAre_of rv
 have l1:its.length=T.length:=by
  have:=rv.length
  rw [List.length_map,List.length_map] at this
  exact this.symm
 refine UfTs.tW pl i1 (by lia) fun h1 h' D out n k1 kp nw at' ⟨ns',o1,o2,o3⟩=>?_
 have e:ns'=(bQ T).map (fun n:Nat=>(n:Int)):=by
  refine K9 (fun a b _ _ h1 h2=>Int.le_antisymm h1 h2) o3 ?_ (o2.trans ((c6 T).map _).symm)
  exact Lr.mpr ((kX T).imp fun h=>Int.ofNat_le.mpr h)
 subst e
 have hv:=kA o1
 rw [← fm] at hv
 have hlen:(nats (bQ T)).length≤sizeLine:=by rw [aX,iA,sizeLine_eq];lia
 have I1:Inv X pins σ H { s with heap:=h1 }:=I.kept (t':=s.toks) k1
 exact⟨.ref D,_,I1.laid (o:=.lst (nats (bQ T))) (t':=s.toks) kp nw (show bJ X.prog X.w _ h' D (.lst (nats (bQ T))) from⟨hlen,out.toList,n,hv,by rw [LA];exact at'⟩),rfl,q _ (I1.hok.fresh nw)⟩
end
end L2
end
section
namespace L2
open PySem PySem.Spec PyProof.Rows UfSrt
section
variable {X:Cx}
def Fy(K:PySem.W.Frag):R2:=fun x y H Q=>∃ a b xs ys,x=.ref a∧y=.ref b∧bO K H a xs∧bO K H b ys∧xs.length+ys.length≤1000∧∀ H' r,aq H H'→bO K H' r (xs++ys)→Q (.ref r) H'
def Bk:gr X (binaryOp .Add) (Fy X.K):=by
 intro pins s σ H x y v u Q I rx ry h
 obtain⟨a,b,xs,ys,rfl,rfl,ha,hb,hz,q⟩:=h
 have hsl:=sizeLine_eq
 by_cases hx:xs=[]
 ·subst hx
  cases rx
  cases ry
  obtain⟨its,r1,p1,_⟩:=I.tuple ha
  obtain⟨its2,r2,p2,_⟩:=I.tuple hb
  cases r1
  obtain⟨⟨cls,dd,data,sl⟩,ho,hc,n,hd⟩:=id p1
  obtain⟨⟨cls2,dd2,data2,sl2⟩,ho2,hc2,n2,hd2⟩:=id p2
  simp only at hc hd hc2 hd2
  subst hc hd hc2 hd2
  exact concat_meets ⟨_,ho,rfl⟩ ⟨_,ho2,rfl⟩ MU NB L9 L1 (LQ _ _)
   (tuple_addW0 a b #[] its2.toArray n n2 dd dd2 sl sl2 rfl) ⟨ho,ho2,⟨.ref b,H,I,rfl,q H b (aq.refl _) hb⟩⟩
 ·refine BN pins s σ H _ _ _ _ Q I rx ry ⟨a,b,xs,ys,rfl,rfl,ha,hb,hx,by lia,fun hy=>q H a (aq.refl _) (by rw [hy,Lg];exact ha),fun _ p np=>q _ p (fun c o e=>?_) (bO.of ag)⟩
  rw [ah (aj e np)]
  exact e
end
end L2
end
section
namespace Uf
open PySem L2 UfB
def Bi{f C:Addr}{fd:FuncData}(F:dv K "add_spots" "Web.add_spots" xQ f fd)(T:Txt K mg)(CT:gG K C)(DM:gJ P w K mg base "members" gE ["bits"] 1 iN)
  (DB:gJ P w K mg base "bit" u7 ["number"] 1 sP):bo P w K mg base cS 2 f fd ["self", "places", "giver", "beside"] (wu C .lst):=by
 refine F.oK iX fun cdv A outer s H vs Q E hr h=>?_
 ·obtain⟨x,dx,pa,aS,aT,aB,aP,fs,W,g,b,xs,rfl,fa,nST,nSB,nTB,hW,hpa,npa,hfit,kk⟩:=h
  have hsl:=Ji
  have hu:=dY hr
  refine⟨_,ai (bq IT rfl (aK (pv 1)) (dX 4 iX)
   (af (cB 5 iX (ay bu rfl T.len cL (aa (aM (pv 0) rfl) ae)))
   (af (a9 (cR Jb IZ I0 aV (aM (pv 0) rfl) (aa (fD (aa (pv 4) (aa (pv 2) ae))) ae)))
   (af (a9 (cR Jb IZ I0 aV (aM (pv 0) rfl) (aa ak ae)))
   (af (a9 (cR Jb IZ I0 aV (aM (pv 0) rfl) (aa (pv 3) ae)))
   (af (bq IT rfl (aK (eA DM hr (aa (pv 3) ae))) (dX 6 iX)
    (ai (jo (aE jY (bb aR (aM (pv 0) rfl) (pv 6) (fun _ _=>rfl)) (eA DB hr (aa (pv 5) ae))) (qw (aM (pv 0) rfl) (pv 6) set_list))))
   (af (fX hu (aM (pv 0) rfl) (pv 4) (aE jY (fh hu (aM (pv 0) rfl) (pv 4) (fun _ _=>rfl)) (eA DB hr (aa (pv 5) ae))) rfl)
   (ai (cB 3 iX (aE jY (pv 3) (eA DB hr (aa (pv 5) ae)))))))))))),?_⟩
  clear hu
  dsimp only [iR,Cx.vG]
  have nT:pa≠aS∧pa≠aT∧pa≠aB∧pa≠aP:=by simpa using npa
  refine⟨_,rfl,pa,rfl,⟨_,aA.of hpa⟩,br (K:=K) (a:=pa) (xs:=aF xs) (Fb C H x dx pa aS aT aB aP fs W g b xs)
   ⟨none,none,none,rfl,hW,fun _ _ z _=>z⟩ (fun i σ H2 _ h=>aA.of (h.but pa _ hpa npa)) ?_ ?_⟩
  ·rintro i v σ H2 hi ⟨v4,v5,v6,rfl,hA,but⟩
   obtain⟨z,hz,rfl⟩:=cZ hi
   have hil:=(IM.mp hz).1
   have etk:=av hz
   have fit:jC (bp g (W,b) (xs.take i)) (z::xs.drop (i+1)):=by
    refine jC.El (g:=g) ?_
    have e:xs.take i++z::xs.drop (i+1)=xs:=by
     have:=Kg (i+1) xs
     rw [etk,List.append_assoc] at this
     exact this
    rw [e]
    exact hfit
   have ep:bp g (W,b) (xs.take (i+1))=eC g (bp g (W,b) (xs.take i)) z:=by rw [etk,iu]
   have goal:∀ H',AN C H' x dx fs aS aT aB aP (eC g (bp g (W,b) (xs.take i)) z).1→gP [aS,aT,aB,aP] H H'→∀ v4 v5 v6,Fb C H x dx pa aS aT aB aP fs W g b xs (i+1) [some (.ref x),some (.ref pa),some (gv g),some (nat (eC g (bp g (W,b) (xs.take i)) z).2),v4,v5,v6] H':=fun H' h1 h2 v4 v5 v6=>⟨v4,v5,v6,by rw [ep],by rw [ep];exact h1,h2⟩
   generalize bp g (W,b) (xs.take i)=p at hA fit goal ⊢
   clear ep etk hi hz hil
   obtain⟨⟨sp,tk,be,pl⟩,b1⟩:=p
   obtain⟨ins,⟨qs,hS,hq⟩,hT,hB,hP⟩:=hA
   have lq:qs.length=sp.length:=(IX hq).symm
   have f1:tk.length=sp.length:=fit.tk
   have f2:be.length=sp.length:=fit.be
   have f3:b1<2 ^ sp.length:=fit.lt
   have f4:sp.length+(z::xs.drop (i+1)).length≤250:=fit.i9
   rw [Jh] at f4
   have f5:z∈pl.map (·.1):=fit.key z List.mem_cons_self
   have f6:(pl.map (·.1)).Nodup:=fit.nd
   have f7:pl.length≤12:=fit.sm
   dsimp only at hS hq hT hB hP
   refine⟨_,rfl,x,C,dx,_,_,rfl,ins,CT.cl,CT.nS,fa.s,_,sp.length,rfl,.inl ⟨_,aA.of hS,by rw [List.length_map,lq]⟩,?_⟩
   refine⟨_,rfl,x,C,dx,_,_,rfl,ins,CT.cl,CT.nS,fa.s,.inl ⟨rfl,_,aA.of hS⟩,_,rfl,_,rfl,by show 2≤sizeLine;lia,fun q nq=>?_⟩
   obtain⟨H3,eU,s3,hq3⟩:=nE nq (.tup [.str z,gv g])
   rw [eU]
   have hS3:=s3 _ _ hS
   have sq3:fe H3 (sp++[(z,g)]) (qs++[q]):=JZ (Paired.cu hq fun p q e=>s3 _ _ e) hq3
   refine⟨aS,_,_,rfl,rfl,hS3,by rw [List.length_map];lia,?_⟩
   have es:qs.map V.ref++[V.ref q]=(qs++[q]).map V.ref:=by rw [List.map_append];rfl
   rw [es]
   have xS:x≠aS:=aJ ins hS (fun z=>nomatch z)
   have xT:x≠aT:=aJ ins hT (fun z=>nomatch z)
   have xB:x≠aB:=aJ ins hB (fun z=>nomatch z)
   have xP:x≠aP:=aJ ins hP (fun z=>nomatch z)
   have SP:aS≠aP:=aJ hS hP (fun z=>nomatch z)
   have TP:aT≠aP:=aJ hT hP (fun z=>nomatch z)
   have BP:aB≠aP:=aJ hB hP (fun z=>nomatch z)
   have b4:gP [aS,aT,aB,aP] H (upd H3 aS (.lst ((qs++[q]).map V.ref))):=(but.same s3).upd (by simp)
   have i4:(upd H3 aS (.lst ((qs++[q]).map V.ref))) x=some (.ins C dx fs):=by rw [ah xS];exact s3 _ _ ins
   have S4:(upd H3 aS (.lst ((qs++[q]).map V.ref))) aS=some (.lst ((qs++[q]).map V.ref)):=ag
   have T4:(upd H3 aS (.lst ((qs++[q]).map V.ref))) aT=some (.lst (nats tk)):=by rw [ah nST.symm];exact s3 _ _ hT
   have B4:(upd H3 aS (.lst ((qs++[q]).map V.ref))) aB=some (.lst (nats be)):=by rw [ah nSB.symm];exact s3 _ _ hB
   have P4:(upd H3 aS (.lst ((qs++[q]).map V.ref))) aP=some (.dK (iH pl)):=by rw [ah SP.symm];exact s3 _ _ hP
   have q4:=fe.put (o':=.lst ((qs++[q]).map V.ref)) sq3 hS3
   generalize upd H3 aS (.lst ((qs++[q]).map V.ref))=H4 at b4 i4 S4 T4 B4 P4 q4 ⊢
   refine⟨_,rfl,x,C,dx,_,_,rfl,i4,CT.cl,CT.nT,fa.t,.inl ⟨rfl,_,aA.of T4⟩,aT,_,_,rfl,rfl,T4,by rw [aX];lia,?_⟩
   have et:nats tk++[V.int 0]=nats (tk++[0]):=fq tk 0
   rw [et]
   have b5:=b4.upd (a:=aT) (o:=.lst (nats (tk++[0]))) (by simp)
   have i5:(upd H4 aT (.lst (nats (tk++[0])))) x=some (.ins C dx fs):=by rw [ah xT];exact i4
   have S5:(upd H4 aT (.lst (nats (tk++[0])))) aS=some (.lst ((qs++[q]).map V.ref)):=by rw [ah nST];exact S4
   have T5:(upd H4 aT (.lst (nats (tk++[0])))) aT=some (.lst (nats (tk++[0]))):=ag
   have B5:(upd H4 aT (.lst (nats (tk++[0])))) aB=some (.lst (nats be)):=by rw [ah nTB.symm];exact B4
   have P5:(upd H4 aT (.lst (nats (tk++[0])))) aP=some (.dK (iH pl)):=by rw [ah TP.symm];exact P4
   have q5:=fe.put (o':=.lst (nats (tk++[0]))) q4 T4
   generalize upd H4 aT (.lst (nats (tk++[0])))=H5 at b5 i5 S5 T5 B5 P5 q5 ⊢
   refine⟨_,rfl,x,C,dx,_,_,rfl,i5,CT.cl,CT.nB,fa.b,.inl ⟨rfl,_,aA.of B5⟩,_,rfl,aB,_,_,rfl,rfl,B5,by rw [aX];lia,?_⟩
   rw [fq]
   have b6:=b5.upd (a:=aB) (o:=.lst (nats (be++[b1]))) (by simp)
   have i6:(upd H5 aB (.lst (nats (be++[b1])))) x=some (.ins C dx fs):=by rw [ah xB];exact i5
   have S6:(upd H5 aB (.lst (nats (be++[b1])))) aS=some (.lst ((qs++[q]).map V.ref)):=by rw [ah nSB];exact S5
   have T6:(upd H5 aB (.lst (nats (be++[b1])))) aT=some (.lst (nats (tk++[0]))):=by rw [ah nTB];exact T5
   have B6:(upd H5 aB (.lst (nats (be++[b1])))) aB=some (.lst (nats (be++[b1]))):=ag
   have P6:(upd H5 aB (.lst (nats (be++[b1])))) aP=some (.dK (iH pl)):=by rw [ah BP.symm];exact P5
   have q6:=fe.put (o':=.lst (nats (be++[b1]))) q5 B5
   generalize upd H5 aB (.lst (nats (be++[b1])))=H6 at b6 i6 S6 T6 B6 P6 q6 ⊢
   have b256:b1<2 ^ 256:=IW f3 (Jr (by decide) (by lia))
   refine⟨_,rfl,b1,rfl,b256,fun H7 ml s7 nml hml=>?_⟩
   have mB:ml≠aB:=(aj B6 nml).symm
   have b7:=b6.same s7
   have i7:=s7 _ _ i6
   have S7:=s7 _ _ S6
   have T7:=s7 _ _ T6
   have B7:=s7 _ _ B6
   have P7:=s7 _ _ P6
   have q7:fe H7 (sp++[(z,g)]) (qs++[q]):=Paired.cu q6 fun p q e=>s7 _ _ e
   clear s7 nml
   refine⟨ml,rfl,⟨_,aA.of hml⟩,br (K:=K) (a:=ml) (xs:=nats (mem b1)) (AdJ H7 x pa aB ml g b1 sp.length z (be++[b1]))
    ⟨_,rfl,?_⟩ (fun j σ H8 _ h=>?_) ?_ ?_⟩
   ·show H7=upd H7 aB (.lst (nats (be++[b1])))
    rw [vQ B7]
   ·obtain⟨v6,_,rfl⟩:=h
    refine aA.of ?_
    rw [ah mB]
    exact hml
   ·rintro j v σ H8 hj ⟨v6,rfl,rfl⟩
    obtain⟨k,hk,rfl⟩:∃ k,(mem b1)[j]?=some k∧v=nat k:=by
     unfold nats at hj
     rw [List.getElem?_map] at hj
     obtain⟨k,e1,e2⟩:=JJ.mp hj
     exact⟨k,e1,e2.symm⟩
    have kl:k<sp.length:=pI f3 (IK hk)
    have ol:(bx (be++[b1]) ((mem b1).take j) sp.length).length=sp.length+1:=by rw [c7,List.length_append,f2];rfl
    have e8:(upd H7 aB (.lst (nats (bx (be++[b1]) ((mem b1).take j) sp.length)))) aB=some (.lst (nats (bx (be++[b1]) ((mem b1).take j) sp.length))):=ag
    have i8:(upd H7 aB (.lst (nats (bx (be++[b1]) ((mem b1).take j) sp.length)))) x=some (.ins C dx fs):=by rw [ah xB];exact i7
    refine⟨_,rfl,x,C,dx,_,_,rfl,i8,CT.cl,CT.nB,fa.b,_,rfl,aB,_,_,_,rfl,rfl,aA.of e8,bh (fQ (by rw [ol];lia)),_,rfl,sp.length,rfl,by lia,_,_,rfl,rfl,?_⟩
    dsimp only [nat]
    rw [gq]
    refine⟨_,rfl,x,C,dx,_,_,rfl,i8,CT.cl,CT.nB,fa.b,_,rfl,aB,_,_,k,rfl,rfl,e8,o8 (by rw [aX,ol];lia),?_⟩
    refine⟨_,rfl,?_⟩
    rw [wa,av hk,jd]
    have:=nA (bx (be++[b1]) ((mem b1).take j) sp.length) k ((bx (be++[b1]) ((mem b1).take j) sp.length).getD k 0 ||| 2 ^ sp.length)
    unfold nat at this
    rw [this]
    rfl
   ·rintro σ H8 ⟨v6,rfl,rfl⟩
    rw [aX,Jc]
    generalize hbe:bx (be++[b1]) (mem b1) sp.length=be2
    have b8:=b7.upd (a:=aB) (o:=.lst (nats be2)) (by simp)
    have i8:(upd H7 aB (.lst (nats be2))) x=some (.ins C dx fs):=by rw [ah xB];exact i7
    have S8:(upd H7 aB (.lst (nats be2))) aS=some (.lst ((qs++[q]).map V.ref)):=by rw [ah nSB];exact S7
    have T8:(upd H7 aB (.lst (nats be2))) aT=some (.lst (nats (tk++[0]))):=by rw [ah nTB];exact T7
    have B8:(upd H7 aB (.lst (nats be2))) aB=some (.lst (nats be2)):=ag
    have P8:(upd H7 aB (.lst (nats be2))) aP=some (.dK (iH pl)):=by rw [ah BP.symm];exact P7
    have q8:=fe.put (o':=.lst (nats be2)) q7 B7
    generalize upd H7 aB (.lst (nats be2))=H8 at b8 i8 S8 T8 B8 P8 q8 ⊢
    obtain⟨m,hm⟩:=vH f5
    have dg:fz H8 aP (V.str z) (some (nat m)):=by rw [← hm];exact fz.k (k:=Sum.inr z) P8
    refine⟨_,rfl,x,C,dx,_,_,rfl,i8,CT.cl,CT.nP,fa.p,_,rfl,aP,nat m,rfl,dg,_,rfl,sp.length,rfl,by lia,_,_,rfl,rfl,?_⟩
    dsimp only [nat]
    rw [gq]
    refine⟨_,rfl,x,C,dx,_,_,rfl,i8,CT.cl,CT.nP,fa.p,_,rfl,aP,_,rfl,jN.k (k:=Sum.inr z) P8 (by unfold iH;rw [List.length_map];lia),?_⟩
    have pk:=vw (n:=sp.length) f6 hm
    unfold nat at pk
    rw [pk]
    refine⟨_,rfl,_,rfl,sp.length,rfl,by lia,_,_,rfl,rfl,?_⟩
    dsimp only [nat]
    rw [gq]
    refine goal _ ⟨?_,⟨qs++[q],?_,?_⟩,?_,?_,?_⟩ (b8.upd (by simp)) _ _ _
    ·rw [ah xP];exact i8
    ·rw [ah SP];exact S8
    ·exact fe.putD q8 P8
    ·rw [ah TP];exact T8
    ·rw [ah BP,B8,← hbe];rfl
    ·exact ag
  ·rintro σ H2 ⟨v4,v5,v6,rfl,hA,but⟩
   rw [aw,Jc] at hA
   exact kk H2 hA but
end Uf
end
section
namespace Uf
open PySem L2 UfSrt UfB UfTs
abbrev vM:Stmt:=inClass mQ 10
abbrev vZ:Stmt:=inClass mQ 4
def ni{A:Around}{k:Nat}(hr:cw k A):A.units+2<cLine:=Jt (NJ (by decide:2≤64) _) hr.units
def Fe(n:Nat):(((2 ^ n:Nat):Int))-1=((2 ^ n-1:Nat):Int):=by
 have:=Nat.one_le_two_pow (n:=n)
 lia
theorem gL{α β:Type}{R:α→β→Prop}:∀ {xs:List α} {ys:List β} {z:α × β},Paired R xs ys→z∈xs.zip ys→R z.1 z.2
 | _,_,_,.nil,h=>nomatch h
 | _,_,_,.cons e r,h=>by
  rcases IP.mp h with q | q
  ·rw [q];exact e
  ·exact gL r q
def Df(f:WF)(T:List Nat)(i:Nat):nC:=⟨f.W.sp,bx f.W.tk (T.take i) f.oc.length,f.W.be,f.W.pl⟩
def Iq(f:WF)(T:List Nat):Nat:=T.foldl (fun b t=>b &&& f.W.be.getD t 0) (2 ^ f.W.sp.length-1)
section
variable {P:Program}{w:World}{C CW x:Addr}{H H':Hp}{B:WA}{ms:List Mv}{S:List Str}{f:WF}
def dw.own(h:dw P w C CW H x B ms S f):∀ a∈B.l,∀ o,H a=some o→(∀ xs,o≠.tup xs)∧(∀ c d fs,o≠.ins c d fs)∧(a≠B.aP→∀ kv,o≠.dK kv):=by
 obtain⟨qs,e1,e2,e3⟩:=h.oc
 obtain⟨gs,g1,g2⟩:=h.gb
 obtain⟨q2,i1,i2⟩:=h.ad.sp
 intro a ha o e
 unfold WA.l at ha
 simp only [IP,Jq,Ke] at ha
 rcases ha with rfl | rfl | rfl | rfl | rfl | rfl | rfl | rfl
 ·rw [h.ad.pl] at e;cases e;exact⟨(fun _ z=>nomatch z),(fun _ _ _ z=>nomatch z),fun z=>absurd rfl z⟩
 ·rw [h.ad.tk] at e;cases e;exact⟨(fun _ z=>nomatch z),(fun _ _ _ z=>nomatch z),fun _ _ z=>nomatch z⟩
 ·rw [h.ad.be] at e;cases e;exact⟨(fun _ z=>nomatch z),(fun _ _ _ z=>nomatch z),fun _ _ z=>nomatch z⟩
 ·rw [g1] at e;cases e;exact⟨(fun _ z=>nomatch z),(fun _ _ _ z=>nomatch z),fun _ _ z=>nomatch z⟩
 ·rw [h.ow] at e;cases e;exact⟨(fun _ z=>nomatch z),(fun _ _ _ z=>nomatch z),fun _ _ z=>nomatch z⟩
 ·rw [e3] at e;cases e;exact⟨(fun _ z=>nomatch z),(fun _ _ _ z=>nomatch z),fun _ _ z=>nomatch z⟩
 ·rw [e1] at e;cases e;exact⟨(fun _ z=>nomatch z),(fun _ _ _ z=>nomatch z),fun _ _ z=>nomatch z⟩
 ·rw [i1] at e;cases e;exact⟨(fun _ z=>nomatch z),(fun _ _ _ z=>nomatch z),fun _ _ z=>nomatch z⟩
def dw.zV(h:dw P w C CW H x B ms S f)(b:gP B.l H H'):cc C (rm H' B.aP) B.p ms S:=by
 have go:∀ c o,rm H B.aP c=some o→((∃ xs,o=.tup xs)∨(∃ c d fs,o=.ins c d fs)∨∃ kv,o=.dK kv)→rm H' B.aP c=some o:=fun c o e z=>by
  have nc:c≠B.aP:=fun q=>by rw [q,pD] at e;cases e
  rw [vk nc] at e ⊢
  refine b _ _ e fun hc=>?_
  obtain⟨o1,o2,o3⟩:=h.own c hc o e
  rcases z with⟨xs,z⟩ | ⟨c',d,fs,z⟩ | ⟨kv,z⟩
  ·exact o1 _ z
  ·exact o2 _ _ _ z
  ·exact o3 nc _ z
 obtain⟨dn,aP,aS,aT,aG,kT,kG,h1,h2,h3,h4,h5,h6,h7⟩:=h.net.at'.ob
 have tp:∀ c xs,rm H B.aP c=some (.tup xs)→rm H' B.aP c=some (.tup xs):=fun c xs e=>go c _ e (.inl ⟨_,rfl⟩)
 exact⟨⟨dn,aP,aS,aT,aG,kT,kG,go _ _ h1 (.inr (.inl ⟨_,_,_,rfl⟩)),tp _ _ h2,tp _ _ h3,go _ _ h4 (.inr (.inr ⟨_,rfl⟩)),go _ _ h5 (.inr (.inr ⟨_,rfl⟩)),h6.same tp,h7.same tp⟩,h.net.so⟩
end
structure xt(f:WF)(ms:List Mv)(S:List Str)(m:Mv)(T:List Nat):Prop where
 mm:m∈ms
 may:BD f T (aH m.2.2)
 l4:T.length≤4
 nd:T.Nodup
 nm:aH (T.map (nX f))=aH m.2.1
 new:(m.1,T)∉f.oc
 oc:f.oc.length≤200
 pl:(f.W.pl.map (·.1)).Nodup∧f.W.pl.length≤12∧∀ y∈m.2.2,y∈f.W.pl.map (·.1)
def yT(P:Program)(w:World)(C CW:Addr):Sp:=fun vs H Q _=>∃ (x q:Addr) (B:WA) (ms:List Mv) (S:List Str) (f:WF) (m:Mv) (T:List Nat),vs=[.ref x,.ref q]∧dw P w C CW H x B ms S f∧Good f∧jy H (m.1,T) q∧xt f ms S m T ∧
 ∀ H',dw P w C CW H' x B ms S (dJ f m.1 T (aH m.2.2))→gP B.l H H'→Q (nat f.oc.length) H'
def kB:aD ["self", "occurrence", "number", "spots_ahead", "beside", "spot"] ["self", "occurrence"] (au vM):=eR
inductive AoI(CW:Addr)(H:Hp)(x q:Addr)(B:WA)(f:WF)(T:List Nat)(i:Nat)(σ:St)(H2:Hp):Prop
 | mk (v5:Option V) (q0:σ=[some (.ref x),some (.ref q),some (nat f.oc.length),some (nat (2 ^ f.W.sp.length)),some (nat (Iq f (T.take i))),v5]) (q1:AN CW H2 x B.dx B.fs B.aS B.aT B.aB B.aP (Df f T i)) (q2:gP [B.aT] H H2)
def Ba{f C CW:Addr}{fd:FuncData}(F:dv K "add_occurrence" "Web.add_occurrence" vM f fd)(T0:Txt K mg)(NC:gU K C)(CT:gG K CW)
  (DB:gJ P w K mg base "bit" u7 ["number"] 1 sP)
  (DG:jI P w K mg base C "gives" "Net.gives" kx ["self", "move"] 3 (ja C (·.2.2)))
  (DH:jI P w K mg base CW "bits_ahead" "Web.bits_ahead" pQ ["self", "spots"] 1 (wD P w C CW))
  (DA:jI P w K mg base CW "add_spots" "Web.add_spots" xQ ["self", "places", "giver", "beside"] 2 (wu CW .lst)) :
  bo P w K mg base cS 4 f fd ["self", "occurrence"] (yT P w C CW):=by
 refine F.oK kB fun cdv A outer s H vs Q E hr h=>?_
 ·obtain⟨x,q,B,ms,S,f,m,T,rfl,W,gd,⟨t,hq,ht⟩,can,kk⟩:=h
  have hu:=dY hr
  have hsl:=Ji
  refine⟨_,af (cB 2 kB (ay bu rfl T0.len cL (aa (aM (pv 0) rfl) ae)))
   (af (cB 3 kB (eA DB (hr.mono (by decide)) (aa (ay bu rfl T0.len cL (aa (aM (pv 0) rfl) ae)) ae)))
   (af (cB 4 kB (aE kH (pv 3) ak))
   (af (bq IT rfl (gR (bb eE (pv 1) ak (fun _ _=>rfl))) (dX 5 kB)
    (af (cB 4 kB (aE iF (pv 4) (bb aR (aM (pv 0) rfl) (pv 5) (fun _ _=>rfl))))
    (ai (jo (aE jY (bb aR (aM (pv 0) rfl) (pv 5) (fun _ _=>rfl)) (eA DB (hr.mono (by decide)) (aa (pv 2) ae))) (qw (aM (pv 0) rfl) (pv 5) set_list)))))
   (af (a9 (cR Jb IZ I0 aV (aM (pv 0) rfl) (aa (pv 1) ae)))
   (af (Bq (ni hr) (aM (pv 0) rfl) (pv 1) (pv 2) rfl)
   (af (a9 (cR Jb IZ I0 aV (aM (pv 0) rfl) (aa (aE jY (eA DB (hr.mono (by decide)) (aa (pv 2) ae)) (bZ (pv 0) CT.cl DH.d.mt DH.g (hr.mono (by decide)) DH.d.bd .nil bz (aa (bb eE (pv 1) ak (fun _ _=>rfl)) ae))) ae)))
   (af (a9 (bZ (pv 0) CT.cl DA.d.mt DA.g (hr.mono (by decide)) DA.d.bd .nil bz (aa (bZ (aM (pv 0) rfl) NC.cl DG.d.mt DG.g hr DG.d.bd .nil bz (aa (bb eE (pv 1) ak (fun _ _=>rfl)) ae)) (aa (pv 2) (aa (pv 4) ae)))))
   (af (a9 (cR Jb IZ I0 aV (aM (pv 0) rfl) (aa (aE kH (eA DB (hr.mono (by decide)) (aa (ay bu rfl T0.len cL (aa (aM (pv 0) rfl) ae)) ae)) (pv 3)) ae)))
   (ai (aI (pv 2))))))))))),?_⟩
  obtain⟨qo,o1,o2,o3⟩:=W.oc
  obtain⟨gs,g1,g2⟩:=W.gb
  obtain⟨qs,i1,i2⟩:=W.ad.sp
  have lo:=IX o2
  have ls:=IX i2
  have i9:=gd.i9
  have loc:=can.oc
  have may:=can.may
  have nd:=W.nd
  unfold WA.l at nd
  simp only [JQ,IP,Jq,Ke,Mm] at nd
  obtain⟨⟨p1,p2,p3,p4,p5,p6,p7⟩,⟨t1,t2,t3,t4,t5,t6⟩,⟨b1,b2,b3_,b4,b5⟩,⟨gg1,gg2,gg3,gg4⟩,⟨w1,w2,w3⟩,⟨n1,n2⟩,n3,_⟩:=nd
  refine⟨_,rfl,x,CW,B.dx,_,_,rfl,W.ad.ins,CT.cl,CT.nO,B.fO,_,qo.length,rfl,.inl ⟨_,aA.of o1,by rw [List.length_map]⟩,?_⟩
  rw [← lo]
  refine⟨_,rfl,x,CW,B.dx,_,_,rfl,W.ad.ins,CT.cl,CT.nS,B.fS,_,qs.length,rfl,.inl ⟨_,aA.of i1,by rw [List.length_map]⟩,qs.length,rfl,by lia,?_⟩
  rw [← ls]
  refine⟨_,rfl,_,_,rfl,rfl,?_⟩
  have e0:V.int (((2 ^ f.W.sp.length:Nat):Int)-1)=nat (2 ^ f.W.sp.length-1):=by rw [Fe];rfl
  have hadT:∀ c ys,H c=some (.tup ys)→c∉[B.aT]:=fun c ys e z=>by
   have z:c=B.aT:=by simpa using z
   rw [z,W.ad.tk] at e
   cases e
  refine⟨_,rfl,q,_,1,_,rfl,rfl,bO.of hq,bh (j:=1) rfl,t,rfl,⟨_,bO.of ht⟩,jV (K:=K) (a:=t) (xs:=nats T) (AoI CW H x q B f T) ⟨none,?_,W.ad,fun c o e _=>e⟩ (fun i σ H2 _ h=>?_) ?_ ?_⟩
  ·show _=[_,_,_,_,some (nat (2 ^ f.W.sp.length-1)),_]
   rw [← e0]
   rfl
  ·obtain⟨_,_,_,b⟩:=h
   exact bO.of (b _ _ ht (hadT _ _ ht))
  ·rintro i v σ H2 hi ⟨v5,rfl,A2,b2'⟩
   obtain⟨n,hn,rfl⟩:=dk hi
   have hnl:=may.lt n (IK hn)
   have l1:(Df f T i).tk.length=f.W.sp.length:=by show(bx _ _ _).length=_;rw [c7,gd.tl]
   have l2:(Df f T i).be.length=f.W.sp.length:=gd.bl
   refine⟨_,rfl,_,rfl,x,CW,B.dx,_,_,rfl,A2.ins,CT.cl,CT.nB,B.fB,_,rfl,B.aB,_,_,_,rfl,rfl,aA.of A2.be,bh (j:=n) (fQ (by lia)),_,_,rfl,rfl,?_⟩
   refine⟨_,rfl,x,CW,B.dx,_,_,rfl,A2.ins,CT.cl,CT.nT,B.fT,_,rfl,B.aT,_,_,_,rfl,rfl,aA.of A2.tk,bh (j:=n) (fQ (by lia)),_,rfl,f.oc.length,rfl,by lia,_,_,rfl,rfl,?_⟩
   dsimp only [nat]
   rw [gq,jx]
   refine⟨_,rfl,x,CW,B.dx,_,_,rfl,A2.ins,CT.cl,CT.nT,B.fT,_,rfl,B.aT,_,_,n,rfl,rfl,A2.tk,o8 (by rw [aX];lia),?_⟩
   have set1:(nats (Df f T i).tk).set n (V.int (((Df f T i).tk.getD n 0 ||| 2 ^ f.oc.length:Nat):Int))=nats (Df f T (i+1)).tk:=by
    show _=nats (bx f.W.tk (T.take (i+1)) f.oc.length)
    rw [av hn,jd]
    exact nA _ _ _
   rw [set1]
   obtain⟨q2,j1,j2⟩:=A2.sp
   have nx:x≠B.aT:=aJ A2.ins A2.tk (fun z=>nomatch z)
   refine⟨some (nat n),?_,⟨by rw [ah nx];exact A2.ins,⟨q2,by rw [ah (Jg t6)];exact j1,fe.put j2 A2.tk⟩,ag,by rw [ah (Jg t1)];exact A2.be,by rw [ah p1];exact A2.pl⟩,b2'.upd (by simp)⟩
   show _=[_,_,_,_,some (nat (Iq f (T.take (i+1)))),_]
   unfold Iq
   rw [av hn,Kn]
   rfl
  ·rintro σ H3 ⟨v5,rfl,A3,b3⟩
   have eT:T.take (nats T).length=T:=by rw [aX,Jc]
   have eW:Df f T (nats T).length=⟨f.W.sp,bx f.W.tk T f.oc.length,f.W.be,f.W.pl⟩:=by unfold Df;rw [eT]
   rw [eT]
   rw [eW] at A3
   have nT:∀ {c o},H c=some o→c≠B.aT→H3 c=some o:=fun {c o} e n=>b3 _ _ e (by simpa using n)
   have tup3:∀ {c ys},H c=some (.tup ys)→H3 c=some (.tup ys):=fun {c ys} e=>b3 _ _ e (hadT _ _ e)
   have o13:=nT o1 (Jg t5)
   have o33:=nT o3 (Jg t4)
   have w3':=nT W.ow (Jg t3)
   have g13:=nT g1 (Jg t2)
   have hq3:=tup3 hq
   have ht3:=tup3 ht
   have pr3:mN H3 f.oc qo:=Paired.cu o2 fun _ _ e=>e.same fun _ _ e=>tup3 e
   refine⟨_,rfl,x,CW,B.dx,_,_,rfl,A3.ins,CT.cl,CT.nO,B.fO,.inl ⟨rfl,_,aA.of o13⟩,_,rfl,B.aO,_,_,rfl,rfl,o13,by rw [List.length_map];lia,?_⟩
   have u4:∀ {c o},H3 c=some o→c≠B.aO→(upd H3 B.aO (.lst (qo.map V.ref++[V.ref q]))) c=some o:=fun {c o} e n=>by rw [ah n];exact e
   have tup4:∀ {c ys},H3 c=some (.tup ys)→(upd H3 B.aO (.lst (qo.map V.ref++[V.ref q]))) c=some (.tup ys):=fun {c ys} e=>u4 e (aJ e o13 (fun z=>nomatch z))
   have o14:(upd H3 B.aO (.lst (qo.map V.ref++[V.ref q]))) B.aO=some (.lst ((qo++[q]).map V.ref)):=by rw [ag,List.map_append];rfl
   generalize upd H3 B.aO (.lst (qo.map V.ref++[V.ref q]))=H4 at u4 tup4 o14 ⊢
   have ins4:=u4 A3.ins (aJ A3.ins o13 (fun z=>nomatch z))
   have pr4:mN H4 f.oc qo:=Paired.cu pr3 fun _ _ e=>e.same fun _ _ e=>tup4 e
   have pq4:jy H4 (m.1,T) q:=⟨t,tup4 hq3,tup4 ht3⟩
   have zk:(f.oc.zip qo).map (·.1)=f.oc:=M7 (by lia)
   refine⟨_,rfl,_,rfl,x,CW,B.dx,_,_,rfl,ins4,CT.cl,CT.nH,B.fH,_,rfl,q,B.aN,(m.1,T),f.oc.zip qo,rfl,rfl,pq4,u4 o33 n1,fun z hz=>gL pr4 hz,by rw [zk];exact can.new,by rw [List.length_zip];lia,?_⟩
   have u5:∀ {c o},H4 c=some o→c≠B.aN→(upd H4 B.aN (PD P w B.aN (f.oc.zip qo++[((m.1,T),q)]))) c=some o:=fun {c o} e n=>by rw [ah n];exact e
   have tup5:∀ {c ys},H4 c=some (.tup ys)→(upd H4 B.aN (PD P w B.aN (f.oc.zip qo++[((m.1,T),q)]))) c=some (.tup ys):=fun {c ys} e=>u5 e (aJ e (u4 o33 n1) (fun z=>nomatch z))
   have o35:(upd H4 B.aN (PD P w B.aN (f.oc.zip qo++[((m.1,T),q)]))) B.aN=some (PD P w B.aN (f.oc.zip qo++[((m.1,T),q)])):=ag
   have ins5:=u5 ins4 (aJ ins4 (u4 o33 n1) (fun z=>nomatch z))
   change (Fw _ _) _ _ (upd H4 B.aN (PD P w B.aN (f.oc.zip qo++[((m.1,T),q)])))
   generalize upd H4 B.aN (PD P w B.aN (f.oc.zip qo++[((m.1,T),q)]))=H5 at u5 tup5 o35 ins5 ⊢
   have to5:∀ {c o},H3 c=some o→c≠B.aO→c≠B.aN→H5 c=some o:=fun {c o} e n n'=>u5 (u4 e n) n'
   have w5:=to5 w3' w2 w1
   have tup35:∀ {c ys},H3 c=some (.tup ys)→H5 c=some (.tup ys):=fun {c ys} e=>tup5 (tup4 e)
   obtain⟨q3,s31,s32⟩:=A3.sp
   have s51:=to5 s31 (Jg n3) (Jg n2)
   have s52:fe H5 f.W.sp q3:=Paired.cu s32 fun _ _ e=>tup35 e
   have hq5:=tup35 hq3
   have ht5:=tup35 ht3
   refine⟨_,rfl,x,CW,B.dx,_,_,rfl,ins5,CT.cl,CT.nW,B.fW,.inl ⟨rfl,_,aA.of w5⟩,_,rfl,f.oc.length,rfl,by lia,_,rfl,x,B.dx,_,rfl,ins5,ck B _ (by decide +kernel),_,rfl,q,_,1,_,rfl,rfl,bO.of hq5,bh (j:=1) rfl,x,t,B.fs,B.dx,B.aS,B.aW,f,T,rfl,ins5,B.fS,B.fW,⟨q3,s51,s52⟩,w5,ht5,may.lt,fun s g hg=>by rw [gd.wl];exact gd.gvlt s g hg,_,_,rfl,rfl,B.aW,_,_,rfl,rfl,w5,by rw [aX,gd.wl];lia,?_⟩
   dsimp only [nat]
   rw [gq,show nats f.own++[V.int ((2 ^ f.oc.length ||| cE f T:Nat):Int)]=nats (f.own++[2 ^ f.oc.length ||| cE f T]) from fq _ _]
   have u6:∀ {c o},H5 c=some o→c≠B.aW→(upd H5 B.aW (.lst (nats (f.own++[2 ^ f.oc.length ||| cE f T])))) c=some o:=fun {c o} e n=>by rw [ah n];exact e
   have tup6:∀ {c ys},H5 c=some (.tup ys)→(upd H5 B.aW (.lst (nats (f.own++[2 ^ f.oc.length ||| cE f T])))) c=some (.tup ys):=fun {c ys} e=>u6 e (aJ e w5 (fun z=>nomatch z))
   have w6:(upd H5 B.aW (.lst (nats (f.own++[2 ^ f.oc.length ||| cE f T])))) B.aW=some (.lst (nats (f.own++[2 ^ f.oc.length ||| cE f T]))):=ag
   have ins6:=u6 ins5 (aJ ins5 w5 (fun z=>nomatch z))
   generalize upd H5 B.aW (.lst (nats (f.own++[2 ^ f.oc.length ||| cE f T])))=H6 at u6 tup6 w6 ins6 ⊢
   have to6:∀ {c o},H3 c=some o→c≠B.aO→c≠B.aN→c≠B.aW→H6 c=some o:=fun {c o} e n n' n''=>u6 (to5 e n n') n''
   have tup36:∀ {c ys},H3 c=some (.tup ys)→H6 c=some (.tup ys):=fun {c ys} e=>tup6 (tup35 e)
   have A6:AN CW H6 x B.dx B.fs B.aS B.aT B.aB B.aP ⟨f.W.sp,bx f.W.tk T f.oc.length,f.W.be,f.W.pl⟩:=⟨ins6,⟨q3,u6 s51 (Jg w3),Paired.cu s32 fun _ _ e=>tup36 e⟩,to6 A3.tk t5 t4 t3,to6 A3.be b4 b3_ b2,to6 A3.pl p6 p5 p4⟩
   have but6:gP B.l H H6:=fun c o e n=>by
    unfold WA.l at n
    simp only [IP,Jq,Ke,Mm] at n
    exact to6 (nT e n.2.1) n.2.2.2.2.2.2.1 n.2.2.2.2.2.1 n.2.2.2.2.1
   have N6:cc C H6 B.p ms S:=(W.zV but6).same (CV _ _)
   obtain⟨dn,nP,nS,nT',nG,kT,kG,nn1,_⟩:=N6.at'.ob
   refine⟨_,rfl,x,B.dx,_,rfl,ins6,ck B _ (by decide +kernel),_,rfl,x,CW,B.dx,_,_,rfl,ins6,CT.cl,CT.nN,B.fN,B.p,dn,_,rfl,nn1,cW _ _ _ _ yW zX yM zE,_,rfl,q,_,0,_,rfl,rfl,bO.of (tup6 hq5),bh (j:=0) rfl,B.p,ms,S,m,rfl,N6,can.mm,fun H7 gl s7 ngl hgl=>?_⟩
   have A7:AN CW H7 x B.dx B.fs B.aS B.aT B.aB B.aP ⟨f.W.sp,bx f.W.tk T f.oc.length,f.W.be,f.W.pl⟩:=let ⟨i,⟨q,a,b⟩,c,d,e⟩:=A6;⟨s7 _ _ i,⟨q,s7 _ _ a,Paired.cu b fun _ _ z=>s7 _ _ z⟩,s7 _ _ c,s7 _ _ d,s7 _ _ e⟩
   have ngl4:gl∉[B.aS,B.aT,B.aB,B.aP]:=fun z=>by
    simp only [IP,Jq,Ke] at z
    obtain⟨q6,a6,_⟩:=A6.sp
    rcases z with z | z | z | z
    ·rw [z,a6] at ngl;cases ngl
    ·rw [z,A6.tk] at ngl;cases ngl
    ·rw [z,A6.be] at ngl;cases ngl
    ·rw [z,A6.pl] at ngl;cases ngl
   have pl:=can.pl
   have lg:(aH m.2.2).length=m.2.2.length:=by rw [bW]
   have fit:jC (⟨f.W.sp,bx f.W.tk T f.oc.length,f.W.be,f.W.pl⟩,fv f T) (aH m.2.2):=⟨by show(bx _ _ _).length=_;rw [c7,gd.tl],gd.bl,wt gd,may.i9,fun y hy=>pl.2.2 y (bE.mp hy),pl.1,pl.2.1⟩
   refine⟨_,rfl,_,rfl,x,B.dx,gl,B.aS,B.aT,B.aB,B.aP,B.fs,⟨f.W.sp,bx f.W.tk T f.oc.length,f.W.be,f.W.pl⟩,some f.oc.length,fv f T,aH m.2.2,rfl,kd _ _ _ _ _ _ _ _ _,Jg t6,Jg b5,t1,A7,hgl,ngl4,fit,fun H8 A8 b8=>?_⟩
   have to8:∀ {c o},H6 c=some o→c∉[B.aS,B.aT,B.aB,B.aP]→H8 c=some o:=fun {c o} e n=>b8 _ _ (s7 _ _ e) n
   have tup8:∀ {c ys},H6 c=some (.tup ys)→H8 c=some (.tup ys):=fun {c ys} e=>to8 e fun z=>by
    simp only [IP,Jq,Ke] at z
    obtain⟨q6,a6,_⟩:=A6.sp
    rcases z with z | z | z | z
    ·rw [z,a6] at e;cases e
    ·rw [z,A6.tk] at e;cases e
    ·rw [z,A6.be] at e;cases e
    ·rw [z,A6.pl] at e;cases e
   have g8:H8 B.aG=some (.lst (nats gs)):=to8 (to6 g13 gg3 gg2 gg1) (by simp [gg4,Jg t2,Jg b1,Jg p3])
   obtain⟨q8,s81,s82⟩:=A8.sp
   have l8:=IX s82
   have lsp:(bp (some f.oc.length) (⟨f.W.sp,bx f.W.tk T f.oc.length,f.W.be,f.W.pl⟩,fv f T) (aH m.2.2)).1.sp.length=f.W.sp.length+(aH m.2.2).length:=by
    rw [(hV gd may).sp,List.length_append,List.length_map]
   have fw:=may.i9
   refine⟨_,rfl,x,CW,B.dx,_,_,rfl,A8.ins,CT.cl,CT.nG,B.fG,.inl ⟨rfl,_,aA.of g8⟩,_,rfl,x,CW,B.dx,_,_,rfl,A8.ins,CT.cl,CT.nS,B.fS,_,q8.length,rfl,.inl ⟨_,aA.of s81,by rw [List.length_map]⟩,q8.length,rfl,by lia,_,rfl,_,_,rfl,rfl,B.aG,_,_,rfl,rfl,g8,by rw [aX];lia,?_⟩
   have eg:V.int (((2 ^ q8.length:Nat):Int)-((2 ^ f.W.sp.length:Nat):Int))=nat (2 ^ q8.length-2 ^ f.W.sp.length):=by
    have:=Jr (n:=2) (by decide) (show f.W.sp.length≤q8.length by lia)
    unfold nat
    congr 1
    lia
   dsimp only [nat] at eg ⊢
   rw [eg,show nats gs++[V.int ((2 ^ q8.length-2 ^ f.W.sp.length:Nat):Int)]=nats (gs++[2 ^ q8.length-2 ^ f.W.sp.length]) from fq _ _]
   have u9:∀ {c o},H8 c=some o→c≠B.aG→(upd H8 B.aG (.lst (nats (gs++[2 ^ q8.length-2 ^ f.W.sp.length])))) c=some o:=fun {c o} e n=>by rw [ah n];exact e
   have tup9:∀ {c ys},H8 c=some (.tup ys)→(upd H8 B.aG (.lst (nats (gs++[2 ^ q8.length-2 ^ f.W.sp.length])))) c=some (.tup ys):=fun {c ys} e=>u9 e (aJ e g8 (fun z=>nomatch z))
   have g9:(upd H8 B.aG (.lst (nats (gs++[2 ^ q8.length-2 ^ f.W.sp.length])))) B.aG=some (.lst (nats (gs++[2 ^ q8.length-2 ^ f.W.sp.length]))):=ag
   generalize upd H8 B.aG (.lst (nats (gs++[2 ^ q8.length-2 ^ f.W.sp.length])))=H9 at u9 tup9 g9 ⊢
   have tup39:∀ {c ys},H3 c=some (.tup ys)→H9 c=some (.tup ys):=fun {c ys} e=>tup9 (tup8 (tup36 e))
   have but9:gP B.l H H9:=fun c o e n=>by
    have e6:=but6 c o e n
    unfold WA.l at n
    simp only [IP,Jq,Ke,Mm] at n
    exact u9 (to8 e6 (by simp [n.1,n.2.1,n.2.2.1,n.2.2.2.2.2.2.2])) n.2.2.2.1
   have n4:∀ {c},c∈[B.aO,B.aN,B.aW]→c∉[B.aS,B.aT,B.aB,B.aP]:=fun {c} hc=>by
    simp only [IP,Jq,Ke] at hc
    rcases hc with rfl | rfl | rfl
    ·simp [n3,Jg t5,Jg b4,Jg p6]
    ·simp [n2,Jg t4,Jg b3_,Jg p5]
    ·simp [w3,Jg t3,Jg b2,Jg p4]
   refine⟨_,rfl,kk _ ⟨⟨u9 A8.ins (aJ A8.ins g8 (fun z=>nomatch z)),⟨q8,u9 s81 (Jg gg4),Paired.cu s82 fun _ _ e=>tup9 e⟩,u9 A8.tk t2,u9 A8.be b1,u9 A8.pl p3⟩,⟨qo++[q],u9 (to8 (u6 (u5 o14 (Jg n1)) (Jg w2)) (n4 (by simp))) (Jg gg3),?_,?_⟩,u9 (to8 w6 (n4 (by simp))) (Jg gg1),⟨_,g9,?_⟩,W.nd,W.zV but9⟩ but9⟩
   ·exact JZ (Paired.cu pr3 fun _ _ e=>e.same fun _ _ e=>tup39 e) ⟨t,tup39 hq3,tup39 ht3⟩
   ·have ez:(f.oc++[(m.1,T)]).zip (qo++[q])=f.oc.zip qo++[((m.1,T),q)]:=by rw [List.zip_append lo];rfl
    show H9 B.aN=some (PD P w B.aN ((f.oc++[(m.1,T)]).zip (qo++[q])))
    rw [ez]
    exact u9 (to8 (u6 o35 (Jg w1)) (n4 (by simp))) (Jg gg2)
   ·show(gs++[_]).length=(f.oc++[_]).length
    rw [List.length_append,List.length_append,g2]
    rfl
def yv(P:Program)(w:World)(C CW:Addr):Sp:=fun vs H Q _=>∃ (x l:Addr) (B:WA) (ms:List Mv) (S:List Str) (f:WF) (m:Mv) (U:List Nat),vs=[.ref x,.str m.1,.ref l]∧dw P w C CW H x B ms S f∧Good f∧H l=some (.lst (nats U))∧xt f ms S m (bQ U) ∧
 ∀ H',dw P w C CW H' x B ms S (dJ f m.1 (bQ U) (aH m.2.2))→gP B.l H H'→Q (nat f.oc.length) H'
def uS:aD ["self", "move", "spots", "taken", "occurrence"] ["self", "move", "spots"] (au vZ):=eR
def AW{f C CW:Addr}{fd:FuncData}(F:dv K "come" "Web.come" vZ f fd)(T0:Txt K mg)(CT:gG K CW)
  (DF:jI P w K mg base CW "must_fit" "Web.must_fit" pd ["self", "move", "spots"] 4 (wF P w C CW))
  (DB:jI P w K mg base CW "must_stand_beside" "Web.must_stand_beside" pz ["self", "spots"] 2 (we P w C CW))
  (DO:jI P w K mg base CW "add_occurrence" "Web.add_occurrence" vM ["self", "occurrence"] 4 (yT P w C CW)) :
  bo P w K mg base cS 5 f fd ["self", "move", "spots"] (yv P w C CW):=by
 refine F.oK uS fun cdv A outer s H vs Q E hr h=>?_
 ·obtain⟨x,l,B,ms,S,f,m,U,rfl,W,gd,hl,can,kk⟩:=h
  have hsl:=Ji
  refine⟨_,af (cB 3 uS (ay jn rfl T0.aH cn (aa (pv 2) ae)))
   (af (a9 (bZ (pv 0) CT.cl DF.d.mt DF.g hr DF.d.bd .nil bz (aa (pv 1) (aa (pv 3) ae))))
   (af (a9 (bZ (pv 0) CT.cl DB.d.mt DB.g (hr.mono (by decide)) DB.d.bd .nil bz (aa (pv 3) ae)))
   (af (cB 4 uS (fD (aa (pv 1) (aa (a8 bK rfl T0.tup fj (aa (pv 3) ae)) ae))))
   (af (bH (bj FP (pv 4) (aM (pv 0) rfl) (by with_unfolding_all rfl)) (ai cV) aU)
   (ai (aI (bZ (pv 0) CT.cl DO.d.mt DO.g hr DO.d.bd .nil bz (aa (pv 4) ae)))))))),?_⟩
  have may:=can.may
  have l4:=can.l4
  have lU:(bQ U).length=U.length:=iA U
  refine⟨_,rfl,l,U,rfl,aA.of hl,by lia,fun ta nta=>?_⟩
  obtain⟨H1,eU,s1,hta⟩:=nE nta (.lst (nats (bQ U)))
  rw [eU]
  have W1:=W.same s1
  refine⟨_,rfl,x,B.dx,_,rfl,W1.ad.ins,ck B _ (by decide +kernel),_,rfl,_,rfl,x,ta,B,ms,S,f,m,bQ U,rfl,W1,can.mm,hta,l4,may.lt,can.nm,fun H2 s2=>?_⟩
  have W2:=W1.same s2
  refine⟨_,rfl,x,B.dx,_,rfl,W2.ad.ins,ck B _ (by decide +kernel),_,rfl,x,ta,B,ms,S,f,bQ U,rfl,W2,gd.bl,s2 _ _ hta,may.lt,can.nd,may.side,fun H3 s3=>?_⟩
  refine⟨_,rfl,_,rfl,ta,_,rfl,.inl ⟨aA.of ((s2.trans s3) _ _ hta),fun tt ntt=>⟨by show 2≤sizeLine;lia,fun q nq=>?_⟩⟩⟩
  have s4:aq H3 (upd (upd H3 tt (.tup (nats (bQ U)))) q (.tup [.str m.1,.ref tt])):=(ao ntt).trans (ao nq)
  have htt:(upd (upd H3 tt (.tup (nats (bQ U)))) q (.tup [.str m.1,.ref tt])) tt=some (.tup (nats (bQ U))):=ao nq _ _ ag
  have hq:(upd (upd H3 tt (.tup (nats (bQ U)))) q (.tup [.str m.1,.ref tt])) q=some (.tup [.str m.1,.ref tt]):=ag
  generalize upd (upd H3 tt (.tup (nats (bQ U)))) q (.tup [.str m.1,.ref tt])=H4 at s4 htt hq ⊢
  have s04:=(s1.trans s2).trans (s3.trans s4)
  have W4:=W.same s04
  obtain⟨qo,o1,o2,o3⟩:=W4.oc
  have lo:=IX o2
  have zk:(f.oc.zip qo).map (·.1)=f.oc:=M7 (by lia)
  refine⟨_,rfl,_,rfl,x,CW,B.dx,_,_,rfl,W4.ad.ins,CT.cl,CT.nH,B.fH,q,B.aN,(m.1,bQ U),f.oc.zip qo,rfl,rfl,ni hr,⟨tt,hq,htt⟩,o3,fun z hz=>gL o2 hz,_,rfl,?_⟩
  rw [zk,decide_eq_false can.new]
  refine bB ?_
  exact⟨_,rfl,x,B.dx,_,rfl,W4.ad.ins,ck B _ (by decide +kernel),_,rfl,x,q,B,ms,S,f,m,bQ U,rfl,W4,gd,⟨tt,hq,htt⟩,can,fun H5 W5 b5=>kk _ W5 fun c o e n=>b5 _ _ (s04 _ _ e) n⟩
end Uf
end
section
namespace Uf
open PySem L2 UfB UfSrt UfTs
abbrev rM:Stmt:=inClass mQ 1
abbrev yc:Stmt:=inClass mQ 2
abbrev zT:Stmt:=inClass mQ 3
abbrev AZ:Stmt:=top 32
def uA(P:Program)(w:World)(C CW:Addr):Sp:=fun vs H Q _=>∃ (x:Addr) (B:WA) (ms:List Mv) (S:List Str) (f:WF),vs=[.ref x]∧dw P w C CW H x B ms S f∧Q (.ref B.p) H
def Eg:aD ["self"] ["self"] (au rM):=eR
def BC{f C CW:Addr}{fd:FuncData}(F:dv K "net" "Web.net" rM f fd)(CT:gG K CW):bo P w K mg base cS 1 f fd ["self"] (uA P w C CW):=by
 refine F.oK Eg fun cdv A outer s H vs Q E hr h=>?_
 ·obtain⟨x,B,ms,S,f,rfl,W,k⟩:=h
  refine⟨_,ai (aI (aM (pv 0) rfl)),?_⟩
  exact⟨_,rfl,x,CW,B.dx,_,_,rfl,W.ad.ins,CT.cl,CT.nN,B.fN,k⟩
def mT(P:Program)(w:World)(C CW:Addr)(sel:WA→Addr):Sp:=fun vs H Q _=>∃ (x:Addr) (B:WA) (ms:List Mv) (S:List Str) (f:WF) (ys:List V),vs=[.ref x]∧dw P w C CW H x B ms S f∧H (sel B)=some (.lst ys)∧∀ q,H q=none→Q (.ref q) (upd H q (.lst ys))
def Fz:aD ["self"] ["self"] (au yc):=eR
def FW:aD ["self"] ["self"] (au zT):=eR
def Du{f C CW:Addr}{fd:FuncData}(F:dv K "spots" "Web.spots" yc f fd)(T:Txt K mg)(CT:gG K CW):bo P w K mg base cS 1 f fd ["self"] (mT P w C CW WA.aS):=by
 refine F.oK Fz fun cdv A outer s H vs Q E hr h=>?_
 ·obtain⟨x,B,ms,S,f,ys,rfl,W,hy,k⟩:=h
  refine⟨_,ai (aI (a8 bU rfl T.lst dA (aa (aM (pv 0) rfl) ae))),?_⟩
  exact⟨_,rfl,x,CW,B.dx,_,_,rfl,W.ad.ins,CT.cl,CT.nS,B.fS,B.aS,_,rfl,.inl (aA.of hy),k⟩
def DQ{f C CW:Addr}{fd:FuncData}(F:dv K "occurrences" "Web.occurrences" zT f fd)(T:Txt K mg)(CT:gG K CW):bo P w K mg base cS 1 f fd ["self"] (mT P w C CW WA.aO):=by
 refine F.oK FW fun cdv A outer s H vs Q E hr h=>?_
 ·obtain⟨x,B,ms,S,f,ys,rfl,W,hy,k⟩:=h
  refine⟨_,ai (aI (a8 bU rfl T.lst dA (aa (aM (pv 0) rfl) ae))),?_⟩
  exact⟨_,rfl,x,CW,B.dx,_,_,rfl,W.ad.ins,CT.cl,CT.nO,B.fO,B.aO,_,rfl,.inl (aA.of hy),k⟩
abbrev uF(K:PySem.W.Frag)(H:Hp):List Ch→List Addr→Prop:=Paired fun c q=>∃ t,H q=some (.tup [.ref t,nat c.2])∧bO K H t (nats c.1)
def uF.same{K:PySem.W.Frag}{H H':Hp}{cs:List Ch}{qs:List Addr}(h:uF K H cs qs)(s:aq H H'):uF K H' cs qs:=Paired.cu h fun _ _ ⟨t,a,b⟩=>⟨t,s _ _ a,bY s b⟩
structure Ga(f:WF)(ms:List Mv)(m:Mv):Prop where
 gd:Good f
 gp:eY f.W
 n68:f.W.sp.length≤68
 mm:m∈ms
 tn:m.2.1.Nodup
 t4:m.2.1.length≤4
 tp:∀ y∈m.2.1,y∈f.W.pl.map (·.1)
def Dg(P:Program)(w:World)(C CW:Addr):Sp:=fun vs H Q _=>∃ (x:Addr) (B:WA) (ms:List Mv) (S:List Str) (f:WF) (m:Mv),vs=[.ref x,.str m.1,nat (2 ^ f.W.sp.length-1)]∧dw P w C CW H x B ms S f∧Ga f ms m ∧
 ∀ H' r qs,aq H H'→H r=none→H' r=some (.lst (qs.map V.ref))→Paired (fun T q=>H' q=some (.tup (nats T))) ((xq f (aH m.2.1)).map fun c=>bQ c.1) qs→Q (.ref r) H'
def jH:aD ["web", "move", "among", "choices", "place", "longer", "chosen", "beside", "spot"] ["web", "move", "among"] (au AZ):=eR
theorem vJ{f:WF}:∀ {pl:List (Str × Nat)} {x:Str},x∈pl.map (·.1)→de (iH pl) (Sum.inr x:Key)=some (nat (((pl.find? fun p=>decide (p.1=x)).map (·.2)).getD 0))
 | [],_,h=>by simp at h
 | p::pl,x,h=>by
  show de ((Sum.inr p.1,nat p.2)::iH pl) _=_
  by_cases e:p.1=x
  ·rw [cx (by rw [e]),List.find?_cons_of_pos (by simpa using e)]
   rfl
  ·rw [cj (fun z=>e (LC z)),List.find?_cons_of_neg (by simpa using e)]
   have h2:x∈pl.map (·.1):=by
    rcases IP.mp h with z | z
    ·exact absurd z.symm e
    ·exact z
   exact vJ (f:=f) h2
inductive FtI(K:PySem.W.Frag)(H Hb:Hp)(x:Addr)(m:Str)(f:WF)(xs:List Str)(i:Nat)(σ:St)(H2:Hp):Prop
 | mk (v4 v5 v6 v7 v8:Option V) (cl:Addr) (qs:List Addr) (q0:σ=[some (.ref x),some (.str m),some (nat (2 ^ f.W.sp.length-1)),some (.ref cl),v4,v5,v6,v7,v8]) (q1:aq Hb H2) (q2:H2 cl=some (.lst (qs.map V.ref))) (q3:uF K H2 (xq f (xs.take i)) qs) (q4:H cl=none)
inductive FtJ(K:PySem.W.Frag)(H:Hp)(x cl lo:Addr)(m:Str)(f:WF)(y:Str)(cs:List Ch)(j:Nat)(σ:St)(H2:Hp):Prop
 | mk (v6 v7 v8:Option V) (rs:List Addr) (q0:σ=[some (.ref x),some (.str m),some (nat (2 ^ f.W.sp.length-1)),some (.ref cl),some (.str y),some (.ref lo),v6,v7,v8]) (q1:aq H H2) (q2:H2 lo=some (.lst (rs.map V.ref))) (q3:uF K H2 (iS f y (cs.take j)) rs)
inductive FtL(K:PySem.W.Frag)(H:Hp)(x cl lo:Addr)(m:Str)(f:WF)(y:Str)(cs:List Ch)(c:Ch)(t ml:Addr)(k:Nat)(σ:St)(H2:Hp):Prop
 | mk (v8:Option V) (rs:List Addr) (q0:σ=[some (.ref x),some (.str m),some (nat (2 ^ f.W.sp.length-1)),some (.ref cl),some (.str y),some (.ref lo),some (.ref t),some (nat c.2),v8]) (q1:aq H H2) (q2:H2 lo=some (.lst (rs.map V.ref))) (q3:uF K H2 (iS f y cs++((mem (c.2 &&& yl f y)).take k).map fun s=>(c.1++[s],c.2 &&& f.W.be.getD s 0)) rs) (q4:H2 ml=some (.lst (nats (mem (c.2 &&& yl f y)))))
def Ce{K:PySem.W.Frag}{H:Hp}{a l:Addr}{xs ys:List V}{o:HO}(h:bO K H a xs)(hl:H l=some (.lst ys)):bO K (upd H l o) a xs:=by
 rcases h with(h | ⟨o',h⟩) | h
 ·exact .inl (.inl (by rw [ah (aJ h hl (fun z=>nomatch z))];exact h))
 ·exact .inl (.inr ⟨o',by rw [ah (aJ h hl (fun z=>nomatch z))];exact h⟩)
 ·exact .inr h
def gj{qs:List Addr}{i:Nat}{v:V}(h:(qs.map V.ref)[i]?=some v):∃ q,qs[i]?=some q∧v=.ref q:=by
 rw [List.getElem?_map] at h
 obtain⟨q,e1,e2⟩:=JJ.mp h
 exact⟨q,e1,e2.symm⟩
def sF{f:WF}{xs:List Str}{i:Nat}{y:Str}(h:xs[i]?=some y):xq f (xs.take (i+1))=iS f y (xq f (xs.take i)):=by
 unfold xq
 rw [av h,Kn]
 rfl
def Dw{f C CW:Addr}{fd:FuncData}(F:dv K "fitting_spots" "fitting_spots" AZ f fd)(T0:Txt K mg)(NC:gU K C)(CT:gG K CW)
  (DN:jI P w K mg base CW "net" "Web.net" rM ["self"] 1 (uA P w C CW))
  (DT:jI P w K mg base C "takes" "Net.takes" iz ["self", "move"] 3 (ja C (·.2.1)))
  (DM:gJ P w K mg base "members" gE ["bits"] 1 iN) :
  bo P w K mg base cS 4 f fd ["web", "move", "among"] (Dg P w C CW):=by
 refine F.oK jH fun cdv A outer s H vs Q E hr h=>?_
 ·obtain⟨x,B,ms,S,f,m,rfl,W,fc,kk⟩:=h
  have hu:=dY hr
  have hsl:=Ji
  refine⟨_,af (cB 3 jH (dR (aa (fD (aa (fD ae) (aa (pv 2) ae))) ae)))
   (af (bq IT rfl (aK (bZ (cq (pv 0) CT.cl DN.d.mt DN.g (hr.mono (by decide)) DN.d.bd .nil bz) NC.cl DT.d.mt DT.g hr DT.d.bd .nil bz (aa (pv 1) ae))) (dX 4 jH)
    (af (cB 5 jH (dR ae))
    (af (bq IT rfl (aK (pv 3)) (dt rfl (aL (dX 6 jH) (aL (dX 7 jH) cH)))
     (ai (bq IT rfl (aK (eA DM (hr.mono (by decide)) (aa (aE iF (pv 7) (fh hu (aM (pv 0) rfl) (pv 4) (fun _ _=>rfl))) ae))) (dX 8 jH)
      (ai (a9 (cR Jb IZ I0 aV (pv 5) (aa (fD (aa (aE Bk (pv 6) (fD (aa (pv 8) ae))) (aa (aE iF (pv 7) (bb aR (aM (pv 0) rfl) (pv 8) (fun _ _=>rfl))) ae))) ae)))))))
    (ai (cB 3 jH (pv 5))))))
   (ai (aI (bN (N:=["chosen", "beside"]) (n:=2) (ci:=[]) rfl (aK (pv 3))
     (j6 jH)
     (fun z=>⟨dt rfl (aL (jg 0) (aL (jg 1) cH)),bV,a8 bK rfl T0.tup fj (aa (ay uT rfl T0.aH cn (aa (pv 0) ae)) ae)⟩))))),?_⟩
  have gd:=fc.gd
  have gp:=fc.gp
  have n68:=fc.n68
  have xn:(aH m.2.1).Nodup:=kE.mpr fc.tn
  have x4:(aH m.2.1).length≤4:=by rw [bW];exact fc.t4
  have xp:∀ y∈aH m.2.1,y∈f.W.pl.map (·.1):=fun y hy=>fc.tp y (bE.mp hy)
  refine⟨IU _,fun t0 nt0=>⟨_,rfl,by show 2≤sizeLine;lia,fun p0 np0=>⟨by show 1≤sizeLine;lia,fun c0 nc0=>?_⟩⟩⟩
  have s1:aq H (upd (upd (upd H t0 (.tup [])) p0 (.tup [.ref t0,nat (2 ^ f.W.sp.length-1)])) c0 (.lst [.ref p0])):=((ao nt0).trans (ao np0)).trans (ao nc0)
  have ht0:(upd (upd (upd H t0 (.tup [])) p0 (.tup [.ref t0,nat (2 ^ f.W.sp.length-1)])) c0 (.lst [.ref p0])) t0=some (.tup []):=ao nc0 _ _ (ao np0 _ _ ag)
  have hp0:(upd (upd (upd H t0 (.tup [])) p0 (.tup [.ref t0,nat (2 ^ f.W.sp.length-1)])) c0 (.lst [.ref p0])) p0=some (.tup [.ref t0,nat (2 ^ f.W.sp.length-1)]):=ao nc0 _ _ ag
  have hc0:(upd (upd (upd H t0 (.tup [])) p0 (.tup [.ref t0,nat (2 ^ f.W.sp.length-1)])) c0 (.lst [.ref p0])) c0=some (.lst ([p0].map V.ref)):=ag
  have nc0':H c0=none:=((ao nt0).trans (ao np0)).free nc0
  generalize upd (upd (upd H t0 (.tup [])) p0 (.tup [.ref t0,nat (2 ^ f.W.sp.length-1)])) c0 (.lst [.ref p0])=H1 at s1 ht0 hp0 hc0 ⊢
  have W1:=W.same s1
  have N1:=W1.rB
  obtain⟨dn,nP,nS,nT',nG,kT,kG,nn1,_⟩:=N1.at'.ob
  refine⟨_,rfl,x,B.dx,_,rfl,W1.ad.ins,ck B _ (by decide +kernel),x,B,ms,S,f,rfl,W1,B.p,dn,_,rfl,nn1,cW _ _ _ _ sv qK sJ qS,_,rfl,B.p,ms,S,m,rfl,N1,fc.mm,fun H2 tl s2 ntl htl=>?_⟩
  have c2:uF K H2 (xq f ((aH m.2.1).take 0)) [p0]:=.cons ⟨t0,s2 _ _ hp0,bO.of (s2 _ _ ht0)⟩ .nil
  refine⟨tl,rfl,⟨_,aA.of htl⟩,br (K:=K) (a:=tl) (xs:=aF (aH m.2.1)) (FtI K H H2 x m.1 f (aH m.2.1)) ⟨none,none,none,none,none,c0,[p0],rfl,fun _ _ e=>e,s2 _ _ hc0,c2,nc0'⟩ (fun i σ H3 _ h=>by obtain⟨_,_,_,_,_,_,_,_,s,_⟩:=h;exact aA.of (s _ _ htl)) ?_ ?_⟩
  ·rintro i v σ H3 hi ⟨v4,v5,v6,v7,v8,cl,qs,rfl,s3b,hcl,hch,ncl⟩
   have s3:=(s1.trans s2).trans s3b
   obtain⟨y,hy,rfl⟩:=cZ hi
   have yp:=xp y (IK hy)
   have few0:(xq f ((aH m.2.1).take i)).length≤1336336:=qd gp n68 (xn.sublist (Lq _ _)) (by rw [Jj];lia) fun z hz=>xp z (Kb hz)
   have few1:(iS f y (xq f ((aH m.2.1).take i))).length≤1336336:=by
    rw [← sF hy]
    exact qd gp n68 (xn.sublist (Lq _ _)) (by rw [Jj];lia) fun z hz=>xp z (Kb hz)
   have okc:=md gd gp (xs:=(aH m.2.1).take i) fun z hz=>xp z (Kb hz)
   have eS:=sF (f:=f) hy
   generalize xq f ((aH m.2.1).take i)=cs at hch few0 few1 okc eS
   have lch:=IX hch
   refine⟨IU _,fun lo nlo=>?_⟩
   have s4:aq H3 (upd H3 lo (.lst [])):=ao nlo
   have hlo:(upd H3 lo (.lst [])) lo=some (.lst (([]:List Addr).map V.ref)):=ag
   generalize upd H3 lo (.lst [])=H4 at s4 hlo ⊢
   have nlo0:H lo=none:=s3.free nlo
   refine⟨_,rfl,cl,rfl,⟨_,aA.of (s4 _ _ hcl)⟩,br (K:=K) (a:=cl) (xs:=qs.map V.ref) (FtJ K H3 x cl lo m.1 f y cs) ⟨_,_,_,[],rfl,s4,hlo,.nil⟩ (fun j σ H5 _ h=>?_) ?_ ?_⟩
   ·obtain⟨_,_,_,_,_,s5,_⟩:=h
    exact aA.of (s5 _ _ hcl)
   ·rintro j v σ H5 hj ⟨v6,v7,v8,rs,rfl,s5,hlo5,hch5⟩
    obtain⟨q,hqj,rfl⟩:=gj hj
    obtain⟨c,hcj,t,hq,htc⟩:=bA hch hqj
    have okc:=okc c (IK hcj)
    have cl250:=vy okc
    have b256:(c.2 &&& yl f y)<2 ^ 256:=Jt Nj (IW cl250 (Jr (by decide) (by lia)))
    have W5:=W.same (s3.trans s5)
    have dg:fz H5 B.aP (V.str y) (some (nat (yl f y))):=by
     have:=fz.k (k:=Sum.inr y) W5.ad.pl
     rw [vJ (f:=f) yp] at this
     exact this
    refine⟨q,_,rfl,bO.of (s5 _ _ hq),rfl,_,_,rfl,_,_,rfl,rfl,?_⟩
    refine⟨_,rfl,_,rfl,x,CW,B.dx,_,_,rfl,W5.ad.ins,CT.cl,CT.nP,B.fP,_,rfl,B.aP,_,rfl,dg,_,_,rfl,rfl,c.2 &&& yl f y,(by dsimp only;rw [jx];rfl),b256,fun H6 ml s6 nml hml=>?_⟩
    have ec:iS f y (cs.take (j+1))=iS f y (cs.take j)++CL f y c:=by
     unfold iS
     rw [av hcj,LF]
     simp
    have lec:(iS f y (cs.take (j+1))).length≤1336336:=by
     refine Jf ?_ few1
     unfold iS
     conv=>rhs;rw [← Kg (j+1) cs,LF,List.length_append]
     exact Mf _ _
    refine⟨ml,rfl,⟨_,aA.of hml⟩,br (K:=K) (a:=ml) (xs:=nats (mem (c.2 &&& yl f y))) (FtL K H3 x cl lo m.1 f y (cs.take j) c t ml) ⟨_,rs,rfl,s5.trans s6,s6 _ _ hlo5,(by rw [List.take_zero,MV,Lg];exact hch5.same s6),hml⟩ (fun k σ H7 _ h=>by obtain⟨_,_,_,_,_,_,e⟩:=h;exact aA.of e) ?_ ?_⟩
    ·rintro k v σ H7 hk ⟨v8,rs,rfl,s7,hlo7,hch7,hml7⟩
     obtain⟨n,hn,rfl⟩:=dk hk
     have W7:=W.same (s3.trans s7)
     have l7:=IX hch7
     have nl:n<f.W.sp.length:=pI (Jt Nj cl250) (IK hn)
     have lk:rs.length<1336336:=by
      rw [← l7,List.length_append,List.length_map,Jj]
      rw [ec,List.length_append] at lec
      have hkl:=(IM.mp hn).1
      have:(CL f y c).length=(mem (c.2 &&& yl f y)).length:=by unfold CL;rw [List.length_map]
      lia
     have lc1:c.1.length≤4:=by
      have:=J4 List.length okc.nm
      rw [List.length_map,Jj] at this
      lia
     refine⟨_,rfl,.inl ⟨rfl,_,aA.of hlo7⟩,_,rfl,_,rfl,by show 1≤sizeLine;lia,fun u nu=>?_⟩
     have s8:aq H7 (upd H7 u (.tup [nat n])):=ao nu
     have hu8:(upd H7 u (.tup [nat n])) u=some (.tup (nats [n])):=ag
     generalize upd H7 u (.tup [nat n])=H8 at s8 hu8 ⊢
     refine⟨t,u,nats c.1,nats [n],rfl,rfl,bY (s7.trans s8) htc,bO.of hu8,by rw [aX,aX];show c.1.length+1≤1000;lia,fun H9 r s9 hr9=>?_⟩
     have W9:=W7.same (s8.trans s9)
     refine⟨_,rfl,_,rfl,x,CW,B.dx,_,_,rfl,W9.ad.ins,CT.cl,CT.nB,B.fB,_,rfl,B.aB,_,_,_,rfl,rfl,aA.of W9.ad.be,bh (j:=n) (fQ (by rw [gd.bl];exact nl)),_,_,rfl,rfl,by show 2≤sizeLine;lia,fun z nz=>?_⟩
     dsimp only [nat]
     rw [jx]
     have s10:aq H9 (upd H9 z (.tup [.ref r,V.int ((c.2 &&& f.W.be.getD n 0:Nat):Int)])):=ao nz
     have hz10:(upd H9 z (.tup [.ref r,V.int ((c.2 &&& f.W.be.getD n 0:Nat):Int)])) z=some (.tup [.ref r,nat (c.2 &&& f.W.be.getD n 0)]):=ag
     generalize upd H9 z (.tup [.ref r,V.int ((c.2 &&& f.W.be.getD n 0:Nat):Int)])=H10 at s10 hz10 ⊢
     have s710:aq H7 H10:=s8.trans (s9.trans s10)
     have hlo10:=s710 _ _ hlo7
     refine⟨lo,_,_,rfl,rfl,hlo10,by rw [List.length_map];lia,?_⟩
     have nT:∀ {a xs},H10 a=some (.tup xs)→(upd H10 lo (.lst (rs.map V.ref++[V.ref z]))) a=some (.tup xs):=fun {a xs} e=>by rw [ah (aJ e hlo10 (fun z=>nomatch z))];exact e
     have nS:∀ {a xs},bO K H10 a xs→bO K (upd H10 lo (.lst (rs.map V.ref++[V.ref z]))) a xs:=fun {a xs} e=>Ce e hlo10
     have nml':ml≠lo:=(aj hlo5 nml).symm
     refine⟨_,rs++[z],rfl,aY (s7.trans s710) nlo,(by rw [ag,List.map_append];rfl),?_,by rw [ah nml'];exact s710 _ _ hml7⟩
     rw [av hn,List.map_append,← List.append_assoc]
     refine JZ (Paired.cu (hch7.same s710) fun _ _ ⟨t,a,b⟩=>⟨t,nT a,nS b⟩) ⟨r,nT hz10,nS (bY s10 ?_)⟩
     have:nats c.1++nats [n]=nats (c.1++[n]):=by unfold nats;rw [List.map_append]
     rw [← this]
     exact hr9
    ·rintro σ H7 ⟨v8,rs,rfl,s7,hlo7,hch7,_⟩
     rw [aX,Jc] at hch7
     refine⟨_,_,_,rs,rfl,s7,hlo7,?_⟩
     rw [ec]
     exact hch7
   ·rintro σ H5 ⟨v6,v7,v8,rs,rfl,s5,hlo5,hch5⟩
    rw [List.length_map,← lch,Jc] at hch5
    refine⟨_,rfl,?_⟩
    refine⟨_,_,_,_,_,lo,rs,rfl,s3b.trans s5,hlo5,?_,nlo0⟩
    rw [eS]
    exact hch5
  ·rintro σ H3 ⟨v4,v5,v6,v7,v8,cl,qs,rfl,s3b,hcl,hch,ncl⟩
   have s3:=(s1.trans s2).trans s3b
   rw [aw,Jc] at hch
   have i9:=qd gp n68 xn x4 xp
   have okc:=md gd gp (xs:=aH m.2.1) xp
   have lch:=IX hch
   refine⟨_,rfl,cl,rfl,⟨_,aA.of hcl⟩,fun z D hD=>cy (a:=cl) (xs:=qs.map V.ref) (fun j ys H4=>∃ rs:List Addr,ys=rs.map V.ref∧H4 D=some (.lst ys)∧aq H3 H4∧Paired (fun T q=>H4 q=some (.tup (nats T))) (((xq f (aH m.2.1)).take j).map fun c=>bQ c.1) rs) ⟨[],rfl,ag,ao hD,.nil⟩ (fun j ys H4 _ ⟨_,_,_,s4,_⟩=>aA.of (s4 _ _ hcl)) ?_ ?_⟩
   ·rintro j v ys H4 hj ⟨rs,rfl,hys,s4,hrs⟩
    obtain⟨q,hqj,rfl⟩:=gj hj
    obtain⟨c,hcj,t,hq,htc⟩:=bA hch hqj
    have hjl:=(IM.mp hcj).1
    have okc:=okc c (IK hcj)
    have lc1:c.1.length≤4:=by
     have:=J4 List.length okc.nm
     rw [List.length_map] at this
     lia
    have lrs:=IX hrs
    rw [List.length_map,Jj] at lrs
    refine⟨q,_,rfl,bO.of (s4 _ _ hq),rfl,_,_,rfl,_,_,rfl,rfl,_,rfl,t,c.1,rfl,bY s4 htc,by lia,fun so nso=>⟨so,_,rfl,.inl ⟨aA.of ag,fun u nu=>?_⟩⟩⟩
    have s5:aq H4 (upd (upd H4 so (.lst (nats (bQ c.1)))) u (.tup (nats (bQ c.1)))):=(ao nso).trans (ao nu)
    have hu5:(upd (upd H4 so (.lst (nats (bQ c.1)))) u (.tup (nats (bQ c.1)))) u=some (.tup (nats (bQ c.1))):=ag
    generalize upd (upd H4 so (.lst (nats (bQ c.1)))) u (.tup (nats (bQ c.1)))=H5 at s5 hu5 ⊢
    have hys5:=s5 _ _ hys
    refine⟨hys5,by rw [List.length_map];lia,rs++[u],by rw [List.map_append];rfl,ag,aY (s4.trans s5) hD,?_⟩
    rw [av hcj,List.map_append]
    have nT:∀ {a xs},H5 a=some (.tup xs)→(upd H5 D (.lst (rs.map V.ref++[V.ref u]))) a=some (.tup xs):=fun {a xs} e=>by rw [ah (aJ e hys5 (fun z=>nomatch z))];exact e
    exact JZ (Paired.cu hrs fun _ _ e=>nT (s5 _ _ e)) (nT hu5)
   ·rintro ys H4 ⟨rs,rfl,hys,s4,hrs⟩
    rw [List.length_map,← lch,Jc] at hrs
    exact kk _ D rs (s3.trans s4) (s3.free hD) hys hrs
abbrev vf:Stmt:=top 33
structure AV(f:WF)(ms:List Mv)(S:List Str):Prop where
 gd:Good f
 gp:eY f.W
 pk:f.W.pl.map (·.1)=cF ms S
 n68:f.W.sp.length≤68
 oc:f.oc.length≤200
def Ei{f:WF}{ms:List Mv}{S:List Str}{m:Mv}(so:Sound ms S)(g:AV f ms S)(hm:m∈ms){c:Ch}(h:ub f (aH m.2.1) c)(new:(m.1,bQ c.1)∉f.oc):xt f ms S m (bQ c.1):=by
 obtain⟨t1,t2,t3,t4,t5⟩:=fY (so.mv m hm)
 have lc:c.1.length=m.2.1.length:=by
  have:=J4 List.length h.nm
  rw [List.length_map,bW] at this
  exact this
 have n68:=g.n68
 have pk:=g.pk
 have mem:∀ {t},t∈bQ c.1→t∈c.1:=fun {t} ht=>zu.mp ht
 have lT:(bQ c.1).length=c.1.length:=iA _
 refine⟨hm,⟨fun t ht=>h.lt t (mem ht),fun z=>?_,fun a ha b hb n=>h.side a (mem ha) b (mem hb) n,by rw [bW];lia⟩,by lia,(c6 c.1).nodup_iff.mpr h.nd,?_,new,g.oc,by rw [pk];exact qf ms S,?_,fun y hy=>by rw [pk];exact jW.mpr (.inr ⟨m,hm,.inr hy⟩)⟩
 ·rw [z] at lT
  simp at lT
  lia
 ·rw [ka ((c6 c.1).map (nX f)),h.nm,B9]
 ·have:=J4 List.length pk
  rw [List.length_map] at this
  rw [this]
  exact so.pl
def Ee{f:WF}{ms:List Mv}{S:List Str}{m:Mv}(so:Sound ms S)(g:AV f ms S)(hm:m∈ms):Ga f ms m:=by
 obtain⟨t1,t2,t3,t4,t5⟩:=fY (so.mv m hm)
 exact⟨g.gd,g.gp,g.n68,hm,dE t1,t4,fun y hy=>by rw [g.pk];exact jW.mpr (.inr ⟨m,hm,.inl hy⟩)⟩
def named{ms:List Mv}{z:Str}(h:z∈names ms):∃ m∈ms,m.1=z:=by
 obtain⟨m,hm,e⟩:=IV.mp h
 exact⟨m,hm,e⟩
def zL(P:Program)(w:World)(C CW:Addr):Sp:=fun vs H Q _=>∃ (x:Addr) (B:WA) (ms:List Mv) (S:List Str) (f:WF),vs=[.ref x]∧dw P w C CW H x B ms S f∧AV f ms S ∧
 ∀ (H':Hp) (r:Addr) (qs:List Addr),aq H H'→H r=none→H' r=some (.lst (qs.map V.ref))→(∀ q∈qs,∃ m T,jy H' (m.1,T) q∧xt f ms S m T∧bQ T=T)→Q (.ref r) H'
def lO:aD ["web", "every_spot", "found", "move", "spots"] ["web"] (au vf):=eR
def Fd(f:WF)(ms:List Mv)(S:List Str)(H:Hp)(q:Addr):Prop:=∃ m T,jy H (m.1,T) q∧xt f ms S m T∧bQ T=T
def Fd.put{f:WF}{ms:List Mv}{S:List Str}{H H':Hp}{q:Addr}(h:Fd f ms S H q)(s:∀ a xs,H a=some (.tup xs)→H' a=some (.tup xs)):Fd f ms S H' q:=let ⟨m,T,a,b⟩:=h;⟨m,T,a.same s,b⟩
inductive CgI(H Hb:Hp)(x fo:Addr)(f:WF)(ms:List Mv)(S:List Str)(i:Nat)(σ:St)(H2:Hp):Prop
 | mk (v3 v4:Option V) (rs:List Addr) (q0:σ=[some (.ref x),some (nat (2 ^ f.W.sp.length-1)),some (.ref fo),v3,v4]) (q1:∀ c o,Hb c=some o→c≠fo→H2 c=some o) (q2:H2 fo=some (.lst (rs.map V.ref))) (q3:∀ q∈rs,Fd f ms S H2 q) (q4:rs.length≤i*1336336)
inductive CgJ(Hb:Hp)(x fo:Addr)(f:WF)(ms:List Mv)(S:List Str)(n:Nat)(v3:Option V)(j:Nat)(σ:St)(H2:Hp):Prop
 | mk (v4:Option V) (rs:List Addr) (q0:σ=[some (.ref x),some (nat (2 ^ f.W.sp.length-1)),some (.ref fo),v3,v4]) (q1:∀ c o,Hb c=some o→c≠fo→H2 c=some o) (q2:H2 fo=some (.lst (rs.map V.ref))) (q3:∀ q∈rs,Fd f ms S H2 q) (q4:rs.length≤n+j)
def Cg{f C CW:Addr}{fd:FuncData}(F:dv K "comings" "comings" vf f fd)(T0:Txt K mg)(NC:gU K C)(CT:gG K CW)
  (DB:gJ P w K mg base "bit" u7 ["number"] 1 sP)
  (DS:jI P w K mg base CW "spots" "Web.spots" yc ["self"] 1 (mT P w C CW WA.aS))
  (DN:jI P w K mg base CW "net" "Web.net" rM ["self"] 1 (uA P w C CW))
  (DG:jI P w K mg base C "moves" "Net.moves" oF ["self"] 1 (pW C))
  (DF:gJ P w K mg base "fitting_spots" AZ ["web", "move", "among"] 4 (Dg P w C CW)) :
  bo P w K mg base cS 5 f fd ["web"] (zL P w C CW):=by
 refine F.oK lO fun cdv A outer s H vs Q E hr h=>?_
 ·obtain⟨x,B,ms,S,f,rfl,W,g,kk⟩:=h
  have hsl:=Ji
  have hr1:cw 1 _:=hr.mono (by decide)
  refine⟨_,af (cB 1 lO (aE kH (eA DB hr1 (aa (ay bu rfl T0.len cL (aa (cq (pv 0) CT.cl DS.d.mt DS.g hr1 DS.d.bd .nil bz) ae)) ae)) ak))
   (af (cB 2 lO (dR ae))
   (af (bq IT rfl (aK (cq (cq (pv 0) CT.cl DN.d.mt DN.g hr1 DN.d.bd .nil bz) NC.cl DG.d.mt DG.g hr1 DG.d.bd .nil bz)) (dX 3 lO)
    (ai (bq IT rfl (aK (eA DF hr (aa (pv 0) (aa (pv 3) (aa (pv 1) ae))))) (dX 4 lO)
     (ai (bH (bj yV (fD (aa (pv 3) (aa (pv 4) ae))) (aM (pv 0) rfl) (by with_unfolding_all rfl))
      (ai (a9 (cR Jb IZ I0 aV (pv 2) (aa (fD (aa (pv 3) (aa (pv 4) ae))) ae)))) aU)))))
   (ai (aI (ay tj rfl T0.aH cn (aa (pv 2) ae)))))),?_⟩
  have so:=W.rB.so
  obtain⟨qs,i1,i2⟩:=W.ad.sp
  have ls:=IX i2
  have n68:=g.n68
  refine⟨_,rfl,x,B.dx,_,rfl,W.ad.ins,ck B _ (by decide +kernel),x,B,ms,S,f,_,rfl,W,i1,fun sl nsl=>?_⟩
  obtain⟨H1,eU,s1,hsl1⟩:=nE nsl (.lst (qs.map V.ref))
  rw [eU]
  refine⟨_,qs.length,rfl,.inl ⟨_,aA.of hsl1,by rw [List.length_map]⟩,qs.length,rfl,by lia,_,_,rfl,rfl,?_⟩
  rw [← ls]
  have e0:V.int (((2 ^ f.W.sp.length:Nat):Int)-1)=nat (2 ^ f.W.sp.length-1):=by rw [Fe];rfl
  refine⟨IU _,fun fo nfo=>?_⟩
  have s2:aq H1 (upd H1 fo (.lst [])):=ao nfo
  have hfo:(upd H1 fo (.lst [])) fo=some (.lst (([]:List Addr).map V.ref)):=ag
  generalize upd H1 fo (.lst [])=H2 at s2 hfo ⊢
  have nfo0:H fo=none:=s1.free nfo
  have s02:=s1.trans s2
  have W2:=W.same s02
  have N2:=W2.rB
  obtain⟨dn,nP,nS,nT',nG,kT,kG,nn1,_⟩:=N2.at'.ob
  refine⟨_,rfl,x,B.dx,_,rfl,W2.ad.ins,ck B _ (by decide +kernel),x,B,ms,S,f,rfl,W2,B.p,dn,_,rfl,nn1,cW _ _ _ _ yw zM zv zC,B.p,ms,S,rfl,N2,fun H3 ml s3 nml hml=>?_⟩
  have hfo3:=s3 _ _ hfo
  have nmf:ml≠fo:=(aj hfo nml).symm
  have s03:=s02.trans s3
  refine⟨ml,rfl,⟨_,aA.of hml⟩,br (K:=K) (a:=ml) (xs:=aF (aH (names ms))) (CgI H H3 x fo f ms S) ⟨none,none,[],?_,fun _ _ e _=>e,hfo3,fun q hq=>(by simp at hq),by simp⟩ (fun i σ H4 _ h=>by obtain⟨_,_,_,_,b,_⟩:=h;exact aA.of (b _ _ hml nmf)) ?_ ?_⟩
  ·show _=[_,some (nat (2 ^ f.W.sp.length-1)),_,_,_]
   rw [← e0]
   rfl
  ·rintro i v σ H4 hi ⟨v3,v4,rs,rfl,b4,hfo4,hfd,lr⟩
   obtain⟨z,hz,rfl⟩:=cZ hi
   obtain⟨m,hm,rfl⟩:=named (bE.mp (IK hz))
   have fc:=Ee so g hm
   have okc:=md g.gd g.gp (xs:=aH m.2.1) fun y hy=>fc.tp y (bE.mp hy)
   have i9:=qd g.gp n68 (kE.mpr fc.tn) (by rw [bW];exact fc.t4) fun y hy=>fc.tp y (bE.mp hy)
   have s04:aq H H4:=fun c o e=>b4 _ _ (s03 _ _ e) (aj e nfo0)
   have W4:=W.same s04
   refine⟨_,rfl,_,rfl,_,rfl,x,B,ms,S,f,m,rfl,W4,fc,fun H5 r us s5 nr hr5 hus=>?_⟩
   have nrf:r≠fo:=(aj hfo4 nr).symm
   have il:i<12:=by
    have:=(IM.mp hz).1
    rw [bW] at this
    have:=so.ml
    unfold names at *
    rw [List.length_map] at *
    lia
   have lus:=IX hus
   rw [List.length_map] at lus
   refine⟨r,rfl,⟨_,aA.of hr5⟩,br (K:=K) (a:=r) (xs:=us.map V.ref) (CgJ H5 x fo f ms S rs.length _) ⟨_,rs,rfl,fun _ _ e _=>e,s5 _ _ hfo4,fun q hq=>(hfd q hq).put fun _ _ e=>s5 _ _ e,by lia⟩ (fun j σ H6 _ h=>by obtain⟨_,_,_,b,_⟩:=h;exact aA.of (b _ _ hr5 nrf)) ?_ ?_⟩
   ·rintro j v σ H6 hj ⟨v4,rs,rfl,b6,hfo6,hfd6,lr6⟩
    obtain⟨u,huj,rfl⟩:=gj hj
    have jl:=(IM.mp huj).1
    obtain⟨T,hT,hu⟩:=bA hus huj
    rw [List.getElem?_map] at hT
    obtain⟨c,hc,rfl⟩:=JJ.mp hT
    have okc:=okc c (IK hc)
    have hu6:=b6 _ _ hu (aJ hu (s5 _ _ hfo4) (fun z=>nomatch z))
    have s06:aq H H6:=fun a o e=>b6 _ _ (s5 _ _ (s04 _ _ e)) (aj e nfo0)
    refine⟨_,rfl,_,rfl,by show 2≤sizeLine;lia,fun t nt=>?_⟩
    obtain⟨H7,eU,s7,ht7⟩:=nE nt (.tup [.str m.1,.ref u])
    rw [eU]
    have W7:=W.same (s06.trans s7)
    obtain⟨qo,o1,o2,o3⟩:=W7.oc
    have lo:=IX o2
    have zk:(f.oc.zip qo).map (·.1)=f.oc:=M7 (by lia)
    refine⟨_,rfl,x,CW,B.dx,_,_,rfl,W7.ad.ins,CT.cl,CT.nH,B.fH,t,B.aN,(m.1,bQ c.1),f.oc.zip qo,rfl,rfl,ni hr,⟨u,ht7,s7 _ _ hu6⟩,o3,fun z hz=>gL o2 hz,_,rfl,?_⟩
    rw [zk]
    have b7:∀ c o,H5 c=some o→c≠fo→H7 c=some o:=fun c o e n=>s7 _ _ (b6 c o e n)
    by_cases hin:(m.1,bQ c.1)∈f.oc
    ·rw [IL hin]
     exact bB ⟨_,rs,rfl,b7,s7 _ _ hfo6,fun q hq=>(hfd6 q hq).put fun _ _ e=>s7 _ _ e,by lia⟩
    ·rw [decide_eq_false hin]
     refine bF ?_
     have hfo7:=s7 _ _ hfo6
     refine⟨_,rfl,.inl ⟨rfl,_,aA.of hfo7⟩,_,rfl,_,rfl,by show 2≤sizeLine;lia,fun t2 nt2=>?_⟩
     obtain⟨H8,eU,s8,ht8⟩:=nE nt2 (.tup [.str m.1,.ref u])
     rw [eU]
     have hfo8:=s8 _ _ hfo7
     have lb:rs.length<16777216:=by
      have:i*1336336≤11*1336336:=K6 _ (by lia)
      lia
     refine⟨fo,_,_,rfl,rfl,hfo8,by rw [List.length_map];lia,?_⟩
     have nT:∀ a xs,H8 a=some (.tup xs)→(upd H8 fo (.lst (rs.map V.ref++[V.ref t2]))) a=some (.tup xs):=fun a xs e=>by rw [ah (aJ e hfo8 (fun z=>nomatch z))];exact e
     refine⟨_,rs++[t2],rfl,fun a o e n=>by rw [ah n];exact s8 _ _ (b7 a o e n),by rw [ag,List.map_append];rfl,fun q hq=>?_,by rw [List.length_append];show rs.length+1≤_;lia⟩
     rcases Ja.mp hq with z | z
     ·exact((hfd6 q z).put fun _ _ e=>s8 _ _ (s7 _ _ e)).put nT
     ·have z:q=t2:=by simpa using z
      rw [z]
      exact⟨m,bQ c.1,⟨u,nT _ _ ht8,nT _ _ (s8 _ _ (s7 _ _ hu6))⟩,Ei so g hm okc hin,ur (c6 c.1)⟩
   ·rintro σ H6 ⟨v4,rs',rfl,b6,hfo6,hfd6,lr6⟩
    refine⟨_,_,rs',rfl,fun c o e n=>b6 _ _ (s5 _ _ (b4 c o e n)) n,hfo6,hfd6,?_⟩
    rw [List.length_map] at lr6
    rw [Nat.succ_mul]
    lia
  ·rintro σ H4 ⟨v3,v4,rs,rfl,b4,hfo4,hfd,lr⟩
   have s04:aq H H4:=fun c o e=>b4 _ _ (s03 _ _ e) (aj e nfo0)
   refine⟨_,rfl,fo,rs,rfl,aA.of hfo4,ni hr,fun q hq=>?_,fun p qs' np hq' _=>?_⟩
   ·obtain⟨m,T,⟨t,a,b⟩,_⟩:=hfd q hq
    exact⟨_,t,T,a,b⟩
   ·have s5:aq H4 (upd H4 p (.lst (qs'.map V.ref))):=ao np
    exact kk _ p qs' (s04.trans s5) (s04.free np) ag fun q hq=>(hfd q (hq' q hq)).put fun _ _ e=>s5 _ _ e
end Uf
end
section
set_option maxHeartbeats 400000
namespace Uf
open PySem L2 UfB UfM UfSrt
def fC(pl:List (Str × Nat))(xs:List Str):WF:=⟨(bp none (⟨[],[],[],pl⟩,0) xs).1,[],[]⟩
def oG(pl:List (Str × Nat)){xs:List Str}(h:xs.length≤250):E5 none (⟨[],[],[],pl⟩,0) (bp none (⟨[],[],[],pl⟩,0) xs) xs 0 :=
 Gu (n:=0) rfl rfl (show 0<2 ^ 0 by decide) _ xs rfl (by lia)
def rep0(n a:Nat):(List.replicate n 0).getD a 0=0:=by
 rw [List.getD_eq_getElem?_getD,Ld]
 split <;> rfl
def tE(pl:List (Str × Nat)){xs:List Str}(h:xs.length≤250):Good (fC pl xs):=by
 have A:=oG pl h
 have hsp:(fC pl xs).W.sp=xs.map (fun x=>(x,none)):=by
  have:=A.sp
  rw [Ni] at this
  exact this
 have htk:(fC pl xs).W.tk=List.replicate xs.length 0:=by
  have:=A.tk
  rw [Ni] at this
  exact this
 have lsp:(fC pl xs).W.sp.length=xs.length:=by rw [hsp,List.length_map]
 have lbe:(fC pl xs).W.be.length=xs.length:=by
  have:=A.bl
  rwa [Ml] at this
 have ntk:∀ s o,¬((fC pl xs).W.tk.getD s 0).testBit o=true:=fun s o z=>by
  rw [htk,rep0,M8] at z
  cases z
 have ngv:∀ s g,¬ cT (fC pl xs).W.sp s=some g:=fun s g z=>by
  rw [hsp] at z
  unfold cT at z
  rw [List.getElem?_map] at z
  cases e:xs[s]? with
  | none=>rw [e] at z;cases z
  | some x=>rw [e] at z;cases z
 have nfk:∀ Pr,¬(wb (fC pl xs)).forked Pr:=fun Pr ⟨o1,_,u,_,_,_,t1,_⟩=>ntk u o1 t1
 have bits:∀ i k,i<xs.length→((fC pl xs).W.be.getD i 0).testBit k=(decide (k<xs.length)&&decide (k≠i)):=fun i k hi=>by
  have:=A.new i k hi
  rw [Ml,Ml] at this
  show((bp none (⟨[],[],[],pl⟩,0) xs).1.be.getD i 0).testBit k=_
  rw [this]
  simp
 refine⟨by rw [lsp,htk,Kt],by rw [lbe,lsp],rfl,by rw [lsp];exact h,fun s g z=>absurd z (ngv s g),fun o j z=>?_,fun s o z=>absurd z (ntk s o),fun s o z=>absurd z (ntk s o),fun s=>nfk _,fun a k z=>?_,fun a b ha hb=>?_⟩
 ·have z:(([]:List Nat).getD o 0).testBit j=true:=z
  rw [gC (IU _),M8] at z
  cases z
 ·rw [lsp]
  by_cases ha:a<xs.length
  ·rw [bits a k ha,Ka,Jo] at z
   exact z.1
  ·rw [gC (by rw [lbe];lia),M8] at z
   cases z
 ·rw [lsp] at ha hb
  rw [bits a b ha,IL hb,K1,Jo]
  exact⟨fun z=>⟨z.symm,fun o t=>absurd t (ntk a o),fun o t=>absurd t (ntk b o),nfk _⟩,fun z=>z.1.symm⟩
end Uf
end
section
namespace Uf
open PySem L2 UfB UfSrt UfTs
theorem tK{g:Option Nat}:∀ (xs:List Str) (p:nC × Nat),(bp g p xs).1.pl.map (·.1)=p.1.pl.map (·.1)
 | [],_=>rfl
 | x::xs,p=>(tK xs (eC g p x)).trans (kF _ _ _)
structure iT(f:WF)(ms:List Mv)(S:List Str)(k:Nat):Prop where
 gd:Good f
 gp:eY f.W
 pk:f.W.pl.map (·.1)=cF ms S
 sl:f.W.sp.length≤12+4*k
 oc:f.oc.length≤k
 ol:∀ p∈f.oc,p.2.length≤4∧∀ s∈p.2,s<f.W.sp.length
def iT.g{f:WF}{ms:List Mv}{S:List Str}{k:Nat}(h:iT f ms S k)(hk:k≤14):AV f ms S:=⟨h.gd,h.gp,h.pk,by have:=h.sl;lia,by have:=h.oc;lia⟩
def iT.le{f:WF}{ms:List Mv}{S:List Str}{k j:Nat}(h:iT f ms S k)(hk:k≤j):iT f ms S j:=⟨h.gd,h.gp,h.pk,by have:=h.sl;lia,by have:=h.oc;lia,h.ol⟩
def tJ{ms:List Mv}{S:List Str}(so:Sound ms S):iT (fC (W0 ms S).pl (aH S)) ms S 0:=by
 have sl:=so.Hn
 have l:(aH S).length≤250:=by rw [bW];lia
 refine⟨tE _ l,ky _ _ fun p hp s=>?_,(tK _ _).trans ?_,?_,IU _,fun p hp=>(by cases hp)⟩
 ·obtain⟨x,hx,rfl⟩:=IV.mp (show p∈(cF ms S).map fun x=>(x,0) from hp)
  show(0:Nat).testBit s=true↔(([]:List (Str × Option Nat))[s]?).map (·.1)=some x
  simp
 ·show((cF ms S).map fun x=>(x,0)).map (·.1)=_
  rw [List.map_map]
  exact Nn _
 ·have:=(oG (W0 ms S).pl l).sp
  show(bp _ _ _).1.sp.length≤_
  rw [this,List.length_append,List.length_map,bW]
  show 0+S.length≤12+4*0
  lia
def xY{f:WF}{ms:List Mv}{S:List Str}{m:Mv}{T:List Nat}{k:Nat}(so:Sound ms S)(h:iT f ms S k)(c:xt f ms S m T):iT (dJ f m.1 T (aH m.2.2)) ms S (k+1):=by
 obtain⟨_,_,_,_,g4⟩:=fY (so.mv m c.mm)
 have sl:=h.sl
 have oc:=h.oc
 refine⟨wV h.gd c.may,uX h.gp,(tK _ _).trans h.pk,?_,?_,fun p hp=>?_⟩
 ·have:=(hV h.gd c.may).sp
  show(bp _ _ _).1.sp.length≤_
  rw [this,List.length_append,List.length_map,bW]
  show f.W.sp.length+_≤_
  lia
 ·show(f.oc++[_]).length≤_
  rw [List.length_append]
  show f.oc.length+1≤_
  lia
 ·have:=(hV h.gd c.may).sp
  have l:f.W.sp.length≤(dJ f m.1 T (aH m.2.2)).W.sp.length:=by
   show _≤(bp _ _ _).1.sp.length
   rw [this,List.length_append]
   exact Mf _ _
  rcases Ja.mp (show p∈f.oc++[(m.1,T)] from hp) with z | z
  ·exact⟨(h.ol p z).1,fun s hs=>IW ((h.ol p z).2 s hs) l⟩
  ·have z:p=(m.1,T):=by simpa using z
   subst z
   exact⟨c.l4,fun s hs=>IW (c.may.lt s hs) l⟩
abbrev vp:Stmt:=top 54
def zf(P:Program)(w:World)(C CW:Addr):Sp:=fun vs H Q _=>∃ (p l:Addr) (ms:List Mv) (S:List Str) (cs:List Int),vs=[.ref p,.ref l]∧cc C H p ms S∧UfBfs.Told (graph ms) (aH S) none∧H l=some (.lst (cs.map V.int))∧cs.length≤14 ∧
 ∀ H' x B f,aq H H'→dw P w C CW H' x B ms S f→iT f ms S 14→Q (.ref x) H'
def kh:aD ["_law_net", "_law_cells", "_law_web", "_law_cell", "_law_some", "_law_move", "_law_spots"] ["_law_net", "_law_cells"] (au vp):=eR
inductive HwI(P:Program)(w:World)(C CW:Addr)(H:Hp)(p l x:Addr)(B:WA)(ms:List Mv)(S:List Str)(i:Nat)(σ:St)(H2:Hp):Prop
 | mk (v3 v4 v5 v6:Option V) (f:WF) (q0:σ=[some (.ref p),some (.ref l),some (.ref x),v3,v4,v5,v6]) (q1:aq H H2) (q2:dw P w C CW H2 x B ms S f) (q3:iT f ms S i)
def yE{C CW x p:Addr}{H H0 H1:Hp}{ms:List Mv}{S:List Str}(N:cc C H p ms S)(s0:aq H H0)(nx:H x=none)(hw:zj CW H0 H1 x p (bp none (W0 ms S,0) (aH S)).1)(b:∀ c o,H0 c=some o→c≠x→H1 c=some o) :
  ∃ B:WA,H1 B.aN=some (.dK [])∧aq H (upd H1 B.aN (PD P w B.aN []))∧dw P w C CW (upd H1 B.aN (PD P w B.aN [])) x B ms S (fC (W0 ms S).pl (aH S))∧∀ a∈B.l,H a=none:=by
 obtain⟨dx,aS,aO,aN,aW,aG,aB,aT,aP,hA,hO,hN,hW,hG,nd,fr⟩:=hw
 have fr':∀ a∈[aP,aT,aB,aG,aW,aN,aO,aS],H a=none:=fun a ha=>s0.free (fr a ha)
 have s1:aq H (upd H1 aN (PD P w aN [])):=fun c o e=>by
  rw [ah (aj e (fr' aN (by simp)))]
  exact b c o (s0 _ _ e) (aj e nx)
 have k:∀ {c o},H1 c=some o→o≠.dK []→(upd H1 aN (PD P w aN [])) c=some o:=fun {c o} e n=>by
  rw [ah (aJ e hN n)]
  exact e
 obtain⟨qs,i1,i2⟩:=hA.sp
 refine⟨⟨p,dx,aS,aO,aN,aW,aG,aB,aT,aP⟩,hN,s1,⟨⟨k hA.ins (fun z=>nomatch z),⟨qs,k i1 (fun z=>nomatch z),Paired.cu i2 fun _ _ e=>k e (fun z=>nomatch z)⟩,k hA.tk (fun z=>nomatch z),k hA.be (fun z=>nomatch z),?_⟩,⟨[],k hO (fun z=>nomatch z),.nil,ag⟩,k hW (fun z=>nomatch z),⟨[],k hG (fun z=>nomatch z),rfl⟩,nd,?_⟩,fr'⟩
 ·show upd H1 aN _ aP=_
  rw [ah (fun z=>by simp [z] at nd)]
  exact hA.pl
 ·refine N.same fun c o e=>?_
  have n:c≠aP:=aj e (fr' aP (by simp))
  show rm _ aP c=_
  rw [vk n]
  exact s1 _ _ e
def BH{f C CW fI:Addr}{fd fdI:FuncData}(F:dv K "_law_hand_web" "_law_hand_web" vp f fd)(T:Txt K mg)(CT:gG K CW)(mgC:mg "Web"=some (.ref CW))(M:Mk K CW fI)(bI:Binds K fdI ["self", "net"] [])(GI:bo P w K mg base cS 8 fI fdI ["self", "net"] (vh C CW))
  (DC:gJ P w K mg base "comings" vf ["web"] 5 (zL P w C CW))
  (DM:jI P w K mg base CW "come" "Web.come" vZ ["self", "move", "spots"] 5 (yv P w C CW)) :
  bo P w K mg base cS 10 f fd ["_law_net", "_law_cells"] (zf P w C CW):=by
 refine F.oK kh fun cdv A outer s H vs Q E hr h=>?_
 ·obtain⟨p,l,ms,S,cs,rfl,N,told,hl,lc,kk⟩:=h
  have hr5:cw 5 _:=hr.mono (by decide)
  refine⟨_,af (cB 2 kh (ES (vU M GI hr rfl mgC bI .nil bz (aa (pv 0) ae))))
   (af (bq IT rfl (aK (pv 1)) (dX 3 kh)
    (af (cB 4 kh (eA DC hr5 (aa (pv 2) ae)))
    (ai (bH (bj ne_nil (pv 4) (bL ae) (bC _))
     (af (jo (bb aR (pv 4) (aE cv (pv 3) (ay bu rfl T.len cL (aa (pv 4) ae))) (fun _ _=>rfl)) (dt rfl (aL (dX 5 kh) (aL (dX 6 kh) cH))))
     (ai (a9 (bZ (pv 2) CT.cl DM.d.mt DM.g hr5 DM.d.bd .nil bz (aa (pv 5) (aa (a8 jm rfl T.lst dA (aa (pv 6) ae)) ae)))))) aU))))
   (ai (aI (pv 2)))),?_⟩
  have so:=N.so
  refine⟨_,rfl,fun x dx nx ndx nxd=>?_⟩
  have sn:aq H (upd (upd H dx (.own x)) x (.ins CW dx [])):=fun b o e=>by
   rw [ah (aj e nx),ah (aj e ndx)]
   exact e
  refine⟨x,dx,p,ms,S,rfl,ag,N.same sn,told,fun H1 nw b1=>⟨rfl,?_⟩⟩
  obtain⟨B,hN,s1,W,fr⟩:=yE (P:=P) (w:=w) N sn nx nw b1
  refine⟨B.aN,hN,?_⟩
  refine⟨_,rfl,l,rfl,⟨_,aA.of (s1 _ _ hl)⟩,br (K:=K) (a:=l) (xs:=cs.map V.int) (HwI P w C CW H p l x B ms S) ⟨none,none,none,none,_,rfl,s1,W,tJ so⟩ (fun i σ H2 _ h=>by obtain⟨_,_,_,_,_,_,b,_⟩:=h;exact aA.of (b _ _ hl)) ?_ ?_⟩
  ·rintro i v σ H3 hi ⟨v3,v4,v5,v6,f,rfl,s3,W3,wk⟩
   obtain⟨c,hc,rfl⟩:=ints_get hi
   have il:i<cs.length:=(IM.mp hc).1
   refine⟨_,rfl,x,B,ms,S,f,rfl,W3,wk.g (by lia),fun H4 r qs s4 nr hr4 hqs=>?_⟩
   refine⟨_,rfl,IU _,fun e H5 ne s5 he=>⟨r,e,_,rfl,rfl,hr.tD,aA.of (s5 _ _ hr4),aA.of he,_,rfl,?_⟩⟩
   have s35:=s4.trans s5
   cases qs with
   | nil=>exact bB ⟨_,_,_,_,f,rfl,s3.trans s35,W3.same s35,wk.le (JY _)⟩
   | cons q0 qs =>
    refine bF ?_
    have hr5':=s5 _ _ hr4
    generalize hq:q0::qs=us at hqs hr5'
    have l0:0<us.length:=by rw [← hq];exact Nat.succ_pos _
    have m0:0≤c % (us.length:Int):=Lk _ (by lia)
    have m1:c % (us.length:Int)<us.length:=KR _ (by lia)
    obtain⟨j,ej⟩:∃ j:Nat,c % (us.length:Int)=(j:Int):=⟨(c % (us.length:Int)).toNat,by lia⟩
    have jl:j<us.length:=by lia
    have huj:us[j]?=some us[j]:=IG jl
    generalize us[j]=u at huj
    obtain⟨m,U,⟨t,ht,htU⟩,can,eU⟩:=hqs u (IK huj)
    refine⟨_,rfl,_,rfl,_,rfl,_,us.length,rfl,.inl ⟨_,aA.of hr5',by rw [List.length_map]⟩,_,_,rfl,rfl,(by lia),r,_,_,_,rfl,rfl,aA.of hr5',by rw [ej];exact bh (j:=j) (by rw [List.getElem?_map,huj];rfl),u,_,rfl,bO.of (s5 _ _ ht),rfl,_,_,rfl,_,_,rfl,rfl,?_⟩
    have W5:=W3.same s35
    refine⟨_,rfl,x,B.dx,_,rfl,W5.ad.ins,ck B _ (by decide +kernel),_,rfl,_,rfl,t,_,rfl,.inr (bO.of (s5 _ _ htU)),fun a H6 na s6 ha=>?_⟩
    have W6:=W5.same s6
    rw [← eU] at can
    exact⟨x,a,B,ms,S,f,m,U,rfl,W6,wk.gd,ha,can,fun H7 W7 b7=>⟨_,_,_,_,_,rfl,fun a o e=>b7 _ _ ((s3.trans (s35.trans s6)) _ _ e) fun z=>(by have:=fr a z;rw [e] at this;cases this),W7,xY so wk can⟩⟩
  ·rintro σ H3 ⟨v3,v4,v5,v6,f,rfl,s3,W3,wk⟩
   rw [List.length_map] at wk
   exact⟨_,rfl,kk _ x B f s3 W3 (wk.le lc)⟩
end Uf
end
section
namespace L2
open PySem PySem.Spec PyProof.Rows
def AQ(a d:Value):argsOk "max" ⟨[a],[(Str.ofString "default",d)]⟩:=by unfold argsOk;kernel_rfl
section
variable {prog:Program}{w:World}{A:Around}{R:Result→Shared→Prop}{I S:Addr}{fp wr:List Addr}{n:Nat}{P:Nat→Value→Prop}{St:Nat→Heap→Prop}{num:Nat→Int}{kw:List (Str × Value)}
def AR(W:Walks prog w A.in1 I fp wr n P St)(hP:∀ i v,P i v→∃ t,v=.int (num i) t)(hSf:S∉fp) :
  ∀ (k j:Nat) (s:Shared) (b:Nat) (vb:Value) (c:Nat),n-j=k→j≤n→b<n→St j s.heap→P b vb→(∀ i,i<j→num i≤num b) →
  s.heap.get? S=some { cls:=.type "list",dict:=none,data:=.seq #[vb,vb] c,slots:=#[] } →
  (∀ b v h' tk,b<n→P b v→(∀ i,i<n→num i≤num b)→(∀ a o,a∉wr→a≠S→s.heap.get? a=some o→h'.get? a=some o)→R (.ok (.ret v)) { s with heap:=h',toks:=tk }) →
  codeAny (model prog w) A (.builtin "max.loop" ⟨[.ref I,.none,.ref S],kw⟩) R s:=by
 have hcmp:CmpOf prog w A.in1 .Gt P (fun i j=>decide (num i > num j)):=CmpOf.ints_gt num hP
 have hSw:S∉wr:=fun h=>hSf (W.sub _ h)
 have hname:(toString "max"++toString ".loop":String)="max.loop":=by decide
 intro k
 induction k with
 | zero =>
  intro j s b vb c hk hj hb hst hPb hm hS hR
  obtain rfl:j=n:=by lia
  refine J7 M9 ?_
  rw [JP KI _]
  show wpAny _ A.in1 (seqItems? (.ref S) >>= _) _ _ s
  refine IE (KD hS rfl ?_)
  show wpAny _ A.in1 (tryCatch (pyNext (.ref I)) _ >>= _) _ _ s
  refine IE (Lx (W.done s _ _ hst fun h' tk hk'=>?_))
  show wpAny _ A.in1 (updateSeq S (fun _=>#[]) >>= _) _ _ _
  exact IE (Li (hk' S _ hSw hS) rfl (IE (ME (wpAny_pure (hR b vb _ tk hb hPb hm fun a o haw haS e=>(Ju _ _ (Jg haS)).trans (hk' a o haw e))))))
 | succ k ih =>
  intro j s b vb c hk hj hb hst hPb hm hS hR
  have hlt:j<n:=by lia
  refine J7 M9 ?_
  rw [JP KI _]
  show wpAny _ A.in1 (seqItems? (.ref S) >>= _) _ _ s
  refine IE (KD hS rfl ?_)
  show wpAny _ A.in1 (tryCatch (pyNext (.ref I)) _ >>= _) _ _ s
  refine IE (Lx (W.item j s _ _ hlt hst fun v h' tk hv hst' hk'=>?_))
  have hS':=hk' S _ hSw hS
  show wpAny _ A.in1 (tryCatch (holding [v,v] (richCompare .Gt v vb >>= _)) _ >>= _) _ _ _
  refine IE (Lx (JI (IE (hcmp j b v vb _ _ _ hv hPb ?_))))
  refine IE (JI (JE ?_))
  refine IE (ME (wpAny_pure ?_))
  by_cases hg:num j > num b
  ·rw [if_pos (IL hg)]
   refine IE (Li hS' rfl (IE (ME ?_)))
   rw [hname]
   refine wpAny_pure ⟨Kc KI _,ih (j+1) _ j v _ (by lia) hlt hlt (W.frame _ _ _ hst' fun a haf o e=>?_) hv (fun i hij=>?_) (JL _ hS' rfl)
    fun b' v' h'' tk'' hb' hP' hm' hk''=>hR b' v' h'' tk'' hb' hP' hm' fun a o haw haS e=>hk'' a o haw haS ((Ju _ _ (Jg haS)).trans (hk' a o haw e))⟩
   ·exact(Ju _ _ (fun h:S=a=>hSf (by rw [h];exact haf))).trans e
   ·rcases LY.mp hij with z | rfl
    ·have:=hm i z;lia
    ·exact Int.le_refl _
  ·rw [if_neg (fun z=>hg (JF z))]
   refine IE (ME ?_)
   rw [hname]
   refine wpAny_pure ⟨Kc KI _,ih (j+1) _ b vb c (by lia) hlt hb hst' hPb (fun i hij=>?_) hS' fun b' v' h'' tk'' hb' hP' hm' hk''=>hR b' v' h'' tk'' hb' hP' hm' fun a o haw haS e=>hk'' a o haw haS (hk' a o haw e)⟩
   rcases LY.mp hij with z | rfl
   ·exact hm i z
   ·lia
end
def BV{l:Addr}{xs:Array (Int × Tok)}{d:Value}{Q:Value→Shared→Prop}(hh:A.handled=none)(hl:s.heap.IsList l (intItems xs))
  (h0:xs.size=0→∀ h' tk,(∀ b o,s.heap.get? b=some o→h'.get? b=some o)→Q d { s with heap:=h',toks:=tk })
  (h1:∀ b t h' tk,b<xs.size→(∀ i,i<xs.size→numAt xs i≤numAt xs b)→(∀ b o,s.heap.get? b=some o→h'.get? b=some o)→Q (.int (numAt xs b) t) { s with heap:=h',toks:=tk }) :
  wpAny (model prog w) A (call (.builtin "max") [.ref l] [(Str.ofString "default",d)]) Q E s:=by
 have hname:(toString "max"++toString ".loop":String)="max.loop":=by decide
 refine kmk_tree PySem.F.kind_max PySem.F.plain_max PySem.F.entry_max (AQ _ _) ?_
 show wpAny _ A.in1 (Builtin.Builtins.bindParams "max" ["key", "default"] 0 ⟨[],[(Str.ofString "default",d)]⟩ >>= _) _ _ s
 refine IE (wpAny_of_eq (show Builtin.Builtins.bindParams "max" ["key", "default"] 0 ⟨[],[(Str.ofString "default",d)]⟩=pure [none,some d] from rfl) ?_)
 refine IE (wpAny_pure ?_)
 refine IE (iter_intList hl fun s₂ e st hfp hlI=>?_)
 subst e
 refine IE (Kd ?_)
 rw [hname]
 have W:=Ny (prog:=prog) (w:=w) (A:=A.in1) hh _ l hlI (intItems xs)
 have hsz:(intItems xs).size=xs.size:=by simp [intItems]
 have hP:∀ i v,(intItems xs)[i]?=some v→∃ t,v=Value.int (numAt xs i) t:=fun _ _=>intItems_at
 have hSf:(s.heap.push { cls:=.type "list_iterator",data:=.fields #[.ref l,.int 0 0] }).objs.size∉[s.heap.objs.size,l]:=fun hm=>JC _ (hfp _ hm)
 have hst:=W.frame 0 _ _ st fun b _ o e=>IF { cls:=.type "list",data:=.seq #[] } e
 have kp:∀ {h':Heap},(∀ a o,a∉[s.heap.objs.size]→a≠(s.heap.push { cls:=.type "list_iterator",data:=.fields #[.ref l,.int 0 0] }).objs.size→((s.heap.push { cls:=.type "list_iterator",data:=.fields #[.ref l,.int 0 0] }).push { cls:=.type "list",data:=.seq #[] }).get? a=some o→h'.get? a=some o)→∀ a o,s.heap.get? a=some o→h'.get? a=some o :=
  fun hk=>old_kept fun a o ha e=>hk a o ha (IS (IJ e)) (IF _ e)
 refine wpAny_pure ⟨Kc KI _,?_⟩
 refine J7 M9 ?_
 rw [JP KI _]
 show wpAny _ A.in1 (seqItems? (.ref _) >>= _) _ _ _
 refine IE (KD (IQ _ rfl) rfl ?_)
 show wpAny _ A.in1 (tryCatch (pyNext (.ref s.heap.objs.size)) _ >>= _) _ _ _
 by_cases hz:xs.size=0
 ·refine IE (Lx (W.done _ _ _ (by rw [hsz,hz];exact hst) fun h' tk hk'=>?_))
  exact IE (Kl (wpAny_pure (h0 hz h' tk (kp fun a o ha _ e=>hk' a o ha e))))
 ·refine IE (Lx (W.item 0 _ _ _ (by rw [hsz];lia) hst fun v h' tk hv hst' hk'=>?_))
  have hS':=hk' _ _ (fun hm=>hSf (W.sub _ hm)) (IQ _ rfl)
  show wpAny _ A.in1 (updateSeq _ (fun _=>#[v,v]) >>= _) _ _ _
  refine IE (Li hS' rfl ?_)
  rw [hname]
  refine wpAny_pure ⟨Kc KI _,AR W hP hSf _ 1 _ 0 v _ rfl (by rw [hsz];lia) (by rw [hsz];lia) (W.frame _ _ _ hst' fun a haf o e=>?_) hv (fun i hi=>Int.le_of_eq (by rw [show i=0 by lia])) (JL _ hS' rfl) fun b v' h'' tk'' hb hv' hm hk''=>?_⟩
  ·exact(Ju _ _ (fun h:_=a=>hSf (by rw [h];exact haf))).trans e
  ·obtain⟨t,rfl⟩:=hP _ _ hv'
   rw [hsz] at hb hm
   exact h1 b t h'' tk'' hb hm (kp fun a o ha haS e=>hk'' a o ha haS ((Ju _ _ (Jg haS)).trans (hk' a o ha e)))
def HL(d:Int)(ns:List Int)(M:Int):Prop:=(ns=[]∧M=d)∨(M∈ns∧∀ a∈ns,a≤M)
section
variable {X:Cx}{e d:Expr}{x:Str}{p pos kpos:Pos}{ta tk:TA}
def Ie(K:PySem.W.Frag)(ta tk:TA):TE:=fun σ H Q=>ta σ H fun vs H1=>tk σ H1 fun zs H2=>∃ l ns D,vs=[.ref l]∧zs=[.int D]∧aA K H2 l (ns.map V.int)∧∀ M,HL D ns M→Q (.int M) H2
def vj(hc:X.calm=true)(hg:Gl X "max")(hm:X.mg "max"=none)(ha:PA X [e] ta)(hkw:PK X [⟨some "default",d,kpos⟩] tk)(he:backTo pos (starEach [e] X.env)=(false,eval e X.env)::backTo pos (starEach [] X.env):=by rfl)(hpl:(backTo pos (starEach [e] X.env)).any (·.1)=false:=by rfl) :
  PE X (.Call (.Name "max" p) [e] [⟨some "default",d,kpos⟩] pos) (Ie X.K ta tk):=by
 intro pins s σ H Q I h
 refine J8 (gk I hg hm boot_max ?_ (by decide) (by decide))
 refine callWith_kw (bM (ha pos pins s σ H _ I h) fun us s1 ⟨vs,H1,I1,r,q⟩=>bM (hkw pos pins s1 σ H1 _ I1 q) fun ws s2 ⟨zs,H2,I2,rz,l,ns,D,ev,ez,hl,q2⟩=>?_) he hpl
 subst ev ez
 obtain⟨u,rfl,rx⟩:=vals1 r
 cases rx
 obtain⟨u,rfl,t,rfl⟩:=vals1 rz
 obtain⟨its,r',pl,hz⟩:=I2.list hl
 have hi:=intsAre_of r'
 obtain⟨xs,ex⟩:=hi.allInts.items
 have hns:ns=xs.toList.map (·.1):=by rw [← hi.numsOf,← nums_intItems,← ex]
 have hll:ns.length=xs.size:=by rw [hns,List.length_map,JR]
 have hil:=pl.isList
 rw [ex] at hil
 refine BV (s:=s2) (I2.ok.hd hc) hil (fun z h' tk kp=>⟨.int D,_,I2.kept (t':=tk) kp,⟨t,rfl⟩,q2 D (.inl ⟨List.length_eq_zero_iff.mp (by lia),rfl⟩)⟩) fun b t h' tk hb hmx kp=>⟨.int (numAt xs b),_,I2.kept (t':=tk) kp,⟨t,rfl⟩,q2 _ (.inr ⟨?_,fun a ha=>?_⟩)⟩
 ·rw [hns,numAt_eq]
  exact getD_mem (by rw [← hns];lia)
 ·rw [hns] at ha
  obtain⟨j,hj,rfl⟩:=mem_getD ha
  rw [← hns] at hj
  rw [← numAt_eq]
  exact hmx j (by lia)
end
end L2
end
section
namespace Uf
open PySem L2 UfB UfTs
def lD:List Nat→Nat
 | []=>0
 | x::xs=>max x (lD xs)
theorem pV:∀ {xs:List Nat} {n:Nat},n∈xs→n≤lD xs
 | x::xs,n,h=>by
  rcases IP.mp h with rfl | h
  ·exact Nat.le_max_left _ _
  ·exact Jf (pV h) (Nat.le_max_right _ _)
theorem kr:∀ {xs:List Nat},lD xs≠0→lD xs∈xs
 | [],h=>absurd rfl h
 | x::xs,h=>by
  show max x (lD xs)∈_
  rcases NS x (lD xs) with z | z
  ·rw [Nat.max_eq_right z]
   have:lD xs≠0:=fun e=>h (by show max x (lD xs)=0;lia)
   exact List.mem_cons_of_mem _ (kr this)
  ·rw [Nat.max_eq_left z]
   exact List.mem_cons_self
theorem wm:∀ (xs ys:List Nat),lD (xs++ys)=max (lD xs) (lD ys)
 | [],ys=>(Nat.max_eq_right (IU _)).symm
 | x::xs,ys=>by
  show max x (lD (xs++ys))=max (max x (lD xs)) (lD ys)
  rw [wm xs ys,Nat.max_assoc]
def mx0{xs:List Nat}{M:Int}(h:HL 0 (xs.map fun x=>(((x:Nat):Int)+1)) M):M=(lD (xs.map (· + 1)):Nat):=by
 rcases h with⟨e,rfl⟩ | ⟨h1,h2⟩
 ·rw [NP.mp e]
  rfl
 ·obtain⟨x,hx,rfl⟩:=IV.mp h1
  have a:=pV (IV.mpr ⟨x,hx,rfl⟩:x+1∈xs.map (· + 1))
  obtain⟨y,hy,e⟩:=IV.mp (kr (xs:=xs.map (· + 1)) (by lia))
  have b:=h2 _ (IV.mpr ⟨y,hy,rfl⟩)
  lia
def mx1{xs:List Nat}{M:Int}(h:HL (-1) (xs.map fun x=>((x:Nat):Int)) M):M=(lD (xs.map (· + 1)):Nat)-1:=by
 rcases h with⟨e,rfl⟩ | ⟨h1,h2⟩
 ·rw [NP.mp e]
  rfl
 ·obtain⟨x,hx,rfl⟩:=IV.mp h1
  have a:=pV (IV.mpr ⟨x,hx,rfl⟩:x+1∈xs.map (· + 1))
  obtain⟨y,hy,e⟩:=IV.mp (kr (xs:=xs.map (· + 1)) (by lia))
  have b:=h2 _ (IV.mpr ⟨y,hy,rfl⟩)
  lia
def rP(f:WF)(o:Nat):List Nat:=(f.oc.getD o ("",[])).2
def nJ(f:WF)(o:Nat):List Nat:=(rP f o).filterMap (cT f.W.sp)
def lv(f:WF)(o:Nat):Nat:=lD ((nJ f o).attach.map fun g=>if h:g.1<o then lv f g.1+1 else 0)
termination_by o
decreasing_by exact h
def Gj{f:WF}{o:Nat}(h:∀ g∈nJ f o,g<o):lv f o=lD ((nJ f o).map fun g=>lv f g+1):=by
 rw [lv]
 congr 1
 have:((nJ f o).attach.map fun g=>if h:g.1<o then lv f g.1+1 else 0)=(nJ f o).attach.map ((fun g=>lv f g+1) ∘ Subtype.val):=Lc fun g _=>dif_pos (h g.1 g.2)
 rw [this,← List.map_map,List.attach_map_subtype_val]
structure vi(f:WF)(T:List Nat):Prop where
 inc:T.Pairwise (· < ·)
 lt:∀ o∈T,o<f.oc.length
 cl:∀ o∈T,∀ g∈nJ f o,g∈T∧g<o
def vi.eq{f:WF}{T:List Nat}(t:vi f T){o:Nat}(h:o∈T):lv f o=lD ((nJ f o).map fun g=>lv f g+1):=Gj fun g hg=>(t.cl o h g hg).2
def vi.nd{f:WF}{T:List Nat}(t:vi f T):T.Nodup:=t.inc.imp fun h=>IS h
def iG(f:WF)(T:List Nat):Nat:=lD (T.map fun o=>lv f o+1)
def lvl(f:WF)(T:List Nat)(d:Nat):List Nat:=T.filter fun o=>lv f o==d
def fb(f:WF)(T:List Nat):List (List Nat):=(List.range (iG f T)).map (lvl f T)
def vL{f:WF}{T:List Nat}{o:Nat}(h:o∈T):lv f o<iG f T:=pV (IV.mpr ⟨o,h,rfl⟩)
def Gb{f:WF}{T:List Nat}{o:Nat}(e:lv f o=lD ((nJ f o).map fun g=>lv f g+1))(h:∀ g∈nJ f o,g∈T):lv f o≤iG f T:=by
 by_cases z:lv f o=0
 ·lia
 ·rw [e] at z
  obtain⟨g,hg,e2⟩:=IV.mp (kr z)
  have:=vL (f:=f) (h g hg)
  lia
theorem sW:∀ {xs:List Nat} {n:Nat},(∀ x∈xs,x≤n)→lD xs≤n
 | [],_,_=>IU _
 | x::xs,n,h=>Nat.max_le.mpr ⟨h x List.mem_cons_self,sW fun y hy=>h y (List.mem_cons_of_mem _ hy)⟩
def AO(f:WF)(o:Nat):lv f o≤o:=by
 induction o using Nat.strongRecOn with
 | ind o ih =>
  rw [lv]
  refine sW fun x hx=>?_
  obtain⟨g,_,rfl⟩:=IV.mp hx
  split
  ·rename_i h
   have:=ih g.1 h
   lia
  ·exact IU _
def uU{f:WF}{T:List Nat}{n:Nat}(h:∀ o∈T,o<n):iG f T≤n:=sW fun x hx=>by
 obtain⟨o,ho,rfl⟩:=IV.mp hx
 exact Jt (AO f o) (h o ho)
def yL(f:WF)(T:List Nat)(o:Nat):iG f (T++[o])=max (iG f T) (lv f o+1):=by
 unfold iG
 rw [List.map_append,wm]
 show max _ (max (lv f o+1) 0)=_
 rw [Nat.max_eq_left (IU _)]
def sy(f:WF)(T:List Nat)(o d:Nat):lvl f (T++[o]) d=if d=lv f o then lvl f T d++[o] else lvl f T d:=by
 unfold lvl
 rw [J9]
 split
 ·rename_i h
  rw [List.filter_cons_of_pos (by simp [h])]
  rfl
 ·rename_i h
  rw [List.filter_cons_of_neg (by simpa using Jg h)]
  simp
def jK(f:WF)(T:List Nat)(o:Nat):List (List Nat):=if lv f o=iG f T then fb f T++[[]] else fb f T
def gI(f:WF)(T:List Nat):(fb f T).length=iG f T:=by unfold fb;rw [List.length_map,List.length_range]
def qR{f:WF}{T:List Nat}{o:Nat}(h:lv f o≤iG f T):jK f T o=(List.range (max (iG f T) (lv f o+1))).map (lvl f T):=by
 unfold jK
 split
 ·rename_i e
  have e0:lvl f T (iG f T)=[]:=KN.mpr fun x hx=>by
   have:=vL (f:=f) hx
   simp
   lia
  rw [show max (iG f T) (lv f o+1)=iG f T+1 by lia,List.range_succ,List.map_append]
  show _=_++[lvl f T (iG f T)]
  rw [e0]
  rfl
 ·rw [show max (iG f T) (lv f o+1)=iG f T by lia]
  rfl
def xx{f:WF}{T:List Nat}{o:Nat}(h:lv f o≤iG f T):fb f (T++[o])=(jK f T o).set (lv f o) (lvl f T (lv f o)++[o]):=by
 rw [qR h]
 unfold fb
 rw [yL]
 refine L6 fun i=>?_
 rw [List.getElem?_set,List.getElem?_map,List.getElem?_map,List.length_map,List.length_range]
 by_cases z:lv f o=i
 ·subst z
  rw [if_pos rfl,if_pos (by lia),Lb (by lia)]
  show some (lvl f (T++[o]) _)=_
  rw [sy,if_pos rfl]
 ·rw [if_neg z]
  by_cases y:i<max (iG f T) (lv f o+1)
  ·rw [Lb y]
   show some (lvl f (T++[o]) _)=some _
   rw [sy,if_neg (Jg z)]
  ·rw [Jm (by rw [List.length_range];lia)]
   rfl
def AD{f:WF}{T:List Nat}{o:Nat}(h:lv f o≤iG f T):(jK f T o)[lv f o]?=some (lvl f T (lv f o)):=by
 rw [qR h,List.getElem?_map,Lb (by lia)]
 rfl
section
variable {f:WF}{T:List Nat}
theorem wI(t:vi f T):∀ (n o:Nat),o∈T→lv f o=n→∀ d,d≤n→∃ p∈T,lv f p=d
 | 0,o,ho,e,d,hd=>⟨o,ho,by lia⟩
 | n+1,o,ho,e,d,hd=>by
  by_cases z:d=n+1
  ·exact⟨o,ho,by lia⟩
  ·have q:=t.eq ho
   rw [e] at q
   obtain⟨g,hg,e2⟩:=IV.mp (kr (xs:=(nJ f o).map fun g=>lv f g+1) (by lia))
   exact wI t n g (t.cl o ho g hg).1 (by lia) d (by lia)
def EN(t:vi f T){d:Nat}(h:d<iG f T):lvl f T d≠[]:=by
 obtain⟨o,ho,e⟩:=IV.mp (kr (xs:=T.map fun o=>lv f o+1) (by unfold iG at h;lia))
 obtain⟨p,hp,e2⟩:=wI t _ o ho rfl d (by unfold iG at h;lia)
 intro z
 have:=KN.mp z p hp
 simp [e2] at this
def Ds(t:vi f T)(d:Nat):(lvl f T d).Pairwise (·≤·):=(t.inc.filter _).imp fun h=>LN h
def A9(t:vi f T)(d:Nat):bQ (lvl f T d)=lvl f T d:=(pA (Ds t d) (.refl _)).symm
def gK{d o:Nat}:o∈lvl f T d↔o∈T∧lv f o=d:=by
 unfold lvl
 rw [Jl,KJ]
def oH(t:vi f T):bQ (fb f T).flatten=T:=by
 have p:T.Perm (fb f T).flatten:=by
  refine(MO t.nd ?_).mpr fun o=>?_
  ·refine List.pairwise_flatten.mpr ⟨fun l hl=>?_,?_⟩
   ·obtain⟨d,_,rfl⟩:=IV.mp hl
    exact t.nd.filter _
   ·refine Lr.mpr (Md.imp fun {a b} n x hx y hy e=>n ?_)
    rw [← (gK.mp hx).2,← (gK.mp hy).2,e]
  ·constructor
   ·intro h
    exact List.mem_flatten.mpr ⟨_,IV.mpr ⟨lv f o,JK.mpr (vL h),rfl⟩,gK.mpr ⟨h,rfl⟩⟩
   ·intro h
    obtain⟨l,hl,ho⟩:=List.mem_flatten.mp h
    obtain⟨d,_,rfl⟩:=IV.mp hl
    exact(gK.mp ho).1
 exact(pA (t.inc.imp fun h=>LN h) p).symm
end
end Uf
end
section
namespace L2
open PySem PySem.Spec PyProof.Rows UfSrt
section
variable {X:Cx}{tg:Expr}
end
end L2
end
section
namespace L2
open PySem PySem.Spec PyProof.Rows UfSrt
theorem o6{α β:Type}{F:α→β→Prop}:∀ {l:List α} {m:List β} {i:Nat} {a:α},Paired F l m→l[i]?=some a→∃ b,m[i]?=some b∧F a b
 | _,_,_,_,.nil,e=>by simp at e
 | _,_,0,_,.cons r _,e=>by
  simp at e
  subst e
  exact⟨_,rfl,r⟩
 | _,_,i+1,_,.cons _ t,e=>by
  obtain⟨a,h1,h2⟩:=o6 (i:=i) t (by simpa using e)
  exact⟨a,by simpa using h1,h2⟩
section
variable {X:Cx}{elts:List Expr}{x1:Nat}{tpos:Pos}
end
end L2
end
section
namespace Uf
open PySem L2 UfB UfSrt UfTs
abbrev Hf:Stmt:=top 2
def kN(g:Nat→V)(T:List Nat):List (Key × V):=T.map fun o:Nat=>(Sum.inl (o:Int),g o)
theorem qk(g:Nat→V)(o:Nat):∀ T:List Nat,de (kN g T) (Sum.inl (o:Int):Key)=if o∈T then some (g o) else none
 | []=>rfl
 | x::T=>by
  by_cases e:x=o
  ·subst e
   rw [if_pos List.mem_cons_self]
   exact cx rfl
  ·have:=qk g o T
   unfold kN at this ⊢
   rw [JG,cj (fun z=>e (by injection z with z;lia)),this]
   simp [Jg e]
def En(g:Nat→V)(o:Nat)(T:List Nat):((kN g T).any fun kv=>decide (kv.1=(Sum.inl (o:Int):Key)))=decide (o∈T):=by
 rw [gD,qk]
 by_cases h:o∈T
 ·rw [if_pos h,IL h];rfl
 ·rw [if_neg h,decide_eq_false h];rfl
def pe(T:List Nat)(o:Nat):List Nat:=if o∈T then T else T++[o]
def mr{T:List Nat}{o x:Nat}:x∈pe T o↔x∈T∨x=o:=by
 unfold pe
 split
 ·rename_i h
  exact⟨.inl,fun z=>z.elim id fun e=>e ▸ h⟩
 ·simp
def uY(g:Nat→V)(o:Nat)(T:List Nat):putK (kN g T) (Sum.inl (o:Int):Key) (g o)=kN g (pe T o):=by
 unfold putK pe
 rw [En]
 by_cases h:o∈T
 ·rw [IL h,if_pos rfl,if_pos h]
  unfold kN
  rw [List.map_map]
  refine Lc fun x hx=>?_
  show(if (Sum.inl (x:Int):Key)=Sum.inl (o:Int) then _ else _)=_
  split
  ·rename_i e
   have e:x=o:=by injection e with e;lia
   rw [e]
  ·rfl
 ·rw [decide_eq_false h,if_neg (by decide),if_neg h]
  unfold kN
  rw [List.map_append]
  rfl
def tX(g:Nat→V)(T:List Nat):(kN g T).length=T.length:=List.length_map _
section
variable {P:Program}{w:World}{C CW x:Addr}{H:Hp}{B:WA}{ms:List Mv}{S:List Str}{f:WF}
def dw.Ep(W:dw P w C CW H x B ms S f):∃ qs:List Addr,H B.aO=some (.lst (qs.map V.ref))∧qs.length=f.oc.length∧∀ o,o<f.oc.length→∃ q t m,(qs.map V.ref)[o]?=some (V.ref q)∧H q=some (.tup [.str m,.ref t])∧H t=some (.tup (nats (rP f o))):=by
 obtain⟨qs,h1,h2,_⟩:=W.oc
 have lq:=IX h2
 refine⟨qs,h1,lq.symm,fun o ho=>?_⟩
 have hq:qs[o]?=some (qs[o]'(by lia)):=IG (by lia)
 obtain⟨p,hp,t,a,b⟩:=bA h2 hq
 refine⟨_,t,p.1,by rw [List.getElem?_map,hq];rfl,a,?_⟩
 have:rP f o=p.2:=by unfold rP;rw [List.getD_eq_getElem?_getD,hp];rfl
 rw [this]
 exact b
def dw.Es(W:dw P w C CW H x B ms S f):∃ qs:List Addr,H B.aS=some (.lst (qs.map V.ref))∧∀ s,s<f.W.sp.length→∃ q m,(qs.map V.ref)[s]?=some (V.ref q)∧H q=some (.tup [.str m,gv (cT f.W.sp s)]):=by
 obtain⟨qs,h1,h2⟩:=W.ad.sp
 have lq:=IX h2
 refine⟨qs,h1,fun o ho=>?_⟩
 have hq:qs[o]?=some (qs[o]'(by lia)):=IG (by lia)
 obtain⟨p,hp,a⟩:=bA h2 hq
 refine⟨_,p.1,by rw [List.getElem?_map,hq];rfl,?_⟩
 have:cT f.W.sp o=p.2:=by unfold cT;rw [hp];rfl
 rw [this]
 exact a
end
def iT.tk{f:WF}{ms:List Mv}{S:List Str}{k o:Nat}(h:iT f ms S k)(ho:o<f.oc.length):(rP f o).length≤4∧∀ s∈rP f o,s<f.W.sp.length:=by
 unfold rP
 rw [List.getD_eq_getElem?_getD,IG ho]
 exact h.ol _ (KC ho)
def kW{α β:Type}{F G:α→β→Prop}{xs:List α}{ys:List β}(h:Paired F xs ys):(∀ a b,b∈ys→F a b→G a b)→Paired G xs ys:=by
 induction h with
 | nil=>exact fun _=>.nil
 | cons h _ ih=>exact fun k=>.cons (k _ _ List.mem_cons_self h) (ih fun a b hb e=>k a b (List.mem_cons_of_mem _ hb) e)
abbrev sY(H:Hp):List (List Nat)→List Addr→Prop:=Paired fun t a=>H a=some (.lst (nats t))
theorem sY.set{H:Hp}{tss:List (List Nat)}{as:List Addr}(h:sY H tss as)(nd:as.Nodup){i:Nat}{a:Addr}(ha:as[i]?=some a)(t:List Nat):sY (upd H a (.lst (nats t))) (tss.set i t) as:=by
 induction h generalizing i with
 | nil=>cases ha
 | @cons t0 a0 ts as h0 hr ih =>
  have nd':=JQ.mp nd
  cases i with
  | zero =>
   cases ha
   refine .cons ag (kW hr fun t b hb e=>?_)
   rw [ah (by rintro rfl;exact nd'.1 hb)]
   exact e
  | succ i =>
   have hm:a∈as:=IK ha
   refine .cons ?_ (ih nd'.2 ha)
   rw [ah (by rintro rfl;exact nd'.1 hm)]
   exact h0
def F7(P:Program)(w:World)(C CW:Addr):Sp:=fun vs H Q _=>∃ (x l:Addr) (B:WA) (ms:List Mv) (S:List Str) (f:WF) (T:List Nat),vs=[.ref x,.ref l]∧dw P w C CW H x B ms S f∧iT f ms S 14∧H l=some (.lst (nats T))∧vi f T ∧
 ∀ (H':Hp) (r:Addr) (as:List Addr),aq H H'→H' r=some (.lst (as.map V.ref))→sY H' (fb f T) as→as.Nodup→r∉as→(∀ a∈r::as,H a=none)→Q (.ref r) H'
def qN:aD ["web", "troop", "numbers", "found", "one", "givers", "number"] ["web", "troop"] (au Hf):=eR
inductive LvI(H:Hp)(x l nd fo:Addr)(f:WF)(T:List Nat)(i:Nat)(σ:St)(H2:Hp):Prop
 | mk (v4 v5 v6:Option V) (as:List Addr) (q0:σ=[some (.ref x),some (.ref l),some (.ref nd),some (.ref fo),v4,v5,v6]) (q1:aq H H2) (q2:H2 nd=some (.dK (kN (fun o=>nat (lv f o)) (T.take i)))) (q3:H2 fo=some (.lst (as.map V.ref))) (q4:sY H2 (fb f (T.take i)) as) (q5:as.Nodup) (q6:fo∉as) (q7:∀ a∈fo::as,H a=none)
theorem jT:∀ {T:List Nat} {a n:Nat},T.Pairwise (· < ·)→(∀ o∈T,a≤o∧o<n)→T.length≤n-a
 | [],_,_,_,_=>IU _
 | x::T,a,n,h,k=>by
  have h':=MH.mp h
  have:=jT (a:=x+1) (n:=n) h'.2 fun o ho=>⟨h'.1 o ho,(k o (List.mem_cons_of_mem _ ho)).2⟩
  have:=k x List.mem_cons_self
  rw [Jh]
  lia
def rD(T:List Nat)(k:Nat):nats (T++[k])=nats T++[nat k]:=List.map_append
def BW{T:List Nat}{i o:Nat}(h:T.Pairwise (· < ·))(ho:T[i]?=some o):o∉T.take i:=fun z=>by
 obtain⟨j,hj⟩:=Kw.mp z
 rw [List.getElem?_take] at hj
 split at hj
 ·obtain⟨h1,e1⟩:=IM.mp hj
  obtain⟨h2,e2⟩:=IM.mp ho
  have:=MR.mp h j i h1 h2 (by assumption)
  lia
 ·cases hj
def AA{T:List Nat}{i o g:Nat}(h:T.Pairwise (· < ·))(ho:T[i]?=some o)(hg:g∈T)(hl:g<o):g∈T.take i:=by
 obtain⟨j,hj⟩:=Kw.mp hg
 obtain⟨h1,e1⟩:=IM.mp hj
 obtain⟨h2,e2⟩:=IM.mp ho
 have lt:j<i:=by
  rcases Nat.lt_trichotomy j i with z | z | z
  ·exact z
  ·subst z
   lia
  ·have:=MR.mp h i j h2 h1 z
   lia
 exact Kw.mpr ⟨j,by rw [List.getElem?_take,if_pos lt];exact hj⟩
def Ad{H H2:Hp}{as:List Addr}{fo:Addr}{T:List Nat}{f:WF}{k:Nat}(q1:aq H H2)(q3:H2 fo=some (.lst (as.map V.ref)))(q4:sY H2 (jK f T k) as)(q5:as.Nodup)(q6:fo∉as)(q7:∀ a∈fo::as,H a=none)(hl:lv f k≤iG f T) :
  ∃ a,as[lv f k]?=some a∧H2 a=some (.lst (nats (lvl f T (lv f k))))∧aq H (upd H2 a (.lst (nats (lvl f T (lv f k))++[nat k])))∧(upd H2 a (.lst (nats (lvl f T (lv f k))++[nat k]))) fo=some (.lst (as.map V.ref))∧sY (upd H2 a (.lst (nats (lvl f T (lv f k))++[nat k]))) (fb f (T++[k])) as:=by
 obtain⟨a,ha,e⟩:=o6 q4 (AD hl)
 have hm:=IK ha
 refine⟨a,ha,e,aY q1 (q7 a (List.mem_cons_of_mem _ hm)),?_,?_⟩
 ·rw [ah (by rintro rfl;exact q6 hm)]
  exact q3
 ·rw [xx hl,← rD]
  exact q4.set q5 ha _
def Gw{fL C CW:Addr}{fd:FuncData}(F:dv K "levels" "levels" Hf fL fd)(T0:Txt K mg)(mx:mg "max"=none)(CT:gG K CW):bo P w K mg base cS 1 fL fd ["web", "troop"] (F7 P w C CW):=by
 refine F.oK qN fun cdv A outer s H vs Q E hr h=>?_
 ·obtain⟨x,l,B,ms,S,f,T,rfl,W,wk,hl,tr,kk⟩:=h
  have hu:=dY hr
  have hsl:=Ji
  refine⟨_,af (cB 2 qN gx)
   (af (cB 3 qN (bL ae))
   (af (bq IT rfl (aK (pv 1)) (dX 4 qN)
    (af (gf (j:=5) (N:=["spot", "web"]) (n:=1) (ci:=[0]) rfl qN.nd rfl rfl (gR (bb eE (bb aR (aM (pv 0) rfl) (pv 4) (fun _ _=>rfl)) ak (fun _ _=>rfl))) (j6 qN) (fun z=>⟨jg 0,bV,bb eE (bb aR (aM (pv 1) rfl) (pv 0) (fun _ _=>rfl)) ak (fun _ _=>rfl)⟩))
    (af (cB 6 qN (vj rfl rfl mx (aa (bN (N:=["giver", "numbers"]) (n:=1) (ci:=[2]) rfl (aK (pv 5)) (j6 qN) (fun z=>⟨jg 0,fg (bj k8 (pv 0) ir (bC _)),aE fE (fh hu (pv 1) (pv 0) (fun _ _=>rfl)) ak⟩)) ae) (vV ak yF)))
    (af (fX hu (pv 2) (pv 4) (pv 6) rfl)
    (af (bH (bj gX (pv 6) (ay bu rfl T0.len cL (aa (pv 3) ae)) (bC _)) (ai (a9 (cR Jb IZ I0 aV (pv 3) (aa (bL ae) ae)))) aU)
    (ai (a9 (cR Jb IZ I0 aV (bb aR (pv 3) (pv 6) (fun _ _=>rfl)) (aa (pv 4) ae)))))))))
   (ai (aI (pv 3))))),?_⟩
  have oc:=wk.oc
  have lT:T.length≤14:=by
   have:=jT (a:=0) (n:=f.oc.length) tr.inc fun o ho=>⟨IU _,tr.lt o ho⟩
   lia
  refine fun nd nnd=>⟨IU _,fun fo H1 nfo s1 hfo=>?_⟩
  have s0:aq H (upd H nd (.dK [])):=ao nnd
  have s01:=s0.trans s1
  have frs0:∀ a∈[fo],H a=none:=fun a ha=>by
   rw [Jd.mp ha]
   exact s0.free nfo
  refine⟨_,rfl,l,rfl,⟨_,aA.of (s01 _ _ hl)⟩,br (K:=K) (a:=l) (xs:=nats T) (LvI H x l nd fo f T) ⟨none,none,none,[],rfl,s01,s1 _ _ ag,hfo,.nil,.nil,(fun z=>nomatch z),frs0⟩ (fun i σ H2 _ h=>by obtain⟨_,_,_,_,_,b,_⟩:=h;exact aA.of (b _ _ hl)) ?_ ?_⟩
  ·rintro i v σ H2 hi ⟨v4,v5,v6,as,rfl,s2,hnd,hfo,hls,asn,fon,kL⟩
   obtain⟨o,ho,rfl⟩:=dk hi
   have hoT:=IK ho
   have hol:=tr.lt o hoT
   have W2:=W.same s2
   obtain⟨qs,o1,_,o2⟩:=W2.Ep
   obtain⟨q,t,m,o3,o4,o5⟩:=o2 o hol
   obtain⟨tk4,tkl⟩:=wk.tk hol
   have hot:o∉T.take i:=BW tr.inc ho
   have gT:∀ g∈nJ f o,g∈T.take i:=fun g hg=>AA tr.inc ho (tr.cl o hoT g hg).1 (tr.cl o hoT g hg).2
   have et:T.take (i+1)=T.take i++[o]:=av ho
   have lti:(T.take i).length≤14:=by rw [Jj];lia
   have lle:lv f o≤iG f (T.take i):=Gb (tr.eq hoT) gT
   refine⟨_,rfl,x,CW,B.dx,_,_,rfl,W2.ad.ins,CT.cl,CT.nO,B.fO,_,rfl,B.aO,_,_,_,rfl,rfl,aA.of o1,bh (j:=o) o3,q,_,1,_,rfl,rfl,bO.of o4,bh (j:=1) rfl,t,rfl,⟨_,bO.of o5⟩,fun z D hD=>mM (zs:=rP f o) (v:=nat) (F:=fun s=>some (gv (cT f.W.sp s))) (bO.of o5) (by lia) hD (fun s hs H3 s3 no yes _ hyes=>?_) fun H3 s3 hD3=>?_⟩
   ·obtain⟨qs,e1,e2⟩:=(W2.same s3).Es
    obtain⟨q,m,e3,e4⟩:=e2 s (tkl s hs)
    exact⟨_,rfl,x,CW,B.dx,_,_,rfl,s3 _ _ W2.ad.ins,CT.cl,CT.nS,B.fS,_,rfl,B.aS,_,_,_,rfl,rfl,aA.of e1,bh (j:=s) e3,q,_,1,_,rfl,rfl,bO.of e4,bh (j:=1) rfl,hyes _ rfl _ (aq.refl _)⟩
   rw [filterMap_some] at hD3
   have hnd3:=s3 _ _ hnd
   refine⟨_,rfl,D,rfl,⟨_,aA.of hD3⟩,fun z2 D2 hD2=>iw (zs:=rP f o) (v:=fun s=>gv (cT f.W.sp s)) (F:=fun s=>(cT f.W.sp s).map fun g=>V.int ((lv f g:Nat)+1)) (aA.of hD3) (by lia) hD2 (fun s hs H4 s4 no yes hno hyes=>?_) fun H4 s4 hD4=>?_⟩
   ·refine⟨_,rfl,rfl,_,rfl,?_⟩
    cases eg:cT f.W.sp s with
    | none=>exact bB (hno (by rw [eg];rfl) _ (aq.refl _))
    | some g =>
     have hg:g∈nJ f o:=KP.mpr ⟨s,hs,eg⟩
     exact bF ⟨_,rfl,_,rfl,nd,nat (lv f g),rfl,.inl ⟨_,Sum.inl (g:Int),.inl (s4 _ _ hnd3),rfl,by rw [qk,if_pos (gT g hg)]⟩,_,_,rfl,rfl,hyes _ (by rw [eg];rfl) _ (aq.refl _)⟩
   have e4:(rP f o).filterMap (fun s=>(cT f.W.sp s).map fun g=>V.int ((lv f g:Nat)+1))=(((nJ f o).map (lv f)).map fun x=>((x:Nat):Int)+1).map V.int:=by
    unfold nJ
    rw [List.map_map,List.map_map,List.map_filterMap]
    rfl
   rw [e4] at hD4
   refine⟨D2,_,0,rfl,rfl,aA.of hD4,fun M hM=>?_⟩
   have eM:=mx0 hM
   rw [List.map_map,show lD ((nJ f o).map ((· + 1) ∘ lv f))=lv f o from(tr.eq hoT).symm] at eM
   subst eM
   have s34:=s3.trans s4
   have hnd4:=s34 _ _ hnd
   refine⟨_,rfl,_,rfl,_,rfl,nd,_,rfl,jN.k (k:=Sum.inl (o:Int)) hnd4 (by rw [tX];lia),?_⟩
   rw [show putK (kN (fun o=>nat (lv f o)) (T.take i)) (Sum.inl (o:Int):Key) (V.int (lv f o:Nat))=kN (fun o=>nat (lv f o)) (T.take (i+1)) by rw [et];exact(uY _ o _).trans (by unfold pe;rw [if_neg hot])]
   have nf:fo≠nd:=aJ (s34 _ _ hfo) hnd4 (fun z=>nomatch z)
   have s5:aq H (upd H4 nd (.dK (kN (fun o=>nat (lv f o)) (T.take (i+1))))):=aY (s2.trans s34) nnd
   have hfo5:(upd H4 nd (.dK (kN (fun o=>nat (lv f o)) (T.take (i+1))))) fo=some (.lst (as.map V.ref)):=by rw [ah nf];exact s34 _ _ hfo
   have hls5:sY (upd H4 nd (.dK (kN (fun o=>nat (lv f o)) (T.take (i+1))))) (fb f (T.take i)) as:=Paired.cu hls fun t a e=>by rw [ah (aJ (s34 _ _ e) hnd4 (fun z=>nomatch z))];exact s34 _ _ e
   have hnd5:(upd H4 nd (.dK (kN (fun o=>nat (lv f o)) (T.take (i+1))))) nd=some (.dK (kN (fun o=>nat (lv f o)) (T.take (i+1)))):=ag
   generalize upd H4 nd (.dK (kN (fun o=>nat (lv f o)) (T.take (i+1))))=H5 at s5 hfo5 hls5 hnd5 ⊢
   have la:as.length=iG f (T.take i):=by rw [← IX hls5,gI]
   have lh:iG f (T.take i)≤14:=Jf (uU fun o ho=>tr.lt o (Kb ho)) oc
   refine⟨_,rfl,_,rfl,_,as.length,rfl,.inl ⟨_,aA.of hfo5,by rw [List.length_map]⟩,rfl,_,rfl,?_⟩
   by_cases ee:lv f o=iG f (T.take i)
   ·rw [IL (show V.int (lv f o:Nat)=V.int (as.length:Nat) by rw [la,ee])]
    refine bF ⟨_,rfl,.inl ⟨rfl,_,aA.of hfo5⟩,IU _,fun a H6 na s6 ha=>⟨fo,_,_,rfl,rfl,s6 _ _ hfo5,by rw [List.length_map];lia,?_⟩⟩
    have naf:fo≠a:=aj hfo5 na
    have nda:a≠nd:=(aj hnd5 na).symm
    have naa:a∉as:=fun z=>by
     obtain⟨j,hj⟩:=Kw.mp z
     obtain⟨_,_,e⟩:=cg hls5 hj
     rw [na] at e
     cases e
    have na0:H a=none:=s5.free na
    have s7:aq H (upd H6 fo (.lst (as.map V.ref++[V.ref a]))):=aY (s5.trans s6) (kL fo List.mem_cons_self)
    have hfo7:(upd H6 fo (.lst (as.map V.ref++[V.ref a]))) fo=some (.lst ((as++[a]).map V.ref)):=by rw [ag,List.map_append];rfl
    have hnd7:(upd H6 fo (.lst (as.map V.ref++[V.ref a]))) nd=some (.dK (kN (fun o=>nat (lv f o)) (T.take (i+1)))):=by rw [ah nf.symm];exact s6 _ _ hnd5
    have hls7:sY (upd H6 fo (.lst (as.map V.ref++[V.ref a]))) (jK f (T.take i) o) (as++[a]):=by
     unfold jK
     rw [if_pos ee]
     refine JZ (kW hls5 fun t b hb e=>?_) ?_
     ·rw [ah (by rintro rfl;exact fon hb)]
      exact s6 _ _ e
     ·rw [ah naf.symm]
      exact ha
    have fon7:fo∉as++[a]:=fun z=>by
     rcases Ja.mp z with z | z
     ·exact fon z
     ·exact naf (Jd.mp z)
    have asn7:(as++[a]).Nodup:=JT.mpr ⟨asn,by simp,fun u hu v hv e=>by rw [Jd.mp hv] at e;exact naa (e ▸ hu)⟩
    have frs7:∀ u∈fo::(as++[a]),H u=none:=fun u hu=>by
     rcases IP.mp hu with z | z
     ·exact kL u (z ▸ List.mem_cons_self)
     ·rcases Ja.mp z with z | z
      ·exact kL u (List.mem_cons_of_mem _ z)
      ·rw [Jd.mp z]
       exact na0
    generalize upd H6 fo (.lst (as.map V.ref++[V.ref a]))=H7 at s7 hfo7 hnd7 hls7 ⊢
    obtain⟨b,hb,e1,e2,e3,e4⟩:=Ad s7 hfo7 hls7 asn7 fon7 frs7 lle
    have ll:(lvl f (T.take i) (lv f o)).length≤(T.take i).length:=JB _ _
    refine⟨_,rfl,_,rfl,fo,_,_,V.ref b,rfl,rfl,aA.of hfo7,bh (j:=lv f o) (by rw [List.getElem?_map,hb];rfl),.inl ⟨rfl,_,aA.of e1⟩,_,rfl,b,_,_,rfl,rfl,e1,by rw [aX];lia,_,_,_,as++[a],rfl,e2,?_,e3,by rw [et];exact e4,asn7,fon7,frs7⟩
    rw [ah (aJ hnd7 e1 (fun z=>nomatch z))]
    exact hnd7
   ·rw [decide_eq_false (show ¬ V.int (lv f o:Nat)=V.int (as.length:Nat) from fun z=>ee (by injection z with z;lia))]
    refine bB ?_
    have hls7:sY H5 (jK f (T.take i) o) as:=by
     unfold jK
     rw [if_neg ee]
     exact hls5
    obtain⟨b,hb,e1,e2,e3,e4⟩:=Ad s5 hfo5 hls7 asn fon kL lle
    have ll:(lvl f (T.take i) (lv f o)).length≤(T.take i).length:=JB _ _
    refine⟨_,rfl,_,rfl,fo,_,_,V.ref b,rfl,rfl,aA.of hfo5,bh (j:=lv f o) (by rw [List.getElem?_map,hb];rfl),.inl ⟨rfl,_,aA.of e1⟩,_,rfl,b,_,_,rfl,rfl,e1,by rw [aX];lia,_,_,_,as,rfl,e2,?_,e3,by rw [et];exact e4,asn,fon,kL⟩
    rw [ah (aJ hnd5 e1 (fun z=>nomatch z))]
    exact hnd5
  ·rintro σ H2 ⟨v4,v5,v6,as,rfl,s2,hnd,hfo,hls,asn,fon,kL⟩
   rw [aX,Jc] at hls
   exact⟨_,rfl,kk H2 fo as s2 hfo hls asn fon kL⟩
abbrev p8:Stmt:=top 55
def CF{g:Nat}{T:List Nat}(h:Cd (nat g) (nats T)=true):g∈T:=by
 obtain⟨y,hy,e⟩:=Kr.mp h
 obtain⟨n,hn,rfl⟩:=IV.mp hy
 have e:((n:Int)==(g:Int))=true:=e
 have:n=g:=by have:=eq_of_beq e;lia
 exact this ▸ hn
def gy(T:List Nat):(nats T).all eX=true:=JO.mpr fun v hv=>by
 obtain⟨n,_,rfl⟩:=IV.mp hv
 rfl
structure tF(f:WF)(T:List Nat)(i:Nat):Prop where
 inc:T.Pairwise (· < ·)
 lt:∀ o∈T,o<i
 cl:∀ o∈T,∀ g∈nJ f o,g∈T∧g<o
def tF.skip{f:WF}{T:List Nat}{i:Nat}(h:tF f T i):tF f T (i+1):=⟨h.inc,fun o ho=>Jp (h.lt o ho),h.cl⟩
def tF.snoc{f:WF}{T:List Nat}{i:Nat}(h:tF f T i)(k:∀ g∈nJ f i,g∈T):tF f (T++[i]) (i+1):=by
 refine⟨List.pairwise_append.mpr ⟨h.inc,List.pairwise_singleton _ _,fun a ha b hb=>by rw [Jd.mp hb];exact h.lt a ha⟩,fun o ho=>?_,fun o ho g hg=>?_⟩
 ·rcases Ja.mp ho with z | z
  ·exact Jp (h.lt o z)
  ·rw [Jd.mp z]
   exact JX _
 ·rcases Ja.mp ho with z | z
  ·exact⟨Jv _ (h.cl o z g hg).1,(h.cl o z g hg).2⟩
  ·rw [Jd.mp z] at hg ⊢
   exact⟨Jv _ (k g hg),h.lt g (k g hg)⟩
def rT(T:List Nat)(o:Nat):(pe T o).length≤T.length+1:=by
 unfold pe
 split
 ·lia
 ·simp
def vR(P:Program)(w:World)(C CW:Addr):Sp:=fun vs H Q _=>∃ (x:Addr) (b:Int) (B:WA) (ms:List Mv) (S:List Str) (f:WF),vs=[.ref x,.int b]∧dw P w C CW H x B ms S f∧iT f ms S 14 ∧
 ∀ (H':Hp) (r:Addr) (T:List Nat),aq H H'→H r=none→H' r=some (.lst (nats T))→vi f T→Q (.ref r) H'
def dq:aD ["_law_web", "_law_bits", "_law_stood", "_law_troop_here", "_law_gone", "_law_number", "_law_move", "_law_spots", "_law_fits", "_law_spot", "_law_giver"] ["_law_web", "_law_bits"] (au p8):=eR
abbrev y8(G:List Nat):HO:=.dK (kN (fun _=>.bl true) G)
inductive TrI(H:Hp)(x sd th gd:Addr)(b:Int)(f:WF)(i:Nat)(σ:St)(H2:Hp):Prop
 | mk (v5 v6 v7 v8 v9 v10:Option V) (T G:List Nat) (q0:σ=[some (.ref x),some (.int b),some (.ref sd),some (.ref th),some (.ref gd),v5,v6,v7,v8,v9,v10]) (q1:∀ c o,H c=some o→c≠th→c≠gd→H2 c=some o) (q2:H2 th=some (.lst (nats T))) (q3:H2 gd=some (y8 G)) (q4:G.length≤4*i) (q5:tF f T i)
inductive TrJ(H:Hp)(x sd th gd:Addr)(b:Int)(f:WF)(T:List Nat)(U:List Nat)(v5 v6 v7:Option V)(j:Nat)(σ:St)(H2:Hp):Prop
 | mk (c:Bool) (v9 v10:Option V) (q0:σ=[some (.ref x),some (.int b),some (.ref sd),some (.ref th),some (.ref gd),v5,v6,v7,some (.bl c),v9,v10]) (q1:H2=H) (q2:c=true→∀ s∈U.take j,∀ g,cT f.W.sp s=some g→g∈T)
inductive TrG(H:Hp)(x sd th gd:Addr)(b:Int)(G:List Nat)(v5 v6 v7 v8 v10:Option V)(j:Nat)(σ:St)(H2:Hp):Prop
 | mk (v9:Option V) (G':List Nat) (q0:σ=[some (.ref x),some (.int b),some (.ref sd),some (.ref th),some (.ref gd),v5,v6,v7,v8,v9,v10]) (q1:∀ c o,H c=some o→c≠gd→H2 c=some o) (q3:H2 gd=some (y8 G')) (q4:G'.length≤G.length+j)
def zd{f C CW:Addr}{fd:FuncData}(F:dv K "_law_troop" "_law_troop" p8 f fd)(T0:Txt K mg)(T2:Txt2 mg)(CT:gG K CW)
  (DS:jI P w K mg base CW "spots" "Web.spots" yc ["self"] 1 (mT P w C CW WA.aS))
  (DO:jI P w K mg base CW "occurrences" "Web.occurrences" zT ["self"] 1 (mT P w C CW WA.aO)) :
  bo P w K mg base cS 2 f fd ["_law_web", "_law_bits"] (vR P w C CW):=by
 refine F.oK dq fun cdv A outer s H vs Q E hr h=>?_
 ·obtain⟨x,b,B,ms,S,f,rfl,W,wk,kk⟩:=h
  have hu:=dY hr
  have hsl:=Ji
  refine⟨_,af (cB 2 dq (cq (pv 0) CT.cl DS.d.mt DS.g hr DS.d.bd .nil bz))
   (af (cB 3 dq (bL ae))
   (af (cB 4 dq gx)
   (af (bq IT rfl (j0 rfl T2.enm (aa (cq (pv 0) CT.cl DO.d.mt DO.g hr DO.d.bd .nil bz) ae)) (dt rfl (aL (dX 5 dq) (aL (dt rfl (aL (dX 6 dq) (aL (dX 7 dq) cH))) cH)))
    (af (cB 8 dq (cY gX (aE iF (aE pf (pv 1) (pv 5)) ak) ak (bC _)))
    (af (bq IT rfl (gR (pv 7)) (dX 9 dq)
     (af (cB 10 dq (bb eE (bb aR (pv 2) (pv 9) (fun _ _=>rfl)) ak (fun _ _=>rfl)))
     (ai (bH (PW.pt (pw_or (ke (Dv hu (pv 9) (pv 4))) (pw_or1 (PW.pt (pw_and (bj k8 (pv 10) ir (bC _)) (pw_and1 (bj dQ (pv 10) (pv 3) (by with_unfolding_all rfl)))))))) (ai (cB 8 dq jP)) aU))))
    (ai (bH (cf (pv 8))
     (af (a9 (cR Jb IZ I0 aV (pv 3) (aa (pv 5) ae)))
     (ai (bq IT rfl (gR (pv 7)) (dX 9 dq) (ai (fX hu (pv 4) (pv 9) jP rfl))))) aU)))))
   (ai (aI (pv 3)))))),?_⟩
  have oc:=wk.oc
  obtain⟨sq,sp1,sp2⟩:=W.Es
  obtain⟨oq,oc1,ocl,oc2⟩:=W.Ep
  refine⟨_,rfl,x,B.dx,_,rfl,W.ad.ins,ck B _ (by decide +kernel),x,B,ms,S,f,_,rfl,W,sp1,fun sd nsd=>?_⟩
  obtain⟨H1,eU,s1,hsd⟩:=nE nsd (.lst (sq.map V.ref))
  rw [eU]
  refine⟨IU _,fun th H2 nth s2 hth gd ngd=>?_⟩
  have s3:aq H2 (upd H2 gd (.dK [])):=ao ngd
  have hgd:(upd H2 gd (.dK [])) gd=some (y8 []):=ag
  generalize upd H2 gd (.dK [])=H3 at s3 hgd ⊢
  have s13:=s2.trans s3
  have W3:=W.same (s1.trans s13)
  refine⟨_,rfl,x,B.dx,_,rfl,W3.ad.ins,ck B _ (by decide +kernel),x,B,ms,S,f,_,rfl,W3,(s1.trans s13) _ _ oc1,fun ol nol=>?_⟩
  obtain⟨H4,eU,s4,hol⟩:=nE nol (.lst (oq.map V.ref))
  rw [eU]
  have s04:=(s1.trans s13).trans s4
  have nth0:H th=none:=s1.free nth
  have ngd0:H gd=none:=(s1.trans s2).free ngd
  have hth4:=(s3.trans s4) _ _ hth
  have hgd4:=s4 _ _ hgd
  have hsd4:=(s13.trans s4) _ _ hsd
  have n1:sd≠th:=aj hsd nth
  have n2:sd≠gd:=aJ hsd4 hgd4 (fun z=>nomatch z)
  have n3:ol≠th:=(aj (s3 _ _ hth) nol).symm
  have n4:ol≠gd:=(aj hgd nol).symm
  have n5:th≠gd:=aJ hth4 hgd4 (fun z=>nomatch z)
  refine⟨ol,rfl,⟨_,aA.of hol⟩,hU (K:=K) (a:=ol) (xs:=oq.map V.ref) (TrI H4 x sd th gd b f) ⟨none,none,none,none,none,none,[],[],rfl,fun _ _ e _ _=>e,hth4,hgd4,II _,⟨.nil,(fun _ h=>nomatch h),(fun _ h=>nomatch h)⟩⟩ (fun i σ H2 _ h=>by obtain⟨_,_,_,_,_,_,_,_,_,b,_⟩:=h;exact aA.of (b _ _ hol n3 n4)) ?_ ?_⟩
  ·rintro i v p σ H5 hi ⟨v5,v6,v7,v8,v9,v10,T,G,rfl,b5,hth5,hgd5,lG,tr⟩ np
   have il:i<f.oc.length:=by
    have:=(IM.mp hi).1
    rw [List.length_map] at this
    lia
   obtain⟨q,t,m,o3,o4,o5⟩:=oc2 i il
   obtain rfl:v=.ref q:=by rw [o3] at hi;exact(Jk hi).symm
   obtain⟨tk4,tkl⟩:=wk.tk il
   obtain⟨H6,eU,s6,hp6⟩:=nE np (.tup [.int (i:Int),.ref q])
   rw [eU]
   have k6:∀ {c o},H c=some o→H6 c=some o:=fun {c o} e=>s6 _ _ (b5 _ _ (s04 _ _ e) (aj e nth0) (aj e ngd0))
   have hth6:=s6 _ _ hth5
   have hgd6:=s6 _ _ hgd5
   have hsd6:=s6 _ _ (b5 _ _ hsd4 n1 n2)
   refine⟨p,_,rfl,bO.of hp6,rfl,_,_,rfl,_,_,rfl,q,_,rfl,bO.of (k6 o4),rfl,_,_,rfl,_,_,rfl,rfl,rfl,?_⟩
   refine⟨_,rfl,_,rfl,_,_,rfl,rfl,(by lia),_,_,rfl,rfl,rfl,?_⟩
   generalize decide (V.int _=V.int _)=c0
   refine⟨_,rfl,t,rfl,⟨_,bO.of (k6 o5)⟩,jV (K:=K) (a:=t) (xs:=nats (rP f i)) (TrJ H6 x sd th gd b f T (rP f i) _ _ _) ⟨c0,_,_,rfl,rfl,fun _ _ h=>nomatch h⟩ (fun i σ H2 _ h=>by cases h;subst_vars;exact bO.of (k6 o5)) ?_ ?_⟩
   ·rintro j v σ H7 hj ⟨c,v9,v10,rfl,rfl,hc⟩
    obtain⟨s,hs,rfl⟩:=dk hj
    obtain⟨q2,m2,e3,e4⟩:=sp2 s (tkl s (IK hs))
    refine⟨_,rfl,_,rfl,sd,_,_,_,rfl,rfl,aA.of hsd6,bh (j:=s) e3,q2,_,1,_,rfl,rfl,bO.of (k6 e4),bh (j:=1) rfl,?_⟩
    have up:(∀ g,cT f.W.sp s=some g→g∈T)→c=true→∀ s∈(rP f i).take (j+1),∀ g,cT f.W.sp s=some g→g∈T:=fun h1 h2 s' hs'=>by
     rw [av hs] at hs'
     rcases Ja.mp hs' with z | z
     ·exact hc h2 s' z
     ·rw [Jd.mp z]
      exact h1
    refine⟨_,rfl,_,rfl,gd,_,rfl,.inl ⟨_,Sum.inl (s:Int),.inl hgd6,rfl,rfl⟩,_,rfl,?_⟩
    cases ein:(de (kN (fun _=>V.bl true) G) (Sum.inl (s:Int):Key)).isSome with
    | true=>exact bF (bF ⟨false,_,_,rfl,rfl,fun z=>nomatch z⟩)
    | false =>
     refine bB ⟨_,rfl,rfl,_,rfl,?_⟩
     cases eg:cT f.W.sp s with
     | none=>exact bB (bB ⟨c,_,_,rfl,rfl,up fun g h=>by rw [eg] at h;cases h⟩)
     | some g =>
      refine bF ⟨_,rfl,_,rfl,th,_,rfl,.inl (aA.of hth6),rfl,gy T,_,rfl,?_⟩
      cases eV:Cd (gv (some g)) (nats T) with
      | true=>exact bB ⟨c,_,_,rfl,rfl,up fun g' h=>by rw [eg] at h;cases h;exact CF eV⟩
      | false=>exact bF ⟨false,_,_,rfl,rfl,fun z=>nomatch z⟩
   ·rintro σ H7 ⟨c,v9,v10,rfl,rfl,hc⟩
    rw [aX,Jc] at hc
    refine⟨_,rfl,_,rfl,?_⟩
    cases c with
    | false=>exact bB ⟨_,_,_,_,_,_,T,G,rfl,fun c o e a b=>s6 _ _ (b5 c o e a b),hth6,hgd6,by lia,tr.skip⟩
    | true =>
     have lT:T.length≤i:=jT (a:=0) tr.inc fun o ho=>⟨IU _,tr.lt o ho⟩
     refine bF ⟨_,rfl,.inl ⟨rfl,_,aA.of hth6⟩,_,rfl,th,_,_,rfl,rfl,hth6,by rw [aX];lia,?_⟩
     have nt:t≠th:=aJ (k6 o5) hth6 (fun z=>nomatch z)
     refine⟨_,rfl,t,rfl,⟨_,bO.of (by rw [ah nt];exact k6 o5)⟩,jV (K:=K) (a:=t) (xs:=nats (rP f i)) (TrG (upd H7 th (.lst (nats T++[nat i]))) x sd th gd b G _ _ _ _ _) ⟨_,G,rfl,fun _ _ e _=>e,by rw [ah n5.symm];exact hgd6,II _⟩ (fun i σ H2 _ h=>by obtain⟨_,_,_,b,_⟩:=h;exact bO.of (b _ _ (by rw [ah nt];exact k6 o5) (aJ (k6 o5) hgd6 (fun z=>nomatch z)))) ?_ ?_⟩
     ·rintro j v σ H8 hj ⟨v9,G',rfl,b8,hgd8,lG'⟩
      obtain⟨s,hs,rfl⟩:=dk hj
      have jl:=(IM.mp hs).1
      refine⟨_,rfl,_,rfl,gd,_,rfl,jN.k (k:=Sum.inl (s:Int)) hgd8 (by rw [tX];lia),?_⟩
      refine⟨_,pe G' s,rfl,fun c o e n=>by rw [ah n];exact b8 c o e n,by rw [ag];exact J4 (fun k=>some (HO.dK k)) (uY (fun _=>V.bl true) s G'),?_⟩
      have:=rT G' s
      lia
     ·rintro σ H8 ⟨v9,G',rfl,b8,hgd8,lG'⟩
      rw [aX] at lG'
      refine⟨_,_,_,_,_,_,T++[i],G',rfl,fun c o e n m=>b8 _ _ (by rw [ah n];exact s6 _ _ (b5 c o e n m)) m,?_,hgd8,by lia,tr.snoc fun g hg=>?_⟩
      ·rw [rD]
       exact b8 _ _ ag n5
      ·obtain⟨s,hs,e⟩:=KP.mp hg
       exact hc rfl s hs g e
  ·rintro σ H5 ⟨v5,v6,v7,v8,v9,v10,T,G,rfl,b5,hth5,hgd5,lG,tr⟩
   rw [List.length_map,ocl] at tr
   exact⟨_,rfl,kk H5 th T (fun c o e=>b5 _ _ (s04 _ _ e) (aj e nth0) (aj e ngd0)) nth0 hth5 ⟨tr.inc,tr.lt,tr.cl⟩⟩
abbrev BL:Stmt:=top 57
def jL{f:WF}{T:List Nat}{i:Nat}{t:List Nat}(h:(fb f T)[i]?=some t):i<iG f T∧t=lvl f T i:=by
 have:=(IM.mp h).1
 rw [gI] at this
 refine⟨this,?_⟩
 unfold fb at h
 rw [List.getElem?_map,Lb this] at h
 exact(Jk h).symm
def CN(P:Program)(w:World)(C CW:Addr):Sp:=fun vs H Q _=>∃ (x r:Addr) (B:WA) (ms:List Mv) (S:List Str) (f:WF) (T:List Nat) (as:List Addr),vs=[.ref x,.ref r]∧dw P w C CW H x B ms S f∧iT f ms S 14∧H r=some (.lst (as.map V.ref))∧sY H (fb f T) as∧vi f T ∧
 ∀ (H':Hp),aq H H'→Q (.bl true) H'
def gH:aD ["_law_web", "_law_told", "_law_stood", "_law_came", "_law_deep_of", "_law_deep", "_law_level", "_law_number", "_law_givers"] ["_law_web", "_law_told"] (au BL):=eR
abbrev zQ(f:WF)(G:List Nat):HO:=.dK (kN (fun o=>nat (lv f o)) G)
inductive DoI(H:Hp)(x r sd ca dd:Addr)(f:WF)(T:List Nat)(i:Nat)(σ:St)(H2:Hp):Prop
 | mk (v5 v6 v7:Option V) (G:List Nat) (q0:σ=[some (.ref x),some (.ref r),some (.ref sd),some (.ref ca),some (.ref dd),v5,v6,v7,none]) (q1:∀ c o,H c=some o→c≠dd→H2 c=some o) (q2:H2 dd=some (zQ f G)) (q3:G.length≤14*i) (q4:∀ d,d<i→∀ o∈lvl f T d,o∈G)
inductive DoJ(H:Hp)(x r sd ca dd:Addr)(f:WF)(T G0:List Nat)(U:List Nat)(v5 v6:Option V)(j:Nat)(σ:St)(H2:Hp):Prop
 | mk (v7:Option V) (G:List Nat) (q0:σ=[some (.ref x),some (.ref r),some (.ref sd),some (.ref ca),some (.ref dd),v5,v6,v7,none]) (q1:∀ c o,H c=some o→c≠dd→H2 c=some o) (q2:H2 dd=some (zQ f G)) (q3:G.length≤G0.length+j) (q4:∀ o,o∈G0∨o∈U.take j→o∈G)
inductive IoI(H:Hp)(x r sd ca dd:Addr)(i:Nat)(σ:St)(H2:Hp):Prop
 | mk (v5 v6 v7 v8:Option V) (q0:σ=[some (.ref x),some (.ref r),some (.ref sd),some (.ref ca),some (.ref dd),v5,v6,v7,v8]) (q1:aq H H2)
inductive IoJ(H:Hp)(x r sd ca dd:Addr)(v5 v6:Option V)(i:Nat)(σ:St)(H2:Hp):Prop
 | mk (v7 v8:Option V) (q0:σ=[some (.ref x),some (.ref r),some (.ref sd),some (.ref ca),some (.ref dd),v5,v6,v7,v8]) (q1:aq H H2)
def DE{f C CW:Addr}{fd:FuncData}(F:dv K "_law_in_order" "_law_in_order" BL f fd)(T0:Txt K mg)(T2:Txt2 mg)(mx:mg "max"=none)(CT:gG K CW)
  (DS:jI P w K mg base CW "spots" "Web.spots" yc ["self"] 1 (mT P w C CW WA.aS))
  (DO:jI P w K mg base CW "occurrences" "Web.occurrences" zT ["self"] 1 (mT P w C CW WA.aO)) :
  bo P w K mg base cS 2 f fd ["_law_web", "_law_told"] (CN P w C CW):=by
 refine F.oK gH fun cdv A outer s H vs Q E hr h=>?_
 ·obtain⟨x,r,B,ms,S,f,T,as,rfl,W,wk,hr0,hls,tr,kk⟩:=h
  have hu:=dY hr
  have hsl:=Ji
  refine⟨_,af (cB 2 gH (cq (pv 0) CT.cl DS.d.mt DS.g hr DS.d.bd .nil bz))
   (af (cB 3 gH (cq (pv 0) CT.cl DO.d.mt DO.g hr DO.d.bd .nil bz))
   (af (cB 4 gH gx)
   (af (bq IT rfl (j0 rfl T2.enm (aa (pv 1) ae)) (dt rfl (aL (dX 5 gH) (aL (dX 6 gH) cH)))
    (ai (bq IT rfl (aK (pv 6)) (dX 7 gH) (ai (fX hu (pv 4) (pv 7) (pv 5) rfl)))))
   (af (bq IT rfl (j0 rfl T2.enm (aa (pv 1) ae)) (dt rfl (aL (dX 5 gH) (aL (dX 6 gH) cH)))
    (ai (bq IT rfl (aK (pv 6)) (dX 7 gH)
     (af (gf (j:=8) (N:=["_law_spot", "_law_stood"]) (n:=1) (ci:=[2]) rfl gH.nd rfl rfl (gR (bb eE (bb aR (pv 3) (pv 7) (fun _ _=>rfl)) ak (fun _ _=>rfl))) (j6 gH) (fun z=>⟨jg 0,bV,bb eE (bb aR (pv 1) (pv 0) (fun _ _=>rfl)) ak (fun _ _=>rfl)⟩))
     (ai (bH (bj FU (vj rfl rfl mx (aa (bN (N:=["_law_giver", "_law_deep_of"]) (n:=1) (ci:=[4]) rfl (aK (pv 8)) (j6 gH) (fun z=>⟨jg 0,fg (bj k8 (pv 0) ir (bC _)),fh hu (pv 1) (pv 0) (fun _ _=>rfl)⟩)) ae) (vV (CP Af ak) yF)) (aE kH (pv 5) ak) (bC _)) (ai cV) aU))))))
   (ai (aI jP)))))),?_⟩
  have oc:=wk.oc
  have lT:T.length≤14:=by
   have:=jT (a:=0) (n:=f.oc.length) tr.inc fun o ho=>⟨IU _,tr.lt o ho⟩
   lia
  have lh:iG f T≤14:=Jf (uU tr.lt) oc
  have lld:∀ d,(lvl f T d).length≤14:=fun d=>Jf (JB _ _) lT
  have las:as.length=iG f T:=by rw [← IX hls,gI]
  obtain⟨sq,sp1,sp2⟩:=W.Es
  obtain⟨oq,oc1,ocl,oc2⟩:=W.Ep
  refine⟨_,rfl,x,B.dx,_,rfl,W.ad.ins,ck B _ (by decide +kernel),x,B,ms,S,f,_,rfl,W,sp1,fun sd nsd=>?_⟩
  obtain⟨H1,eU,s1,hsd⟩:=nE nsd (.lst (sq.map V.ref))
  rw [eU]
  have W1:=W.same s1
  refine⟨_,rfl,x,B.dx,_,rfl,W1.ad.ins,ck B _ (by decide +kernel),x,B,ms,S,f,_,rfl,W1,s1 _ _ oc1,fun ca nca=>?_⟩
  obtain⟨H2,eU,s2,hca⟩:=nE nca (.lst (oq.map V.ref))
  rw [eU]
  refine fun dd ndd=>?_
  have s3:aq H2 (upd H2 dd (.dK [])):=ao ndd
  have hdd:(upd H2 dd (.dK [])) dd=some (zQ f []):=ag
  generalize upd H2 dd (.dK [])=H3 at s3 hdd ⊢
  have s03:=(s1.trans s2).trans s3
  have nd0:H dd=none:=(s1.trans s2).free ndd
  have k3:∀ {c o},H c=some o→c≠dd:=fun e=>aj e nd0
  refine⟨_,rfl,r,rfl,⟨_,aA.of (s03 _ _ hr0)⟩,hU (K:=K) (a:=r) (xs:=as.map V.ref) (DoI H3 x r sd ca dd f T) ⟨none,none,none,[],rfl,fun _ _ e _=>e,hdd,II _,fun d h=>nomatch h⟩ (fun i σ H2 _ h=>by obtain⟨_,_,_,_,_,b,_⟩:=h;exact aA.of (b _ _ (s03 _ _ hr0) (k3 hr0))) ?_ ?_⟩
  ·rintro i v p σ H5 hi ⟨v5,v6,v7,G,rfl,b5,hd5,lG,hG⟩ np
   obtain⟨a,ha,rfl⟩:=gj hi
   obtain⟨t,ht,hat⟩:=cg hls ha
   obtain⟨il,rfl⟩:=jL ht
   obtain⟨H6,eU,s6,hp6⟩:=nE np (.tup [.int (i:Int),.ref a])
   rw [eU]
   have ha6:=s6 _ _ (b5 _ _ (s03 _ _ hat) (k3 hat))
   refine⟨p,_,rfl,bO.of hp6,rfl,_,_,rfl,_,_,rfl,rfl,?_⟩
   refine⟨_,rfl,a,rfl,⟨_,aA.of ha6⟩,br (K:=K) (a:=a) (xs:=nats (lvl f T i)) (DoJ H6 x r sd ca dd f T G (lvl f T i) _ _) ⟨_,G,rfl,fun _ _ e _=>e,s6 _ _ hd5,II _,fun o h=>h.elim id fun z=>nomatch z⟩ (fun i σ H2 _ h=>by obtain⟨_,_,_,b,_⟩:=h;exact aA.of (b _ _ ha6 (k3 hat))) ?_ ?_⟩
   ·rintro j v σ H7 hj ⟨v7,G',rfl,b7,hd7,lG',hG'⟩
    obtain⟨o,ho,rfl⟩:=dk hj
    have jl:=(IM.mp ho).1
    have:=lld i
    have eo:=(gK.mp (IK ho)).2
    refine⟨_,rfl,_,rfl,_,rfl,dd,_,rfl,jN.k (k:=Sum.inl (o:Int)) hd7 (by rw [tX];lia),?_⟩
    refine⟨_,pe G' o,rfl,fun c u e n=>by rw [ah n];exact b7 c u e n,?_,?_,fun u hu=>?_⟩
    ·rw [ag,show V.int (i:Nat)=nat (lv f o) by rw [eo];rfl]
     exact J4 (fun k=>some (HO.dK k)) (uY (fun o=>nat (lv f o)) o G')
    ·have:=rT G' o
     lia
    ·rw [av ho] at hu
     rcases hu with z | z
     ·exact mr.mpr (.inl (hG' u (.inl z)))
     ·rcases Ja.mp z with z | z
      ·exact mr.mpr (.inl (hG' u (.inr z)))
      ·exact mr.mpr (.inr (Jd.mp z))
   ·rintro σ H7 ⟨v7,G',rfl,b7,hd7,lG',hG'⟩
    rw [aX] at lG' hG'
    have:=lld i
    refine⟨_,_,_,G',rfl,fun c u e n=>b7 _ _ (s6 _ _ (b5 c u e n)) n,hd7,by lia,fun d hd o ho=>?_⟩
    rw [Jc] at hG'
    rcases LY.mp hd with z | z
    ·exact hG' o (.inl (hG d z o ho))
    ·subst z
     exact hG' o (.inr ho)
  ·rintro σ H5 ⟨v5,v6,v7,G,rfl,b5,hd5,lG,hG⟩
   rw [List.length_map,las] at hG
   have s05:aq H H5:=fun c o e=>b5 _ _ (s03 _ _ e) (k3 e)
   have hsd5:=b5 _ _ ((s2.trans s3) _ _ hsd) (aj (s2 _ _ hsd) ndd)
   have hca5:=b5 _ _ (s3 _ _ hca) (aj hca ndd)
   refine⟨_,rfl,r,rfl,⟨_,aA.of (s05 _ _ hr0)⟩,hU (K:=K) (a:=r) (xs:=as.map V.ref) (IoI H5 x r sd ca dd) ⟨_,_,_,_,rfl,aq.refl _⟩ (fun i σ H2 _ h=>by obtain⟨_,_,_,_,_,b⟩:=h;exact aA.of (b _ _ (s05 _ _ hr0))) ?_ ?_⟩
   ·rintro i v p σ H6 hi ⟨v5,v6,v7,v8,rfl,s6⟩ np
    obtain⟨a,ha,rfl⟩:=gj hi
    obtain⟨t,ht,hat⟩:=cg hls ha
    obtain⟨il,rfl⟩:=jL ht
    obtain⟨H7,eU,s7,hp7⟩:=nE np (.tup [.int (i:Int),.ref a])
    rw [eU]
    have s57:=s6.trans s7
    refine⟨p,_,rfl,bO.of hp7,rfl,_,_,rfl,_,_,rfl,rfl,?_⟩
    refine⟨_,rfl,a,rfl,⟨_,aA.of (s57 _ _ (s05 _ _ hat))⟩,br (K:=K) (a:=a) (xs:=nats (lvl f T i)) (IoJ H7 x r sd ca dd _ _) ⟨_,_,rfl,aq.refl _⟩ (fun i σ H2 _ h=>by obtain⟨_,_,_,b⟩:=h;exact aA.of (b _ _ (s57 _ _ (s05 _ _ hat)))) ?_ ?_⟩
    ·rintro j v σ H8 hj ⟨v7,v8,rfl,s8⟩
     obtain⟨o,ho,rfl⟩:=dk hj
     obtain⟨hoT,eo⟩:=gK.mp (IK ho)
     have hol:=tr.lt o hoT
     have s58:=s57.trans s8
     have s08:=s05.trans s58
     obtain⟨q,t,m,o3,o4,o5⟩:=oc2 o hol
     obtain⟨tk4,tkl⟩:=wk.tk hol
     have o5:=s08 _ _ o5
     refine⟨_,rfl,_,rfl,ca,_,_,_,rfl,rfl,aA.of (s58 _ _ hca5),bh (j:=o) o3,q,_,1,_,rfl,rfl,bO.of (s08 _ _ o4),bh (j:=1) rfl,t,rfl,⟨_,bO.of o5⟩,fun z D hD=>mM (zs:=rP f o) (v:=nat) (F:=fun s=>some (gv (cT f.W.sp s))) (bO.of o5) (by lia) hD (fun s hs H9 s9 no yes _ hyes=>?_) fun H9 s9 hD9=>?_⟩
     ·obtain⟨q,m,e3,e4⟩:=sp2 s (tkl s hs)
      exact⟨_,rfl,_,rfl,sd,_,_,_,rfl,rfl,aA.of (s9 _ _ (s58 _ _ hsd5)),bh (j:=s) e3,q,_,1,_,rfl,rfl,bO.of (s9 _ _ (s08 _ _ e4)),bh (j:=1) rfl,hyes _ rfl _ (aq.refl _)⟩
     rw [filterMap_some] at hD9
     have hd9:=s9 _ _ (s58 _ _ hd5)
     refine⟨_,rfl,D,rfl,⟨_,aA.of hD9⟩,fun z2 D2 hD2=>iw (zs:=rP f o) (v:=fun s=>gv (cT f.W.sp s)) (F:=fun s=>(cT f.W.sp s).map fun g=>nat (lv f g)) (aA.of hD9) (by lia) hD2 (fun s hs Ha sa no yes hno hyes=>?_) fun Ha sa hDa=>?_⟩
     ·refine⟨_,rfl,rfl,_,rfl,?_⟩
      cases eg:cT f.W.sp s with
      | none=>exact bB (hno (by rw [eg];rfl) _ (aq.refl _))
      | some g =>
       have hg:g∈nJ f o:=KP.mpr ⟨s,hs,eg⟩
       have hgT:=(tr.cl o hoT g hg).1
       exact bF ⟨_,rfl,_,rfl,dd,nat (lv f g),rfl,.inl ⟨_,Sum.inl (g:Int),.inl (sa _ _ hd9),rfl,by rw [qk,if_pos (hG _ (vL hgT) g (gK.mpr ⟨hgT,rfl⟩))]⟩,hyes _ (by rw [eg];rfl) _ (aq.refl _)⟩
     have e4:(rP f o).filterMap (fun s=>(cT f.W.sp s).map fun g=>nat (lv f g))=(((nJ f o).map (lv f)).map fun x=>((x:Nat):Int)).map V.int:=by
      unfold nJ
      rw [List.map_map,List.map_map,List.map_filterMap]
      rfl
     rw [e4] at hDa
     refine⟨_,rfl,D2,_,-1,rfl,rfl,aA.of hDa,fun M hM=>?_⟩
     have eM:=mx1 hM
     rw [List.map_map,show lD ((nJ f o).map ((· + 1) ∘ lv f))=lv f o from(tr.eq hoT).symm,eo] at eM
     refine⟨_,rfl,_,_,rfl,rfl,rfl,_,rfl,?_⟩
     rw [eM,IL rfl]
     exact bB ⟨_,_,rfl,s8.trans (s9.trans sa)⟩
    ·rintro σ H8 ⟨v7,v8,rfl,s8⟩
     exact⟨_,_,_,_,rfl,s57.trans s8⟩
   ·rintro σ H6 ⟨v5,v6,v7,v8,rfl,s6⟩
    exact kk H6 (s05.trans s6)
end Uf
end
section
namespace L2
open PySem PySem.Spec PyProof.Rows UfSrt Uf
section
variable {X:Cx}
def xW{pins:List (Addr × Obj)}{s:Shared}{σ:St}{H:Hp}{A:Around}{p q:Addr}{ts:List V}(I:Inv X pins σ H s)(h1:aA X.K H p ts)(h2:aA X.K H q ts)(f:ts.all eX=true)(hu:A.units+1<cLine):SeqAt.EqAt A s (.ref p) (.ref q) true:=by
 by_cases e:p=q
 ·subst e
  exact KW _
 ·obtain⟨its,r1,p1,_⟩:=I.list h1
  obtain⟨its2,r2,p2,_⟩:=I.list h2
  have l1:=r1.length
  have l2:=r2.length
  have:=M6 (A:=A) (e:=fun _=>true) p1.isList p2.isList (by simp;lia) (by lia) (ic (A:=A.in1) I (eD f) r1 r2 hu)
  rw [show((List.range its.toArray.size).all fun _=>true)=true by simp] at this
  exact .of_refs e this
def AU(K:PySem.W.Frag)(A:Around):R2:=fun x y H Q=>∃ p q as bs,x=.ref p∧y=.ref q∧A.units+2<cLine∧aA K H p (as.map V.ref)∧aA K H q (bs.map V.ref)∧Paired (fun a b=>∃ ts:List V,aA K H a ts∧aA K H b ts∧ts.all eX=true) as bs∧Q (.bl true) H
def xM:gr X (compareOp .Eq) (AU X.K X.A):=by
 intro pins s σ H x y v u Q I rx ry h
 obtain⟨p,q,as,bs,rfl,rfl,hu,hp,hq,hal,k⟩:=h
 cases rx
 cases ry
 obtain⟨its,r1,p1,_⟩:=I.list hp
 obtain⟨its2,r2,p2,_⟩:=I.list hq
 have l1:=r1.length
 have l2:=r2.length
 have l3:=IX hal
 rw [List.length_map] at l1 l2
 refine M6 (e:=fun _=>true) p1.isList p2.isList (by simp;lia) (by lia) (fun j h1 h2=>?_) X.prog X.w X.xe _ ⟨.bl true,H,I,?_,k⟩
 ·have h1':j<its.length:=by simpa using h1
  have h2':j<its2.length:=by simpa using h2
  obtain⟨w,e1,e2⟩:=iP r1 (IG h1')
  obtain⟨w',e3,e4⟩:=iP r2 (IG h2')
  rw [List.getElem?_map] at e1 e3
  obtain⟨a,ea,rfl⟩:=JJ.mp e1
  obtain⟨b,eb,rfl⟩:=JJ.mp e3
  obtain⟨a',ea',ts,t1,t2,tf⟩:=cg hal eb
  rw [ea] at ea'
  cases ea'
  have e2:its[j]=Value.ref a:=e2
  have e4:its2[j]=Value.ref b:=e4
  show SeqAt.EqAt X.A.in1 s its.toArray[j] its2.toArray[j] true
  rw [Nz,Nz,e2,e4]
  exact xW I t1 t2 tf hu
 ·show Value.bool _=Value.bool true
  simp
end
end L2
end
section
namespace Uf
open PySem L2 UfB UfSrt UfTs
abbrev pE:Stmt:=top 56
abbrev qj:Stmt:=top 58
def BY{α β γ:Type}{F:α→β→Prop}{G:α→γ→Prop}{R:β→γ→Prop}{xs:List α}{ys:List β}{zs:List γ}(h:Paired F xs ys)(g:Paired G xs zs)(k:∀ x y z,F x y→G x z→R y z):Paired R ys zs:=by
 induction h generalizing zs with
 | nil=>cases g;exact .nil
 | cons h _ ih=>cases g with
  | cons g gs=>exact .cons (k _ _ _ h g) (ih gs)
def wd:Sp:=fun vs H Q _=>∃ n:Int,vs=[.int n]∧Q (.bl true) H
def Bu:aD ["_law_found"] ["_law_found"] (au pE):=eR
def An{f:Addr}{fd:FuncData}(F:dv K "_law_whole" "_law_whole" pE f fd)(T0:Txt K mg)(mi:mg "int"=none)(mb:mg "bool"=none):bo P w K mg base cS 1 f fd ["_law_found"] wd:=by
 refine F.oK Bu fun cdv A outer s H vs Q E hr h=>?_
 ·obtain⟨n,rfl,k⟩:=h
  refine⟨_,ai (aI (kD (ay iD rfl T0.isi qW (aa (pv 0) (aa (jS (v:=.ty "int") rfl mi PyProof.Rows.boot_int rfl) ae))) (ko (E7 (ay iD rfl T0.isi qW (aa (pv 0) (aa (jS (v:=.ty "bool") rfl mb PyProof.Rows.boot_bool rfl) ae))))))),?_⟩
  exact⟨_,rfl,_, "int",_,true,rfl,gZ.int n,(by rfl),true,rfl,bF ⟨_,rfl,_, "bool",_,false,rfl,gZ.int n,(by rfl),false,rfl,k⟩⟩
def vK(P:Program)(w:World)(C CW:Addr):Sp:=fun vs H Q _=>∃ (x l:Addr) (B:WA) (ms:List Mv) (S:List Str) (f:WF) (T:List Nat),vs=[.ref x,.ref l]∧dw P w C CW H x B ms S f∧iT f ms S 14∧H l=some (.lst (nats T))∧vi f T ∧
 ∀ (H':Hp),aq H H'→Q (.bl true) H'
def eI:aD ["_law_web", "_law_troop_here", "_law_handed", "_law_told", "_law_every", "_law_level", "_law_kept"] ["_law_web", "_law_troop_here"] (au qj):=eR
inductive RtI(H:Hp)(x l hd r:Addr)(f:WF)(T:List Nat)(i:Nat)(σ:St)(H2:Hp):Prop
 | mk (ev:Addr) (v5:Option V) (q0:σ=[some (.ref x),some (.ref l),some (.ref hd),some (.ref r),some (.ref ev),v5,none]) (q1:aq H H2) (q2:H2 ev=some (.lst (nats ((fb f T).take i).flatten)))
inductive KpI(H:Hp)(D:Addr)(f:WF)(T:List Nat)(i:Nat)(ys:List V)(H2:Hp):Prop
 | mk (bs:List Addr) (q0:ys=bs.map V.ref) (q1:aq H H2) (q2:H2 D=some (.lst ys)) (q3:sY H2 ((fb f T).take i) bs) (q4:D∉bs) (q5:∀ b∈bs,H b=none)
inductive ApI(H:Hp)(x l hd r:Addr)(v4 v6:Option V)(as:List Addr)(i:Nat)(σ:St)(H2:Hp):Prop
 | mk (v5:Option V) (q0:σ=[some (.ref x),some (.ref l),some (.ref hd),some (.ref r),v4,v5,v6]) (q1:∀ c o,H c=some o→c∉as→H2 c=some o) (q2:∀ a∈as,∃ ys,H2 a=some (.lst ys)∧ys.length≤14+i)
def zi{f C CW:Addr}{fd:FuncData}(F:dv K "_law_right" "_law_right" qj f fd)(T0:Txt K mg)(CT:gG K CW)
  (DL:gJ P w K mg base "levels" Hf ["web", "troop"] 1 (F7 P w C CW))
  (DW:gJ P w K mg base "_law_whole" pE ["_law_found"] 1 wd)
  (DI:gJ P w K mg base "_law_in_order" BL ["_law_web", "_law_told"] 2 (CN P w C CW)) :
  bo P w K mg base cS 3 f fd ["_law_web", "_law_troop_here"] (vK P w C CW):=by
 refine F.oK eI fun cdv A outer s H vs Q E hr h=>?_
 ·obtain⟨x,l,B,ms,S,f,T,rfl,W,wk,hl,tr,kk⟩:=h
  have hu:=dY hr
  have hsl:=Ji
  have hr1:cw 1 _:=hr.mono (by decide)
  refine⟨_,af (cB 2 eI (a8 jm rfl T0.lst dA (aa (pv 1) ae)))
   (af (cB 3 eI (eA DL hr1 (aa (pv 0) (aa (pv 2) ae))))
   (af (bH (cz (cf (ay iD rfl T0.isi qW (aa (pv 3) (aa (jS (v:=.ty "list") rfl T0.lst dA rfl) ae))))) (ai cV) aU)
   (af (cB 4 eI (bL ae))
   (af (bq IT rfl (aK (pv 3)) (dX 5 eI)
    (af (bH (PW.pt (pw_or (cz (cf (ay iD rfl T0.isi qW (aa (pv 5) (aa (jS (v:=.ty "list") rfl T0.lst dA rfl) ae))))) (pw_or (bj eq_nil (pv 5) (bL ae) (bC _)) (pw_or1 (bj mK (pv 5) (ay jn rfl T0.aH cn (aa (pv 5) ae)) (bC _)))))) (ai cV) aU)
    (af (bH (cz (cf (ay (iq rfl) rfl T0.all qX (aa (bN (N:=["_law_number"]) (n:=1) (ci:=[]) rfl (aK (pv 5)) (j6 eI) (fun z=>⟨jg 0,bV,eA DW hr1 (aa (pv 0) ae)⟩)) ae)))) (ai cV) aU)
    (ai (cB 4 eI (aE jj (pv 4) (pv 5)))))))
   (af (bH (PW.pt (pw_or (bj mK (ay jn rfl T0.aH cn (aa (pv 4) ae)) (pv 1) (bC _)) (pw_or1 (cz (cf (eA DI hr (aa (pv 0) (aa (pv 3) ae)))))))) (ai cV) aU)
   (af (gf (j:=6) (N:=["_law_level"]) (n:=1) (ci:=[]) rfl eI.nd rfl rfl (aK (pv 3)) (j6 eI) (fun z=>⟨jg 0,bV,a8 jm rfl T0.lst dA (aa (pv 0) ae)⟩))
   (af (bq IT rfl (aK (pv 3)) (dX 5 eI) (ai (a9 (cR Jb IZ I0 aV (pv 5) (aa ak ae)))))
   (af (a9 (cR Jb IZ I0 aV (pv 3) (aa (bL (aa ak ae)) ae)))
   (ai (aI (kD (cY xM (eA DL hr1 (aa (pv 0) (aa (pv 2) ae))) (pv 6) (bC _)) (ko (cY yR (pv 2) (pv 1) (bC _)))))))))))))),?_⟩
  have oc:=wk.oc
  have lT:T.length≤14:=by
   have:=jT (a:=0) (n:=f.oc.length) tr.inc fun o ho=>⟨IU _,tr.lt o ho⟩
   lia
  have lh:iG f T≤14:=Jf (uU tr.lt) oc
  have lld:∀ d,(lvl f T d).length≤14:=fun d=>Jf (JB _ _) lT
  have fl:(fb f T).flatten.length=T.length:=by rw [← iA,oH tr]
  refine⟨_,rfl,l,_,rfl,.inl (aA.of hl),fun hd H1 nhd s1 hhd=>?_⟩
  have W1:=W.same s1
  refine⟨_,rfl,_,rfl,x,hd,B,ms,S,f,T,rfl,W1,wk,hhd,tr,fun H2 r as s2 hr2 hls asn ran kL=>?_⟩
  have las:as.length=iG f T:=by rw [← IX hls,gI]
  refine⟨_,rfl,_, "list",_,true,rfl,gZ.lst hr2,(by rfl),true,rfl,?_⟩
  refine bB ⟨IU _,fun ev H3 nev s3 hev=>?_⟩
  have hr3:=s3 _ _ hr2
  have hls3:sY H3 (fb f T) as:=Paired.cu hls fun _ _ e=>s3 _ _ e
  refine⟨_,rfl,r,rfl,⟨_,aA.of hr3⟩,br (K:=K) (a:=r) (xs:=as.map V.ref) (RtI H3 x l hd r f T) ⟨ev,none,rfl,aq.refl _,hev⟩ (fun i σ H2 _ h=>by obtain⟨_,_,_,b,_⟩:=h;exact aA.of (b _ _ hr3)) ?_ ?_⟩
  ·rintro i v σ H4 hi ⟨ev,v5,rfl,s4,hev4⟩
   obtain⟨a,ha,rfl⟩:=gj hi
   obtain⟨t,ht,hat⟩:=cg hls3 ha
   have et:=av ht
   obtain⟨il,rfl⟩:=jL ht
   have ha4:=s4 _ _ hat
   have lt:=lld i
   have ne:=EN tr il
   refine⟨_,rfl,_, "list",_,true,rfl,gZ.lst ha4,(by rfl),true,rfl,?_⟩
   refine bB ⟨_,rfl,IU _,fun e H5 nne s5 he=>⟨a,e,_,rfl,rfl,hr.tD,aA.of (s5 _ _ ha4),aA.of he,_,rfl,?_⟩⟩
   rw [show(nats (lvl f T i)).isEmpty=false by cases q:lvl f T i with
    | nil=>exact absurd q ne
    | cons _ _=>rfl]
   refine bB ⟨_,rfl,_,rfl,a,_,rfl,aA.of (s5 _ _ ha4),by lia,fun so nso=>?_⟩
   rw [A9 tr]
   have s6:aq H5 (upd H5 so (.lst (nats (lvl f T i)))):=ao nso
   refine⟨a,so,_,_,rfl,rfl,hu,aA.of ((s5.trans s6) _ _ ha4),aA.of ag,eD (gy _),_,rfl,?_⟩
   generalize upd H5 so (.lst (nats (lvl f T i)))=H6 at s6 ⊢
   have s46:=s5.trans s6
   have ha6:=s46 _ _ ha4
   refine bB ⟨_,rfl,a,rfl,⟨_,aA.of ha6⟩,fun z D hD=>iw (zs:=lvl f T i) (v:=nat) (F:=fun _=>some (V.bl true)) (aA.of ha6) (by lia) hD (fun o ho H7 s7 no yes _ hyes=>⟨_,rfl,o,rfl,hyes _ rfl _ (aq.refl _)⟩) fun H7 s7 hD7=>?_⟩
   rw [filterMap_some] at hD7
   refine⟨D,(lvl f T i).map fun _=>true,rfl,aA.of (by rw [List.map_map];exact hD7),_,rfl,?_⟩
   rw [show((lvl f T i).map fun _=>true).all id=true from JO.mpr fun b hb=>by obtain⟨_,_,rfl⟩:=IV.mp hb;rfl]
   have s47:=s46.trans s7
   have hev7:=s47 _ _ hev4
   refine bB ⟨_,rfl,_,rfl,ev,a,_,_,rfl,rfl,hev7,s7 _ _ ha6,?_,fun p np=>⟨p,_,rfl,s4.trans (s47.trans (ao np)),?_⟩⟩
   ·rw [aX,aX]
    have:((fb f T).take i).flatten.length≤(fb f T).flatten.length:=by
     conv=>rhs;rw [← Kg i (fb f T),NQ,List.length_append]
     exact Mf _ _
    lia
   ·rw [ag,et,NQ,List.flatten_singleton]
    unfold nats
    rw [List.map_append]
  ·rintro σ H4 ⟨ev,v5,rfl,s4,hev4⟩
   rw [List.length_map,las,← gI,Jc] at hev4
   refine⟨_,rfl,ev,_,rfl,aA.of hev4,by lia,fun so nso=>?_⟩
   rw [oH tr]
   have s5:aq H4 (upd H4 so (.lst (nats T))):=ao nso
   have s05:aq H (upd H4 so (.lst (nats T))):=s1.trans (s2.trans (s3.trans (s4.trans s5)))
   refine⟨_,rfl,so,l,_,_,rfl,rfl,hu,aA.of ag,aA.of (s05 _ _ hl),eD (gy _),_,rfl,?_⟩
   generalize upd H4 so (.lst (nats T))=H5 at s5 s05 ⊢
   have s35:=s4.trans s5
   refine bB ⟨_,rfl,_,rfl,x,r,B,ms,S,f,T,as,rfl,W.same s05,wk,s35 _ _ hr3,Paired.cu hls3 fun _ _ e=>s35 _ _ e,tr,fun H6 s6=>⟨_,rfl,bB ?_⟩⟩
   have s36:=s35.trans s6
   have hr6:=s36 _ _ hr3
   have hls6:sY H6 (fb f T) as:=Paired.cu hls3 fun _ _ e=>s36 _ _ e
   have asl:∀ a∈as,∃ d,H6 a=some (.lst (nats (lvl f T d))):=fun a ha=>by
    obtain⟨j,hj⟩:=Kw.mp ha
    obtain⟨t,ht,e⟩:=cg hls6 hj
    obtain⟨_,rfl⟩:=jL ht
    exact⟨j,e⟩
   refine⟨_,rfl,r,rfl,⟨_,aA.of hr6⟩,fun z D hD=>cy (a:=r) (xs:=as.map V.ref) (KpI H6 D f T) ⟨[],rfl,ao hD,ag,.nil,(fun z=>nomatch z),(fun _ z=>nomatch z)⟩ (fun i ys H2 _ h=>by obtain⟨_,_,b,_⟩:=h;exact aA.of (b _ _ hr6)) ?_ ?_⟩
   ·rintro i v ys H7 hi ⟨bs,rfl,s7,hD7,hbs,nD,frb⟩
    obtain⟨a,ha,rfl⟩:=gj hi
    obtain⟨t,ht,hat⟩:=cg hls6 ha
    have lbs:=IX hbs
    rw [Jj] at lbs
    have il:i<iG f T:=(jL ht).1
    refine⟨_,rfl,a,_,rfl,.inl (aA.of (s7 _ _ hat)),fun b H8 nb s8 hb=>⟨s8 _ _ hD7,by rw [List.length_map];lia,bs++[b],by rw [List.map_append];rfl,aY (s7.trans s8) hD,ag,?_,fun z=>?_,fun c hc=>?_⟩⟩
    ·rw [av ht]
     refine JZ (kW hbs fun t c hc e=>?_) ?_
     ·rw [ah (by rintro rfl;exact nD hc)]
      exact s8 _ _ e
     ·rw [ah (aj hD7 nb).symm]
      exact hb
    ·rcases Ja.mp z with z | z
     ·exact nD z
     ·exact aj hD7 nb (Jd.mp z)
    ·rcases Ja.mp hc with z | z
     ·exact frb c z
     ·rw [Jd.mp z]
      exact s7.free nb
   rintro ys H7 ⟨bs,rfl,s7,hD7,hbs,nD,frb⟩
   rw [List.length_map,las,← gI,Jc] at hbs
   have hr7:=s7 _ _ hr6
   refine⟨_,rfl,r,rfl,⟨_,aA.of hr7⟩,br (K:=K) (a:=r) (xs:=as.map V.ref) (ApI H7 x l hd r _ _ as) ⟨_,rfl,fun _ _ e _=>e,fun a ha=>?_⟩ (fun i σ H2 _ h=>by obtain⟨_,_,b,_⟩:=h;exact aA.of (b _ _ hr7 ran)) ?_ ?_⟩
   ·obtain⟨d,e⟩:=asl a ha
    exact⟨_,s7 _ _ e,by rw [aX];exact lld d⟩
   ·rintro i v σ H8 hi ⟨v5,rfl,b8,c8⟩
    obtain⟨a,ha,rfl⟩:=gj hi
    have hm:=IK ha
    have il:=(IM.mp ha).1
    obtain⟨ys,hys,ly⟩:=c8 a hm
    refine⟨_,rfl,.inl ⟨rfl,_,aA.of hys⟩,a,_,_,rfl,rfl,hys,by lia,_,rfl,fun c o e n=>?_,fun c hc=>?_⟩
    ·rw [ah (by rintro rfl;exact n hm)]
     exact b8 c o e n
    ·by_cases z:c=a
     ·subst z
      exact⟨_,ag,by rw [List.length_append];show ys.length+1≤_;lia⟩
     ·obtain⟨zs,hz,lz⟩:=c8 c hc
      exact⟨zs,by rw [ah z];exact hz,by lia⟩
   ·rintro σ H8 ⟨v5,rfl,b8,c8⟩
    have hr8:=b8 _ _ hr7 ran
    refine⟨_,rfl,.inl ⟨rfl,_,aA.of hr8⟩,by show 1≤sizeLine;lia,fun q H9 nq s9 hq=>⟨r,_,_,rfl,rfl,s9 _ _ hr8,by rw [List.length_map];lia,?_⟩⟩
    have k9:∀ {c o},H7 c=some o→c∉r::as→(upd H9 r (.lst (as.map V.ref++[V.ref q]))) c=some o:=fun {c o} e n=>by
     rw [ah (by rintro rfl;exact n List.mem_cons_self)]
     exact s9 _ _ (b8 c o e fun z=>n (List.mem_cons_of_mem _ z))
    generalize upd H9 r (.lst (as.map V.ref++[V.ref q]))=Ha at k9 ⊢
    have s17:aq H1 H7:=s2.trans (s3.trans (s36.trans s7))
    have s1a:aq H1 Ha:=fun c o e=>k9 (s17 _ _ e) fun z=>by have:=kL c z;rw [e] at this;cases this
    refine⟨_,rfl,_,rfl,x,hd,B,ms,S,f,T,rfl,W1.same s1a,wk,s1a _ _ hhd,tr,fun Hb r2 as2 sb hr2b hls2 _ _ _=>?_⟩
    have hDa:Ha D=some (.lst (bs.map V.ref)):=k9 hD7 fun z=>by
     rcases IP.mp z with z | z
     ·rw [z] at hD
      rw [hr6] at hD
      cases hD
     ·obtain⟨d,e⟩:=asl D z
      rw [hD] at e
      cases e
    have hba:sY Ha (fb f T) bs:=kW hbs fun t b hb e=>k9 e fun z=>by
     have nb:=frb b hb
     rcases IP.mp z with z | z
     ·rw [z,hr6] at nb
      cases nb
     ·obtain⟨d,e⟩:=asl b z
      rw [nb] at e
      cases e
    refine⟨_,rfl,r2,D,as2,bs,rfl,rfl,ni hr,aA.of hr2b,aA.of (sb _ _ hDa),BY hls2 hba fun t a b e1 e2=>⟨nats t,aA.of e1,aA.of (sb _ _ e2),gy t⟩,_,rfl,?_⟩
    exact bF ⟨_,rfl,_,rfl,hd,l,_,_,rfl,rfl,hu,aA.of (sb _ _ (s1a _ _ hhd)),aA.of (sb _ _ (s1a _ _ (s1 _ _ hl))),eD (gy _),kk _ (s1.trans (s1a.trans sb))⟩
end Uf
end
section
namespace Uf
open PySem L2 UfSrt UfFin UfB
abbrev xX:Stmt:=top 59
def CB(f:WF):vi f []:=⟨.nil,(fun _ h=>nomatch h),(fun _ h=>nomatch h)⟩
def wg(K:PySem.W.Frag):Sp:=fun vs H Q _=>∃ (a:Addr) (ns:List Int),vs=[.ref a]∧aA K H a (ns.map V.int)∧ns.length≤63∧∀ H',Q (.bl true) H'
def rJ:aD ["_law_script", "_law_moves", "_law_start", "_law_web", "_law_k"] ["_law_script"] (au xX):=eR
inductive LwI(H:Hp)(a mv st x:Addr)(i:Nat)(σ:St)(H2:Hp):Prop
 | mk (v4:Option V) (q0:σ=[some (.ref a),some (.ref mv),some (.ref st),some (.ref x),v4]) (q1:aq H H2)
def DZ{f C CW fI:Addr}{fd fdI:FuncData}(F:dv K "law" "law" xX f fd)(T2:Txt2 mg)(mgC:mg "Net"=some (.ref C))(M:Mk K C fI)(bI:Binds K fdI ["self", "moves", "start"] [])(GI:bo P w K mg base cS 5 fI fdI ["self", "moves", "start"] (Ag K C))
  (DC:gJ P w K mg base "_law_cell_at" nh ["_law_script", "_law_k"] 1 (lX K))
  (DP:gJ P w K mg base "_law_parts" pB ["_law_script", "_law_most"] 3 (iI K))
  (DH:gJ P w K mg base "_law_hand_web" vp ["_law_net", "_law_cells"] 10 (zf P w C CW))
  (DT:gJ P w K mg base "_law_troop" p8 ["_law_web", "_law_bits"] 2 (vR P w C CW))
  (DR:gJ P w K mg base "_law_right" qj ["_law_web", "_law_troop_here"] 3 (vK P w C CW)) :
  bo P w K mg base cS 12 f fd ["_law_script"] (wg K):=by
 refine F.oK rJ fun cdv A outer s H vs Q E hr h=>?_
 ·obtain⟨a,ns,rfl,ha,hz,kk⟩:=h
  have hsl:=Ji
  have hr1:cw 1 _:=hr.mono (by decide)
  have hr2:cw 2 _:=hr.mono (by decide)
  have hr3:cw 3 _:=hr.mono (by decide)
  refine⟨_,af (jo (eA DP hr3 (aa (pv 0) (aa ak ae))) (dt rfl (aL (dX 1 rJ) (aL (dX 2 rJ) cH))))
   (af (cB 3 rJ (eA DH (hr.mono (by decide)) (aa (vU M GI (hr.mono (by decide)) rfl mgC bI .nil bz (aa (pv 1) (aa (pv 2) ae))) (aa (dU fZ (pv 0) (eK ak) (eK ak)) ae))))
   (af (bq IT rfl (cN rfl T2.rng (aa ak ae)) (dX 4 rJ)
    (ai (bH (cz (cf (eA DR hr3 (aa (pv 3) (aa (eA DT hr2 (aa (pv 3) (aa (aE cv (aE cm (eA DC hr1 (aa (pv 0) (aa (pv 4) ae))) ak) ak) ae))) ae))))) (ai cV) aU)))
   (ai (aI (kD (eA DR hr3 (aa (pv 3) (aa (eA DT hr2 (aa (pv 3) (aa ak ae))) ae))) (ko (eA DR hr3 (aa (pv 3) (aa (bL ae) ae))))))))),?_⟩
  refine⟨_,rfl,a,ns,rfl,ha,hz,fun H1 t mv st ms S s1 ht mvs hst dr told=>⟨t,_,rfl,bO.of ht,rfl,_,_,rfl,_,_,rfl,rfl,?_⟩⟩
  obtain⟨qs,hqs,hpq⟩:=mvs
  refine⟨_,rfl,_,rfl,fun p dx np ndx npd=>?_⟩
  have sn:aq H1 (upd (upd H1 dx (.own p)) p (.ins C dx [])):=fun b o e=>by
   rw [ah (aj e np),ah (aj e ndx)]
   exact e
  refine⟨p,dx,mv,st,ms,S,rfl,ag,⟨qs,aA.of (sn _ _ hqs),Paired.cu hpq fun _ _=>lN.same sn⟩,aA.of (sn _ _ hst),dr.fit,dr.net,fun H2 NA kp=>⟨rfl,?_⟩⟩
  have s12:aq H1 H2:=fun b o e=>kp b o (sn b o e) (aj e np)
  have s02:=s1.trans s12
  refine⟨_,rfl,_,rfl,_,rfl,a,_,rfl,s02.seq ha,fun q3 n3=>?_⟩
  rw [show ix (ns.map V.int) (some (3:Int)) (some (17:Int))=((ns.drop 3).take 14).map V.int by rw [show(3:Int)=((3:Nat):Int) from rfl,show(17:Int)=((17:Nat):Int) from rfl,Gs,NG,NH]]
  obtain⟨H3,eU,s3,hq3⟩:=nE n3 (.lst (((ns.drop 3).take 14).map V.int))
  rw [eU]
  refine⟨p,q3,ms,S,_,rfl,(show cc C H2 p ms S from⟨NA,sE dr.net⟩).same s3,told,hq3,by rw [Jj];exact Ng _ _,fun H4 x B f s4 W wk=>?_⟩
  have s04:=s02.trans (s3.trans s4)
  refine⟨_,rfl,by decide,by decide,km (lo:=0) (n:=3) (LwI H4 a mv st x) ⟨none,rfl,aq.refl _⟩ ?_ ?_⟩
  ·rintro i σ H5 hi ⟨v4,rfl,s5⟩
   rw [show(0+((i:Nat):Int))=((i:Nat):Int) by lia]
   refine⟨_,rfl,_,rfl,_,rfl,_,rfl,a,ns,i,rfl,(s04.trans s5).seq ha,hz,_,_,rfl,rfl,⟨by decide,by decide⟩,_,_,rfl,rfl,(by show(0:Int)<16384;decide),x,_,B,ms,S,f,rfl,W.same s5,wk,fun H6 r T s6 nr hr6 tr=>?_⟩
   exact⟨x,r,B,ms,S,f,T,rfl,W.same (s5.trans s6),wk,hr6,tr,fun H7 s7=>⟨_,rfl,bB ⟨_,rfl,s5.trans (s6.trans s7)⟩⟩⟩
  ·rintro σ H5 ⟨v4,rfl,s5⟩
   refine⟨_,rfl,_,rfl,x,0,B,ms,S,f,rfl,W.same s5,wk,fun H6 r T s6 nr hr6 tr=>⟨x,r,B,ms,S,f,T,rfl,W.same (s5.trans s6),wk,hr6,tr,fun H7 s7=>⟨_,rfl,bF ?_⟩⟩⟩
   exact⟨_,rfl,IU _,fun l H8 nl s8 hl=>⟨x,l,B,ms,S,f,[],rfl,W.same (s5.trans (s6.trans (s7.trans s8))),wk,hl,CB f,fun H9 _=>kk H9⟩⟩
end Uf
end
section
namespace Uf
open PySem L2 UfSrt PyProof.Rows
def FK{us:List Value}(h:us.length=1):∃ a,us=[a]:=List.length_eq_one_iff.mp h
def GF{us:List Value}(h:us.length=2):∃ a b,us=[a,b]:=match us,h with | [a,b],_=>⟨a,b,rfl⟩
def Gz{us:List Value}(h:us.length=3):∃ a b c,us=[a,b,c]:=match us,h with | [a,b,c],_=>⟨a,b,c,rfl⟩
def GD{us:List Value}(h:us.length=4):∃ a b c d,us=[a,b,c,d]:=match us,h with | [a,b,c,d],_=>⟨a,b,c,d,rfl⟩
def DX(K:W.Frag)(x:Str)(st:Stmt)(ps:List Str):Prop:=∃ f fd,W.nsIn K mainGlobals x=some (some (.ref f))∧dv K x x st f fd∧Binds K fd ps []
def MX(K:W.Frag)(C:Addr)(x q:Str)(st:Stmt)(ps:List Str):Prop:=∃ f fd,W.findIn K (.ref C) x=some (some (.ref f))∧W.isFn K (.ref f)=true∧dv K x q st f fd∧Binds K fd ps []
section
variable {K:W.Frag}{h:Heap}{mg:Str→Option Value}{C:Addr}{x q:Str}{st:Stmt}{ps:List Str}
def DX.d(X:K.In h)(G:h.Ns mainGlobals mg)(l:DX K x st ps):∃ f fd,Def K mg x st ps f fd:=let ⟨_,_,a,b,c⟩:=l;⟨_,_,b,LD X G a,c⟩
def MX.d(l:MX K C x q st ps):∃ f fd,Bn K C x q st ps f fd:=let ⟨_,_,a,i,b,c⟩:=l;⟨_,_,b,⟨a,i,b.kp⟩,c⟩
variable {f:Addr}{oc:Value}{od an:Option Addr}{osl:Array (Option Value)}{kV doc pm cdv ct:Value}
def Gy(a:W.nsIn K mainGlobals x=some (some (.ref f)))(l:K.lookup f=some ⟨oc,od,.func (W.fnOf x x (fi st) (dN st) (au st) .none kV doc pm an cdv ct),osl⟩)(c:W.codeIn K cdv x=true)(k:W.keepIn K (.ref f)=true)
  (b:∀ (kV doc pm:Value) (an:Option Addr) (cdv ct:Value) (us:List Value),us.length=ps.length→bindArgs (W.fnOf x x (fi st) (dN st) (au st) .none kV doc pm an cdv ct) ⟨us,[]⟩=pure (ps.zip us):=by intro _ _ _ _ _ _ us hl;first | (obtain⟨_,rfl⟩:=Uf.FK hl;rfl) | (obtain⟨_,_,rfl⟩:=Uf.GF hl;rfl) | (obtain⟨_,_,_,rfl⟩:=Uf.Gz hl;rfl) | (obtain⟨_,_,_,_,rfl⟩:=Uf.GD hl;rfl)):DX K x st ps:=⟨f,_,a,qr l c k,(qr l c k).binds b⟩
def Fi(a:W.findIn K (.ref C) x=some (some (.ref f)))(i:W.isFn K (.ref f)=true)(l:K.lookup f=some ⟨oc,od,.func (W.fnOf x q (fi st) (dN st) (au st) .none kV doc pm an cdv ct),osl⟩)(c:W.codeIn K cdv q=true)(k:W.keepIn K (.ref f)=true)
  (b:∀ (kV doc pm:Value) (an:Option Addr) (cdv ct:Value) (us:List Value),us.length=ps.length→bindArgs (W.fnOf x q (fi st) (dN st) (au st) .none kV doc pm an cdv ct) ⟨us,[]⟩=pure (ps.zip us):=by intro _ _ _ _ _ _ us hl;first | (obtain⟨_,rfl⟩:=Uf.FK hl;rfl) | (obtain⟨_,_,rfl⟩:=Uf.GF hl;rfl) | (obtain⟨_,_,_,rfl⟩:=Uf.Gz hl;rfl) | (obtain⟨_,_,_,_,rfl⟩:=Uf.GD hl;rfl)):MX K C x q st ps:=⟨f,_,a,i,qr l c k,(qr l c k).binds b⟩
end
def all_mk{l:W.OpenLaw}{w:World}{K:W.Frag}{h:Heap}{mg:Str→Option Value}{fa C CW:Addr}(X:K.In h)(G:h.Ns mainGlobals mg)(hfa:mg "law"=some (.ref fa))
  {tk1 tk2 tk3 tk4 tk5 tk6 tk7:Tok}
  (aC:W.nsIn K mainGlobals "Net"=some (some (.ref C)))
  (aW:W.nsIn K mainGlobals "Web"=some (some (.ref CW)))
  (l1:DX K "levels" Hf ["web", "troop"])
  (l2:DX K "bit" u7 ["number"])
  (l3:DX K "has" Bz ["bits", "number"])
  (l4:DX K "members" gE ["bits"])
  (l5:DX K "fitting_spots" AZ ["web", "move", "among"])
  (l6:DX K "comings" vf ["web"])
  (l7:DX K "lacks_bead" lK ["net", "state", "move"])
  (l8:DX K "gives_second" j4 ["net", "state", "move"])
  (l9:DX K "state_behind" kS ["net", "state", "move"])
  (l10:DX K "may" Ca ["net", "state"])
  (l11:DX K "crowder" j5 ["net", "state"])
  (l12:DX K "newly_reached" qm ["net", "states", "ways"])
  (l13:DX K "row_by_ways" qz ["ways", "state"])
  (l14:DX K "crowding" iJ ["net"])
  (l15:DX K "is_name" eF ["thing"])
  (l16:DX K "are_unlike_names" iO ["things"])
  (l17:DX K "is_move" jD ["taken", "given"])
  (l18:DX K "places_of" jR ["moves", "start"])
  (l19:DX K "makes_net" pZ ["moves", "start"])
  (l20:DX K "_law_cell_at" nh ["_law_script", "_law_k"])
  (l21:DX K "_law_name" rR ["_law_cell", "_law_k"])
  (l22:DX K "_law_folded" jE ["_law_cells", "_law_many"])
  (l23:DX K "_law_step" wc ["_law_number", "_law_sizes", "_law_names"])
  (l24:DX K "_law_rings" pY ["_law_script", "_law_most"])
  (l25:DX K "_law_crowds" lF ["_law_moves", "_law_start"])
  (l26:DX K "_law_free" wz ["_law_script", "_law_most"])
  (l27:DX K "_law_parts" pB ["_law_script", "_law_most"])
  (l28:DX K "_law_hand_web" vp ["_law_net", "_law_cells"])
  (l29:DX K "_law_troop" p8 ["_law_web", "_law_bits"])
  (l30:DX K "_law_whole" pE ["_law_found"])
  (l31:DX K "_law_in_order" BL ["_law_web", "_law_told"])
  (l32:DX K "_law_right" qj ["_law_web", "_law_troop_here"])
  (l33:DX K "law" xX ["_law_script"])
  (l34:MX K C "__init__" "Net.__init__" zS ["self", "moves", "start"])
  (l35:MX K C "places" "Net.places" wA ["self"])
  (l36:MX K C "moves" "Net.moves" oF ["self"])
  (l37:MX K C "start" "Net.start" m9 ["self"])
  (l38:MX K C "must_have" "Net.must_have" qD ["self", "move"])
  (l39:MX K C "takes" "Net.takes" iz ["self", "move"])
  (l40:MX K C "gives" "Net.gives" kx ["self", "move"])
  (l41:MX K CW "__init__" "Web.__init__" ux ["self", "net"])
  (l42:MX K CW "net" "Web.net" rM ["self"])
  (l43:MX K CW "spots" "Web.spots" yc ["self"])
  (l44:MX K CW "occurrences" "Web.occurrences" zT ["self"])
  (l45:MX K CW "come" "Web.come" vZ ["self", "move", "spots"])
  (l46:MX K CW "must_have_spot" "Web.must_have_spot" pM ["self", "number"])
  (l47:MX K CW "must_fit" "Web.must_fit" pd ["self", "move", "spots"])
  (l48:MX K CW "must_stand_beside" "Web.must_stand_beside" pz ["self", "spots"])
  (l49:MX K CW "bits_ahead" "Web.bits_ahead" pQ ["self", "spots"])
  (l50:MX K CW "add_occurrence" "Web.add_occurrence" vM ["self", "occurrence"])
  (l51:MX K CW "add_spots" "Web.add_spots" xQ ["self", "places", "giver", "beside"])
  (pg:W.plainGet K C Str.empty=true)
  (hd:W.hasDictIn K C=true)
  (po:W.plainOver K C=true)
  (sa:W.findIn K (.ref C) "__setattr__"=some (some (.builtin "object.__setattr__")))
  (mk:W.makesIn K C=true)
  (kc:W.keepIn K (.ref C)=true)
  (pgW:W.plainGet K CW Str.empty=true)
  (hdW:W.hasDictIn K CW=true)
  (poW:W.plainOver K CW=true)
  (saW:W.findIn K (.ref CW) "__setattr__"=some (some (.builtin "object.__setattr__")))
  (mkW:W.makesIn K CW=true)
  (kcW:W.keepIn K (.ref CW)=true)
  (wN:W.findIn K (.ref CW) "base_net"=some none)
  (wS:W.findIn K (.ref CW) "spot_tuples"=some none)
  (wO:W.findIn K (.ref CW) "occurrence_tuples"=some none)
  (wH:W.findIn K (.ref CW) "numbers_there"=some none)
  (wW:W.findIn K (.ref CW) "own_bits"=some none)
  (wG:W.findIn K (.ref CW) "given_bits"=some none)
  (wB:W.findIn K (.ref CW) "beside_bits"=some none)
  (wT:W.findIn K (.ref CW) "taker_bits"=some none)
  (wP:W.findIn K (.ref CW) "place_bits"=some none)
  (nP:W.findIn K (.ref C) "place_names"=some none)
  (nS:W.findIn K (.ref C) "start_state"=some none)
  (nT:W.findIn K (.ref C) "taken_by"=some none)
  (nG:W.findIn K (.ref C) "given_by"=some none)
  (z1:W.nsIn K mainGlobals "all"=some none)
  (z2:W.nsIn K mainGlobals "len"=some none)
  (z3:W.nsIn K mainGlobals "set"=some none)
  (z4:W.nsIn K mainGlobals "list"=some none)
  (z5:W.nsIn K mainGlobals "tuple"=some none)
  (z6:W.nsIn K mainGlobals "str"=some none)
  (z7:W.nsIn K mainGlobals "sorted"=some none)
  (z8:W.nsIn K mainGlobals "isinstance"=some none)
  (z9:W.nsIn K mainGlobals "range"=some none)
  (z10:W.nsIn K mainGlobals "enumerate"=some none)
  (z11:W.nsIn K mainGlobals "any"=some none)
  (z12:W.nsIn K mainGlobals "reversed"=some none)
  (z13:W.nsIn K mainGlobals "dict"=some none)
  (z14:W.nsIn K mainGlobals "max"=some none)
  (z15:W.nsIn K mainGlobals "min"=some none)
  (z16:W.nsIn K mainGlobals "int"=some none)
  (z17:W.nsIn K mainGlobals "bool"=some none)
  (y1:W.nsIn K mainGlobals "LETTERS"=some (some (.str AL tk1)))
  (y2:W.nsIn K mainGlobals "LONGEST_NAME"=some (some (.int 8 tk2)))
  (y3:W.nsIn K mainGlobals "MOST_PLACES"=some (some (.int 12 tk3)))
  (y4:W.nsIn K mainGlobals "MOST_MOVES"=some (some (.int 12 tk4)))
  (y5:W.nsIn K mainGlobals "LEAST_TAKEN"=some (some (.int 1 tk5)))
  (y6:W.nsIn K mainGlobals "MOST_TAKEN"=some (some (.int 4 tk6)))
  (y7:W.nsIn K mainGlobals "MOST_GIVEN"=some (some (.int 4 tk7))) :
  ∃ fd:FuncData,(∀ (s:Shared) (v:Value),BindsTo s fd ⟨[v],[]⟩ [("_law_script",v)])∧∀ base:Heap,K.In base→base.Ns mainGlobals mg→bo l.prog w K mg base cS 12 fa fd ["_law_script"] (wg K):=by
 have T:Txt K mg:=⟨JH X G z1,JH X G z2,JH X G z3,JH X G z4,JH X G z5,JH X G z6,JH X G z7,JH X G z8,⟨_,LD X G y1⟩,⟨_,LD X G y2⟩,⟨_,LD X G y3⟩,⟨_,LD X G y4⟩,⟨_,LD X G y5⟩,⟨_,LD X G y6⟩,⟨_,LD X G y7⟩⟩
 have T2:Txt2 mg:=⟨JH X G z9,JH X G z10,JH X G z11⟩
 have NC:gU K C:=⟨⟨pg,hd,po,sa⟩,nP,nS,nT,nG⟩
 have WC:gG K CW:=⟨⟨pgW,hdW,poW,saW⟩,wN,wS,wO,wH,wW,wG,wB,wT,wP⟩
 obtain⟨f1,d1,D1⟩:=l1.d X G
 obtain⟨f2,d2,D2⟩:=l2.d X G
 obtain⟨f3,d3,D3⟩:=l3.d X G
 obtain⟨f4,d4,D4⟩:=l4.d X G
 obtain⟨f5,d5,D5⟩:=l5.d X G
 obtain⟨f6,d6,D6⟩:=l6.d X G
 obtain⟨f7,d7,D7⟩:=l7.d X G
 obtain⟨f8,d8,D8⟩:=l8.d X G
 obtain⟨f9,d9,D9⟩:=l9.d X G
 obtain⟨f10,d10,D10⟩:=l10.d X G
 obtain⟨f11,d11,D11⟩:=l11.d X G
 obtain⟨f12,d12,D12⟩:=l12.d X G
 obtain⟨f13,d13,D13⟩:=l13.d X G
 obtain⟨f14,d14,D14⟩:=l14.d X G
 obtain⟨f15,d15,D15⟩:=l15.d X G
 obtain⟨f16,d16,D16⟩:=l16.d X G
 obtain⟨f17,d17,D17⟩:=l17.d X G
 obtain⟨f18,d18,D18⟩:=l18.d X G
 obtain⟨f19,d19,D19⟩:=l19.d X G
 obtain⟨f20,d20,D20⟩:=l20.d X G
 obtain⟨f21,d21,D21⟩:=l21.d X G
 obtain⟨f22,d22,D22⟩:=l22.d X G
 obtain⟨f23,d23,D23⟩:=l23.d X G
 obtain⟨f24,d24,D24⟩:=l24.d X G
 obtain⟨f25,d25,D25⟩:=l25.d X G
 obtain⟨f26,d26,D26⟩:=l26.d X G
 obtain⟨f27,d27,D27⟩:=l27.d X G
 obtain⟨f28,d28,D28⟩:=l28.d X G
 obtain⟨f29,d29,D29⟩:=l29.d X G
 obtain⟨f30,d30,D30⟩:=l30.d X G
 obtain⟨f31,d31,D31⟩:=l31.d X G
 obtain⟨f32,d32,D32⟩:=l32.d X G
 obtain⟨f34,d34,D34⟩:=l34.d
 obtain⟨f35,d35,D35⟩:=l35.d
 obtain⟨f36,d36,D36⟩:=l36.d
 obtain⟨f37,d37,D37⟩:=l37.d
 obtain⟨f38,d38,D38⟩:=l38.d
 obtain⟨f39,d39,D39⟩:=l39.d
 obtain⟨f40,d40,D40⟩:=l40.d
 obtain⟨f41,d41,D41⟩:=l41.d
 obtain⟨f42,d42,D42⟩:=l42.d
 obtain⟨f43,d43,D43⟩:=l43.d
 obtain⟨f44,d44,D44⟩:=l44.d
 obtain⟨f45,d45,D45⟩:=l45.d
 obtain⟨f46,d46,D46⟩:=l46.d
 obtain⟨f47,d47,D47⟩:=l47.d
 obtain⟨f48,d48,D48⟩:=l48.d
 obtain⟨f49,d49,D49⟩:=l49.d
 obtain⟨f50,d50,D50⟩:=l50.d
 obtain⟨f51,d51,D51⟩:=l51.d
 obtain⟨fl,_,a,FL,_⟩:=l33
 cases hfa.symm.trans (LD X G a)
 obtain⟨oc,od,kV,doc,pm,an,cdv,ct,osl,rfl,lk,hcd⟩:=id FL.ex
 refine⟨W.fnOf "law" "law" (fi xX) (dN xX) (au xX) .none kV doc pm an cdv ct,fun s v=>.of_eq rfl,fun base _ _=>?_⟩
 have GI:=Bx (P:=l.prog) (w:=w) (mg:=mg) (base:=base) D34.fn T NC D15 D16 D17 D18 D19
 have GPl:=CH (P:=l.prog) (w:=w) (mg:=mg) (base:=base) D35.fn T NC
 have GM:=Bp (P:=l.prog) (w:=w) (mg:=mg) (base:=base) D36.fn T NC
 have GS:=yQ (P:=l.prog) (w:=w) (mg:=mg) (base:=base) D37.fn NC
 have GT:=yn (P:=l.prog) (w:=w) (mg:=mg) (base:=base) D39.fn T NC D15 D38
 have GG:=yB (P:=l.prog) (w:=w) (mg:=mg) (base:=base) D40.fn T NC D15 D38
 have GL:=yD (P:=l.prog) (w:=w) (mg:=mg) (base:=base) D7.fn T T2.any NC ⟨_,_,D39,GT⟩
 have GSe:=xu (P:=l.prog) (w:=w) (mg:=mg) (base:=base) D8.fn T T2.any NC ⟨_,_,D39,GT⟩ ⟨_,_,D40,GG⟩
 have GB:=xA (P:=l.prog) (w:=w) (mg:=mg) (base:=base) D9.fn T NC ⟨_,_,D39,GT⟩ ⟨_,_,D40,GG⟩
 have GMay:=Er (P:=l.prog) (w:=w) (mg:=mg) (base:=base) D10.fn NC ⟨_,_,D36,GM⟩ ⟨_,_,D7,GL⟩ ⟨_,_,D8,GSe⟩
 have GCd:=uc (P:=l.prog) (w:=w) (mg:=mg) (base:=base) D11.fn NC ⟨_,_,D36,GM⟩ ⟨_,_,D7,GL⟩ ⟨_,_,D8,GSe⟩
 have GN:=yP (P:=l.prog) (w:=w) (mg:=mg) (base:=base) D12.fn ⟨_,_,D10,GMay⟩ ⟨_,_,D9,GB⟩
 have GR:=Av (P:=l.prog) (w:=w) (mg:=mg) (base:=base) D13.fn T (JH X G z12)
 have GCr:=rS (P:=l.prog) (w:=w) (mg:=mg) (base:=base) D14.fn NC ⟨_,_,D37,GS⟩ ⟨_,_,D11,GCd⟩ ⟨_,_,D12,GN⟩ ⟨_,_,D13,GR⟩
 have GBi:=Ew (P:=l.prog) (w:=w) (mg:=mg) (base:=base) D2.fn
 have GHa:=Em (P:=l.prog) (w:=w) (mg:=mg) (base:=base) D3.fn
 have GMe:=uo (P:=l.prog) (w:=w) (mg:=mg) (base:=base) D4.fn
 have GAd:=Ct (P:=l.prog) (w:=w) (mg:=mg) (base:=base) D51.fn T WC ⟨_,_,D4,GMe⟩ ⟨_,_,D2,GBi⟩
 have GAl:=Bi (P:=l.prog) (w:=w) (mg:=mg) (base:=base) D51.fn T WC ⟨_,_,D4,GMe⟩ ⟨_,_,D2,GBi⟩
 have GWi:=Ap (P:=l.prog) (w:=w) (mg:=mg) (base:=base) (C:=C) (CW:=CW) D41.fn T (JH X G z13) NC WC ⟨_,_,D14,GCr⟩ ⟨_,_,D35,GPl⟩ ⟨_,_,D37,GS⟩ ⟨_,_,D51,GAd⟩
 have GWn:=BC (P:=l.prog) (w:=w) (mg:=mg) (base:=base) (C:=C) (CW:=CW) D42.fn WC
 have GWs:=Du (P:=l.prog) (w:=w) (mg:=mg) (base:=base) (C:=C) (CW:=CW) D43.fn T WC
 have GWo:=DQ (P:=l.prog) (w:=w) (mg:=mg) (base:=base) (C:=C) (CW:=CW) D44.fn T WC
 have GMs:=yY (P:=l.prog) (w:=w) (mg:=mg) (base:=base) (C:=C) (CW:=CW) D46.fn T WC
 have GMf:=zt (P:=l.prog) (w:=w) (mg:=mg) (base:=base) (C:=C) (CW:=CW) D47.fn T NC WC ⟨_,_,D39,GT⟩ ⟨_,_,D46,GMs⟩
 have GMb:=zB (P:=l.prog) (w:=w) (mg:=mg) (base:=base) (C:=C) (CW:=CW) D48.fn T2 WC ⟨_,_,D3,GHa⟩
 have GAh:=Aq (P:=l.prog) (w:=w) (mg:=mg) (base:=base) (C:=C) (CW:=CW) D49.fn WC
 have GAo:=Ba (P:=l.prog) (w:=w) (mg:=mg) (base:=base) (C:=C) (CW:=CW) D50.fn T NC WC ⟨_,_,D2,GBi⟩ ⟨_,_,D40,GG⟩ ⟨_,_,D49,GAh⟩ ⟨_,_,D51,GAl⟩
 have GCo:=AW (P:=l.prog) (w:=w) (mg:=mg) (base:=base) (C:=C) (CW:=CW) D45.fn T WC ⟨_,_,D47,GMf⟩ ⟨_,_,D48,GMb⟩ ⟨_,_,D50,GAo⟩
 have GFi:=Dw (P:=l.prog) (w:=w) (mg:=mg) (base:=base) (C:=C) (CW:=CW) D5.fn T NC WC ⟨_,_,D42,GWn⟩ ⟨_,_,D39,GT⟩ ⟨_,_,D4,GMe⟩
 have GCg:=Cg (P:=l.prog) (w:=w) (mg:=mg) (base:=base) (C:=C) (CW:=CW) D6.fn T NC WC ⟨_,_,D2,GBi⟩ ⟨_,_,D43,GWs⟩ ⟨_,_,D42,GWn⟩ ⟨_,_,D36,GM⟩ ⟨_,_,D5,GFi⟩
 have GLv:=Gw (P:=l.prog) (w:=w) (mg:=mg) (base:=base) (C:=C) (CW:=CW) D1.fn T (JH X G z14) WC
 have GCe:=CC (P:=l.prog) (w:=w) (mg:=mg) (base:=base) D20.fn T
 have GNa:=BR (P:=l.prog) (w:=w) (mg:=mg) (base:=base) D21.fn
 have GFo:=xm (P:=l.prog) (w:=w) (mg:=mg) (base:=base) D22.fn T T2
 have GSt:=Cp (P:=l.prog) (w:=w) (mg:=mg) (base:=base) D23.fn T T2
 have GRg:=yJ (P:=l.prog) (w:=w) (mg:=mg) (base:=base) D24.fn T T2 (JH X G z15) ⟨_,_,D20,GCe⟩ ⟨_,_,D21,GNa⟩ ⟨_,_,D22,GFo⟩ ⟨_,_,D23,GSt⟩
 have GCw:=xh (P:=l.prog) (w:=w) (mg:=mg) (base:=base) D25.fn T T2
 have GFr:=B0 (P:=l.prog) (w:=w) (mg:=mg) (base:=base) D26.fn T T2 (JH X G z15) ⟨_,_,D20,GCe⟩ ⟨_,_,D21,GNa⟩ ⟨_,_,D22,GFo⟩ ⟨_,_,D25,GCw⟩
 have GPa:=zK (P:=l.prog) (w:=w) (mg:=mg) (base:=base) D27.fn ⟨_,_,D20,GCe⟩ ⟨_,_,D24,GRg⟩ ⟨_,_,D26,GFr⟩
 have GHw:=BH (P:=l.prog) (w:=w) (mg:=mg) (base:=base) (C:=C) (CW:=CW) D28.fn T WC (LD X G aW) ⟨mkW,D41.mt.at_,D41.mt.fn,kcW⟩ D41.bd GWi ⟨_,_,D6,GCg⟩ ⟨_,_,D45,GCo⟩
 have GTr:=zd (P:=l.prog) (w:=w) (mg:=mg) (base:=base) (C:=C) (CW:=CW) D29.fn T T2 WC ⟨_,_,D43,GWs⟩ ⟨_,_,D44,GWo⟩
 have GWh:=An (P:=l.prog) (w:=w) (mg:=mg) (base:=base) D30.fn T (JH X G z16) (JH X G z17)
 have GIo:=DE (P:=l.prog) (w:=w) (mg:=mg) (base:=base) (C:=C) (CW:=CW) D31.fn T T2 (JH X G z14) WC ⟨_,_,D43,GWs⟩ ⟨_,_,D44,GWo⟩
 have GRi:=zi (P:=l.prog) (w:=w) (mg:=mg) (base:=base) (C:=C) (CW:=CW) D32.fn T WC ⟨_,_,D1,GLv⟩ ⟨_,_,D30,GWh⟩ ⟨_,_,D31,GIo⟩
 exact DZ FL T2 (LD X G aC) ⟨mk,D34.mt.at_,D34.mt.fn,kc⟩ D34.bd GI ⟨_,_,D20,GCe⟩ ⟨_,_,D27,GPa⟩ ⟨_,_,D28,GHw⟩ ⟨_,_,D29,GTr⟩ ⟨_,_,D32,GRi⟩
def walk{l:W.OpenLaw}{q:Program}{loose:List Str}{XP:(Str→Option Value)→Heap→Prop}{YP:World→Heap→Prop}{d:DefRec}{K:Params→W.Frag}(hn:l.most=some 63)(hdf:d.params.defaults=[])
  (hY:∀ (w:World) (h:Heap),YP w h→(K w.params).In h)
  (F:∀ (w:World) (mg:Str→Option Value) (fa:Addr) (h:Heap),(K w.params).In h→h.Ns mainGlobals mg→mg d.name = some (.ref fa) →
   ∃ fd:FuncData,(∀ (s:Shared) (u:Value),BindsTo s fd ⟨[u],[]⟩ [("_law_script",u)])∧∀ base:Heap,(K w.params).In base→base.Ns mainGlobals mg→bo l.prog w (K w.params) mg base cS 12 fa fd ["_law_script"] (wg (K w.params))) :
  W.WalkO q loose XP YP l.row.toRowW d [] (fun f vs=>PySem.call f vs) :=
 L2.A1 (n:=63) (k:=12) (x:="_law_script") (CX:=fun _=>cS) (sp:=fun w=>wg (K w.params)) hn (by decide) hdf ⟨rfl,by decide,by decide,rfl⟩ hY F (fun _ _ a ns hl _ hS=>⟨a,ns,rfl,hS,hl,fun _=>rfl⟩) fun _ _ _ _ _ z=>z
end Uf
end
section
open PySem PySem.W PyProof.Rows
namespace PySem.W.Fast
def tw4480366603754695557:=()
def tw4762643355186752768:=()
def tw1773653748042724051:=()
def tw2623827581183349802:=()
def tw1685678459231942581:=()
def tw3746876588663958969:=()
def tw15863486755345616760:=()
def tw12098437185031564003:=()
def tw9762131442242357742:=()
def tw12513512447697653390:=()
def tw11559805007354459491:=()
def tw12017530244844082342:=()
def tw11095108702955866981:=()
def tw9700454046652109779:=()
def tw8306822340972567931:=()
def tw8882847984049692073:=()
def tw10699986643457442882:=()
def tw826412278357220178:=()
def tw16567391689924714139:=()
def tw7724749021986914628:=()
def tw7055077407581619048:=()
def tw2964963921532622141:=()
def tw12861411161990270093:=()
def tw9064491876381246247:=()
def tw16946599589828331414:=()
def tw12265046972045122107:=()
def tw3710750796975373719:=()
def tw7428367239485324791:=()
def tw13178704671042566062:=()
def tw17831987245961939766:=()
def tw5446673094319683802:=()
def tw11749704634966742112:=()
def tw11854494025610595242:=()
def tw10291517628237103944:=()
def tw6610997624177030110:=()
def tw6931010724289009013:=()
def tw16782566762761202625:=()
def tw17670476041750369634:=()
def tw1942426209066989362:=()
def tw9015210545914727123:=()
def tw2924233358465204911:=()
def tw18382667333136647126:=()
def tw1777175847548678211:=()
def tw17501133052338958320:=()
def tw4072920507867736034:=()
def tw17263407581478055055:=()
def tw9266231031622816553:=()
def tw7930184141584852824:=()
def tw15132777646442426899:=()
def tw13282456445319446409:=()
def tw1265270487239898896:=()
def tw5628378521863955408:=()
def tw4000313884832438495:=()
def tw17263139607450460841:=()
def tw7757326287076153480:=()
def tw14025308014773818444:=()
def tw18147865430352082899:=()
def tw14325464930366721992:=()
def tw12801894627826672480:=()
def tw17899235171970944273:=()
def tw4183356474414311446:=()
def tw10158783449015570169:=()
def tw9928953220714071756:=()
def tw15270796573485758229:=()
def tw10734827503159796149:=()
def tw12865834844850878378:=()
def tw1249192080125773927:=()
def tw15466907759722757692:=()
def tw8245884917072398122:=()
def tw12503026228685101407:=()
def tw6180491857932490439:=()
def tw401019926868630072:=()
def tw3519660004455949225:=()
def tw7481192591774230994:=()
def tw8677196350424404867:=()
def tw2220464450988591228:=()
def tw9680589950300583223:=()
def tw17959354842415817791:=()
def tw9935222145727132263:=()
def tw7442216766688332329:=()
def tw11940104853112472912:=()
def tw16287385543139436227:=()
def tw8827253825603951992:=()
def tw3802962621891234384:=()
def tw15814291476008213323:=()
def tw12745797379226301094:=()
def tw3768680326544387610:=()
def tw2193893912056200597:=()
def tw1560237316357039625:=()
def tw5234968081170788131:=()
def tw8238366239430568688:=()
def tw2488531853063498265:=()
def tw12180864493497296033:=()
def tw12220017009926470578:=()
def tw15726978077755049350:=()
def tw18361410943421989321:=()
def tw2380793614534178660:=()
def tw1792852161192944228:=()
def tw14326800338202832508:=()
def tw4140380719537283072:=()
def tw17812923716430483204:=()
def tw4928127691999550608:=()
def tw15337056316085195216:=()
def tw13126716901721527473:=()
def tw7887498267648975092:=()
def tw9148886664244835983:=()
def tw3304419309212359783:=()
def tw12805736922768933956:=()
def tw8053845782924914742:=()
def tw15651059131474282701:=()
def tw3506251320172001115:=()
def tw8731141361445121147:=()
def tw1289197792493020153:=()
def tw11404336034926897040:=()
def tw5788184528449022459:=()
def tw1471661837144956440:=()
def tw4624630885711736163:=()
def tw15989013153793425329:=()
def tw12935997542196482025:=()
def tw11374711528465150902:=()
def tw1140068826775444182:=()
def tw15504909491755275537:=()
def tw1328711576763542777:=()
def tw15064066647941544673:=()
def tw1532458739146340024:=()
def tw6264247991606451063:=()
def tw9598755798441157462:=()
def tw2117611012991467013:=()
def tw6424472655419053058:=()
def tw14168527829599333771:=()
def tw4767533738496916775:=()
def tw18036150380041502805:=()
def tw6714518008835447962:=()
def tw9071557489626486290:=()
def tw2798269580703527624:=()
def tw8680900826876397833:=()
def tw1004934233851272538:=()
def tw13199464864154570789:=()
def tw17117616828361940865:=()
def tw16036281125263876975:=()
def tw5256912831555004817:=()
def tw10411156113322797926:=()
def tw2391016258592645637:=()
def tw17900977693002115756:=()
def tw2579094502271034295:=()
def tw12282636617486808389:=()
def tw1398475392282795692:=()
def tw13828640775801938733:=()
def tw1160881220109635716:=()
def tw9285269252190263873:=()
def tw16611663757588884963:=()
def tw3869162912537567417:=()
def tw14182058750557703033:=()
def tw1260554182873365695:=()
def tw17154338186453691683:=()
def tw11252071161379764519:=()
def tw7529273082300154163:=()
def tw14059258320905723403:=()
def tw18210965374931990004:=()
def tw14881259075156200193:=()
def tw4281971769030934694:=()
def tw1212114989216807592:=()
def tw18216780167716472355:=()
def tw10780705263835133040:=()
def tw2569030922426600519:=()
def tw10233745589280163116:=()
def tw12228835965933367955:=()
def tw16427704740716371230:=()
def tw7821165034982962185:=()
def tw10878142645653576466:=()
def tw7415908980365406442:=()
def tw6979873714701393851:=()
def tw4376499609348752368:=()
def tw4859932736963358169:=()
def tw6813587244384938165:=()
def tw14272706751076082698:=()
def tw7483584860615889155:=()
def tw6023066024982832464:=()
def tw17205965929439874754:=()
def tw15146467322331413569:=()
def tw17144344151858965626:=()
def tw2662558836856556885:=()
def tw7576626873190230285:=()
def tw13450604612335322163:=()
def tw1897482932704796754:=()
def tw8620551598258311912:=()
def tw6790631316292635332:=()
def tw876118971056308886:=()
def tw1660432049989182451:=()
def tw13580922139769447673:=()
def tw18065857715895011687:=()
def tw3167928853578811813:=()
def tw15229097558953478911:=()
def tw7210284800076001136:=()
def tw2077115112614961294:=()
def tw18428521065730803040:=()
def tw12006080049415516663:=()
def tw8157242672807674171:=()
def tw4634431663163653876:=()
def tw9138211847391506693:=()
def tw9426480446888542896:=()
def tw17279606326320682693:=()
def tw12045197100741585535:=()
def tw14996653290594707476:=()
def tw8653736899822180507:=()
def tw624781935915815684:=()
def tw95143916816625568:=()
def tw11978429410565367289:=()
def tw17040749898128956229:=()
def tw2166095390140005360:=()
def tw17814900598243667332:=()
def tw5776622969914686374:=()
def tw13032446215393811621:=()
def tw6584737374555604740:=()
def tw2694479239151294305:=()
def tw14714333701950368653:=()
def tw13100353088876967719:=()
def tw3719344164770985823:=()
def tw8969694756940900680:=()
def tw5986639635516923556:=()
def tw937734254327976428:=()
def tw16642001012112917653:=()
def tw16467780880322456537:=()
def tw6099202925577612552:=()
def tw8383080954995723333:=()
def tw5088848789268116493:=()
def tw3244228110098923663:=()
def tw3045216454054406611:=()
def tw2508875383043530143:=()
def tw17437296827811279799:=()
def tw18219049913037769781:=()
def tw4796849540548808696:=()
def tw11211749062753833393:=()
def tw15558466012870252633:=()
def tw15825966529398591848:=()
def tw16808895889669218893:=()
def tw15572028202616125835:=()
def tw17728898392771533175:=()
def tw4770663111140548720:=()
def tw10976040743180137610:=()
def tw4343607759162686109:=()
def tw4932734079466160138:=()
def tw18022878708198913261:=()
def tw2427311491625234475:=()
def tw4808696829014565970:=()
def tw15176793202932741669:=()
def tw10346623305049261535:=()
def tw2007248419030042735:=()
def tw12006114136685312997:=()
def tw2085473263305468587:=()
def tw17216581907620923024:=()
def tw17532948099281247991:=()
def tw532554433416134069:=()
def tw2556154951831497325:=()
def tw10836881093664297429:=()
def tw17214839676946044162:=()
def tw10517536812813506800:=()
def tw2624591042701190456:=()
def tw17689194033821509089:=()
def tw11701420056740048802:=()
def tw17966605234340400576:=()
def tw15977034349530173139:=()
def tw5879082575005620498:=()
def tw2260266486419790696:=()
def tw8948248233261473309:=()
def tw16979522589920652252:=()
def tw13365003421176794658:=()
def tw18401838480142005059:=()
def tw16680596515126981874:=()
def tw6917728791584742589:=()
def tw827903801220910013:=()
def tw1087989417230464198:=()
def tw18341519852182285412:=()
def tw16752181645043094046:=()
def tw8999473803598031304:=()
def tw14869254014761385610:=()
def tw14663205768249081507:=()
def tw16995035898114840148:=()
def tw3307000263286851393:=()
def tw4786161662737825271:=()
def tw10205958854593010635:=()
def tw15385287087154999832:=()
def tw18065404273133454064:=()
def tw12082667517440138372:=()
def tw6824735598617364930:=()
def tw16878484482176981319:=()
def tw7350035005065052685:=()
def tw12823524774591601895:=()
def tw3998194425979442322:=()
def tw5540974617491586053:=()
def tw11236943192880443618:=()
def tw9680129893610431859:=()
def tw12517260376682676060:=()
def tw14086752537007708088:=()
def tw4656762548253579809:=()
def tw3219545370211132505:=()
def tw6977831406946481375:=()
def tw432496176448075070:=()
def tw2826025851929463271:=()
def tw11693182935533624798:=()
def tw16525862377153918705:=()
def tw14174018886797025519:=()
def tw13256784813030215953:=()
def tw9557528154763585780:=()
def tw6849036525964594843:=()
def tw9342864979914286469:=()
def tw920358440021715297:=()
def tw13538369400937712113:=()
def tw1856429160434779670:=()
def tw537161387261397162:=()
def tw8583328162296279750:=()
def tw16506458152613245184:=()
def tw7679884981930155203:=()
def tw16705678028353708817:=()
def tw12955722391750318935:=()
def tw18132858262050867273:=()
def tw5281603498638198006:=()
def tw8609457141471055872:=()
def tw14579412080822838007:=()
def tw16654543992137766628:=()
def tw6969791527042006784:=()
def tw6700513743568631759:=()
def tw896017463679785758:=()
def tw13468239669996166033:=()
def tw12355124184685646728:=()
def tw13431768325687970029:=()
def tw1893560929977077534:=()
def tw3542603770926039750:=()
def tw8566294677406852051:=()
def tw6700511277232537479:=()
def tw1892383923899092822:=()
def tw10630045010141678062:=()
def tw3829202666284241821:=()
def tw15971832373875743960:=()
def tw15195919002169871262:=()
def tw15869727767526873018:=()
def tw14251317967844197726:=()
def tw10229857207114612119:=()
def tw15275358262714665861:=()
def tw2105086337610456563:=()
def tw17892108511670776467:=()
def tw14419607558423722845:=()
def tw8567164851277271684:=()
def tw17748699509081927164:=()
def tw16645859180697755753:=()
def tw12230052679445439120:=()
def tw1087035308088877951:=()
def tw12907379049417103489:=()
def tw10803974193790558649:=()
def tw14766954978453565106:=()
def tw14716404985151033530:=()
def tw4705752498668324149:=()
def tw11252570779259982193:=()
def tw15143787809012884332:=()
def tw6468096690074318056:=()
def tw9083152894236324096:=()
def tw10270234610474312350:=()
def tw12923804232487468722:=()
def tw8098323774088026219:=()
def tw4603621950645014724:=()
def tw8455274381282949070:=()
def tw4114014883070409144:=()
def tw9270690607298238573:=()
def tw9367959638017559051:=()
def tw9719133022376542768:=()
def tw9734284169289116982:=()
def tw14684493641716587353:=()
def tw13139758645070482642:=()
def tw9258108404927129239:=()
def tw15902947011007452848:=()
def tw10591326869709171829:=()
def tw4350886245291252497:=()
def tw8254456161280690882:=()
def tw14843102539354080190:=()
def tw13823024373024742031:=()
def tw15764652764791805748:=()
def tw11239400968843597719:=()
def tw905937279366651459:=()
def tw935358357386425877:=()
def tw15113919808687715678:=()
def tw12912393500307182821:=()
def tw10290137433938929486:=()
def tw10463360203082717270:=()
def tw4524713691153671701:=()
def tw11556232777117289742:=()
def tw5754124732168559851:=()
def tw5447553924825055368:=()
def tw16990922599700478046:=()
def tw15563324655292152197:=()
def tw7799829200194927610:=()
def tw11113324131838783861:=()
def tw6267769763595768291:=()
def tw11173708085586272401:=()
def tw4149370711889395315:=()
def tw2334337430920413898:=()
def tw1064613389632066808:=()
def tw15330862101738178335:=()
def tw7317808165512493377:=()
def tw9675760688680201950:=()
def tw6841328791041219656:=()
def tw18249483384761461919:=()
def tw9257769430091967004:=()
def tw3812671652403641626:=()
def tw10308453597811928988:=()
def tw1198184842518604173:=()
def tw2458150385016460360:=()
def tw2698639557830817377:=()
def tw15975837115982262905:=()
def tw11471667973602019486:=()
def tw2692895654440623001:=()
def tw8639575375362530254:=()
def tw9173635994679870641:=()
def tw242896175897516192:=()
def tw5566421744474990543:=()
def tw15406807813317267993:=()
def tw8578849347187609760:=()
def tw14656689108481134894:=()
def tw10999575670160230149:=()
def tw13272881544252885531:=()
def tw2719068912261492759:=()
def tw15325673390150675164:=()
def tw13525015086830142156:=()
def tw8405607688814507410:=()
def tw12999481539331905204:=()
def tw15795211165291411931:=()
def tw12711215163277568973:=()
def tw4330812745935131380:=()
def tw12277774585653170938:=()
def tw7273501250302257374:=()
def tw2380972224022475314:=()
def tw2608911571346613816:=()
def tw7583844487944228590:=()
def tw17283012643449329823:=()
def tw11583290783787764775:=()
def tw14549208104368054669:=()
def tw14390115873712719086:=()
def tw1789190308415654428:=()
def tw17043130536382303117:=()
def tw11545910150655127289:=()
def tw8661482991178939323:=()
def tw15805473095041687589:=()
def tw410789062255444248:=()
def tw11131692379224733494:=()
def tw9504443191065160543:=()
def tw10606663705885258899:=()
def tw4736055897780330897:=()
def tw3727512553265953949:=()
def tw7723750435601247734:=()
def tw5421399508214711392:=()
def tw9085888285901339852:=()
def tw3986158962866587365:=()
def tw2741600810168343359:=()
def tw2214355620083242286:=()
def tw4471969906781088681:=()
def tw12333552655906824101:=()
def tw413288378138834032:=()
def tw12862233770576391710:=()
def tw4358939690991979895:=()
def tw16783348310574698790:=()
def tw11912362227114614541:=()
def tw5629364467973743335:=()
def tw1087514253213244909:=()
def tw1987878176258946736:=()
def tw6613398319687946231:=()
def tw15836734814036277797:=()
def tw17239165021235204040:=()
def tw7125103618322270188:=()
def tw2784839109683872516:=()
def tw10219079778036270013:=()
def tw13734905411636697198:=()
def tw14240021663824684413:=()
def tw11178642792545156698:=()
def tw12367519748256371876:=()
def tw1401583924466980177:=()
def tw11910721904580712302:=()
def tw13454973336652574068:=()
def tw4342772939180289217:=()
def tw3002736325513452226:=()
def tw5910853439775330377:=()
def tw17844383607773505921:=()
def tw9246884873718630034:=()
def tw8317208584553714629:=()
def tw14235422311547187844:=()
def tw10762004315858916484:=()
def tw4098040588026803368:=()
def tw17910586180371201948:=()
def tw12127180299833383430:=()
def tw16552212865826162392:=()
def tw2310396315782391923:=()
def tw5168971336795705962:=()
def tw15585498351035944431:=()
def tw13811743920751595152:=()
def tw4075204512690300764:=()
def tw9504022745302944068:=()
def tw8954807539355870921:=()
def tw3921956296770174977:=()
def tw6469986982342136400:=()
def tw7123624852740619169:=()
def tw12473020531453228985:=()
def tw6157173460117881835:=()
def tw10342546424311038863:=()
def tw7467314106445543742:=()
def tw734772178163384411:=()
def tw14689701245721973375:=()
def tw7727928965646867825:=()
def tw16057114431843996722:=()
def tw13689684255478481898:=()
def tw12708752837481517589:=()
def tw17280203547033687103:=()
def tw11108723594846785216:=()
def tw11843795169300766734:=()
def tw7783177170119702989:=()
def tw6257278625093497550:=()
def tw16250185099677327043:=()
def tw417699739542270955:=()
def tw6315149496634972181:=()
def tw2370254420386186378:=()
def tw15668796313804519783:=()
def tw7434460070988503912:=()
def tw3997247302626700419:=()
def tw3050881264203539869:=()
def tw14960108261537250097:=()
def tw7905376999072534699:=()
def tw3005174256025232144:=()
def tw17463825191802288990:=()
def tw7234329977600801507:=()
def tw12582083156077498320:=()
def tw14744904849079506535:=()
def tw2276408573419679784:=()
def tw6151008342456644601:=()
def tw17197512800048562719:=()
def tw9225943716974169432:=()
def tw2272497826339043442:=()
def tw9998071428811986347:=()
def tw15523316753951870660:=()
def tw3689986874234544506:=()
def tw15085322420713455241:=()
def tw2565460712567817307:=()
def tw9487585084329089080:=()
def tw15192851150269506116:=()
def tw5988009499993611609:=()
def tw15434445793756787436:=()
def tw16597374670287013350:=()
def tw17561788281621517088:=()
def tw12285139182583119076:=()
def tw15480056802379224731:=()
def tw1003358558324993461:=()
def tw14638544775013743347:=()
def tw7433935084657128716:=()
def tw14230061623468161661:=()
def tw8052190138725974746:=()
def tw10912861651452875142:=()
def tw17810720637942287907:=()
def tw4913947082203178633:=()
def tw16849625451978755724:=()
def tw633846410232906881:=()
def tw2482556283918918039:=()
def tw13897479964105474939:=()
def tw1382251172988660336:=()
def tw9186948634494896558:=()
def tw6036338369885510390:=()
def tw500892814978820227:=()
def tw9127748852358955014:=()
def tw17976668299791311506:=()
def tw1847460672228670481:=()
def tw12303589221829811808:=()
def tw4744118041423936518:=()
def tw5188488862938110872:=()
def tw1370733373123990793:=()
def tw13762962517222355955:=()
def tw5476539927490174178:=()
def tw4917486624974565339:=()
def tw16997164414604445510:=()
def tw2303848904764717405:=()
def tw10928880962714781289:=()
def tw2889802771453888838:=()
def tw17713345872520649406:=()
def tw17243140265633103034:=()
def tw5333411192830819173:=()
def tw5123650987604455588:=()
def tw12485144626376471227:=()
def tw13737843483554718018:=()
def tw4333907008370701059:=()
def tw13548401543264816291:=()
def tw16441571317446797550:=()
def tw5087188819166940765:=()
def tw17547688290782052926:=()
def tw10389144925366705496:=()
def tw11979225600746776418:=()
def tw13872469514356326258:=()
def tw4582055524824657049:=()
end PySem.W.Fast
set_option maxRecDepth 100000 in
set_option maxHeartbeats 0 in
theorem PySem.Challenge.cw_unfoldnet_k41_levels_holds : PySem.Challenge.rw_unfoldnet_k41_levels.Holds := by
 w_on;o_law;k_head;(case hw=>w_witness2)
 k_fill
 refine Uf.walk (l:=PySem.Challenge.rw_unfoldnet_k41_levels) rfl rfl (fun w h Y=>PySem.W.kIn_of Y) ?F
 case F =>
  intro w mg fa h KX G hmg
  refine' Uf.all_mk KX G hmg ..
  all_goals try first | refine' Uf.Gy ?_ ?_ ?_ ?_ | refine' Uf.Fi ?_ ?_ ?_ ?_ ?_
  all_goals first | k_is | rfl | kernel_rfl | decide +kernel | skip
end
