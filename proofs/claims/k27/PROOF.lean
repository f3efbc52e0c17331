import PyProof.Rows.All
import Wide.All
import OpenK.AllK
import Wide.FinOn
import Lean
import PyProof.EqAt
import PyProof.EqKinds
import PyProof.TupleCall
import PyProof.SetKind
import PyProof.DictKinds
import PyProof.CompFree
import PyProof.FactsAll.set_1
import PyProof.Seq
import PyProof.Walks
import PyProof.CollectWalk
import PyProof.WalkLemmas
import PyProof.Rows.TmSorted
import PyProof.Rows.StrMeet
import PyProof.Rows.SortStr
import PyProof.Rows.SetFrom
import KE.KDictList
import PyProof.NeKinds
import PyProof.Rows.TupDisplay
import PyProof.StrOps2
import PyProof.StrBlockH
import PyProof.Rows.RuleM_int
import PyProof.FactsAll.int_6
import PyProof.AttrMissHeap
import KE.KDictOf
import KE.KRevIter
import PyProof.StationsW
import PyProof.ExcClass3
import PyProof.ExcInit
import PyProof.ExcBaseAll.ValueError
import OpenK.KOwn
import PyProof.FString
import PyProof.FitsInt
import PyProof.RulesDel
import PyProof.RulesAs
import PyProof.ExcAttrAll.ValueError
import PyProof.ReprHeads
import PyProof.StrLawsRepr
import KE.KIsAll
import PyProof.StrCalls2
import PyProof.StrLawsTight
import PyProof.StrLawsFirst
import PyProof.WalksEnum
import PyProof.EnumMake
import PyProof.DictValues
import PyProof.DictWalks
import KE.KEqDict
import PyProof.FitsBits
import KE.RegMulBits
import PySem.Challenge.RW_unfoldnet_k27_nets_that_crowd
set_option Elab.async false
set_option linter.all false
set_option maxRecDepth 100000
set_option maxHeartbeats 8000000
variable{P prog:PySem.Program}{w:PySem.World}{K:PySem.W.Frag}{mg:PySem.Str->Option PySem.Value}{base:PySem.Heap}{A:PySem.Around}{E:PySem.Value->PySem.Shared->Prop}{s:PySem.Shared}
def Em:=@PySem.wpAny_bind
def En:=@PySem.Heap.get?_push_of_some
def Eo:=@PySem.wpAny_pure
def Ep:=@Nat.le_refl
def Er:=@PySem.Heap.lt_size
def Et:=@List.length_map
def Eu:=@List.length_append
def Ew:=@PySem.Heap.get?_push_size
def Ex:=@if_neg
def Ey:=@PySem.W.mg_of
def Ez:=@Nat.ne_of_lt
def EA:=@List.getElem?_eq_getElem
def EB:=@List.mem_cons
def EC:=@List.mem_of_getElem?
def ED:=@List.size_toArray
def EE:=@Nat.lt_of_lt_of_le
def EF:=@List.getElem?_eq_some_iff
def EG:=@if_pos
def EH:=@List.mem_map
def EI:=@List.map_append
def EJ:=@Bool.false_ne_true
def EK:=@List.mem_cons_of_mem
def EL:=@List.length_take
def EM:=@decide_eq_true
def EN:=@List.take_length
def EO:=@Option.some.inj
def ER:=@List.length_cons
def ES:=@Bool.and_eq_true_iff
def ET:=@Nat.le_trans
def EU:=@PySem.Heap.get?_update_other
def EV:=@Nat.zero_le
def EW:=@PySem.Paired.length
def EX:=@List.mem_append
def EY:=@List.mem_cons_self
def EZ:=@decide_eq_false
def E1:=@PySem.sizeLine_eq
def E2:=@Ne.symm
def E3:=@PySem.sizeLine_eq
def E4:=@List.getElem?_map
def E5:=@List.getD_eq_getElem?_getD
def E6:=@PySem.F.plainAttrs_list
def E7:=@List.mem_append_right
def E8:=@PySem.Heap.get?_update_self
def E9:=@PySem.F.slot_list_append
def Fb:=@PySem.F.type_list_append
def Fc:=@List.mem_append_left
def Fd:=@PySem.W.mg_none_of
def Fe:=@Nat.lt_irrefl
def Ff:=@List.map_cons
def Fg:=@PySem.PassesOwn.never
def Fh:=@PySem.Heap.size_push
def Fi:=@List.nodup_cons
def Fj:=@PySem.wpAny_setField
def Fl:=@List.replicate_succ
def Fm:=@PySem.Heap.SameBut.update
def Fn:=@Array.getElem?_eq_some_iff
def Fo:=@List.map_map
def Fp:=@PySem.wpAny_Call_Name_kw
def Fq:=@Nat.le_succ
def Fs:=@Nat.lt_of_le_of_lt
def Ft:=@List.not_mem_nil
def Fu:=@List.length_filter_le
def Fv:=@Int.toNat_natCast
def Fw:=@List.nodup_append
def Fx:=@List.mem_filter
def Fy:=@PySem.wpAny_mono
def Fz:=@PySem.W.kia_one
def FA:=@List.filter_append
def FC:=@beq_eq_false_iff_ne
def FD:=@PySem.wpAny_truthy_bool
def FE:=@of_decide_eq_true
def FF:=@PySem.wpAny_newObj_type
def FG:=@Nat.lt_succ_of_lt
def FH:=@PySem.Heap.get?_none_of_le
def FI:=@Nat.lt_succ_self
def FJ:=@PySem.wpAny_holding
def FK:=@Nat.ne_of_gt
def FL:=@PySem.codeAny_mono
def FN:=@PySem.Heap.size_after_update
def FO:=@List.getElem?_append_left
def FQ:=@List.length_replicate
def FR:=@Array.getElem?_toList
def FT:=@List.take_append_drop
def FU:=@List.lookup_cons
def FV:=@PySem.F.called_set
def FW:=@PySem.Paired.snoc
def FX:=@PySem.Around.under_plainId
def FY:=@List.append_assoc
def FZ:=@PyProof.Rows.callWith_type1
def F0:=@Array.length_toList
def Ga:=@PySem.wpAny_setEntries_of
def Gb:=@List.all_eq_true
def Gd:=@PySem.W.callWith_K
def Ge:=@PySem.builtinLookup_eq_fast
def Gf:=@PySem.W.looks_findIn
def Gg:=@List.foldl_cons
def Gh:=@PySem.codeAny_builtin
def Gi:=@PySem.wpAny_loadPart_at
def Gj:=@PySem.mem_of_lookup
def Gk:=@PyProof.Rows.F.plain_set_update_loop
def Gm:=@List.mem_singleton
def Gn:=@PySem.Obj.data_mapFields
def Gp:=@PySem.F.attrBase_ValueError
def Gq:=@Int.emod_lt_of_pos
def Gr:=@PySem.wpAny_passesOwn
def Gs:=@Bool.eq_iff_iff
def Gu:=@List.append_nil
def Gv:=@List.find?_cons
def Gw:=@PySem.wpAny_ite_split
def Gx:=@PySem.Obj.isFreed_of_fields
def Gy:=@PySem.Calls.Name_function_global
def Gz:=@congrArg
def GA:=@PySem.plainId_quiet
def GC:=@PySem.wpAny_setState_of
def GD:=@List.drop_eq_getElem_cons
def GF:=@PySem.codeAny_call_builtin
def GJ:=@PySem.wpAny_field
def GO:=@PySem.W.any_some
def GQ:=@Bool.and_eq_true
def GV:=@List.any_eq_true
def GX:=@PySem.wpAny_askSetting
def GY:=@or_false
def GZ:=@List.filter_sublist
def Ha:=@PySem.wpAny_getItem_str_slice
def Hb:=@List.any_cons
def Hc:=@beq_iff_eq
def Hd:=@PySem.wpAny_call
def He:=@PySem.typeLookup_type
def Hf:=@Int.emod_nonneg
def Hg:=@List.getElem?_set_self
def Hh:=@PySem.Calls.callWith_builtin
def Hi:=@Option.map_eq_some_iff
def Hj:=@PySem.wpAny_pyIter_list
def Hk:=@List.flatten_cons
def Hl:=@List.foldl_append
def Hm:=@Nat.le_of_lt
def Hn:=@PySem.wpAny_fieldsOf
def Ho:=@List.getElem?_eq_none
def Hq:=@Nat.testBit_two_pow_mul_add
def Hr:=@List.getElem?_set_ne
def Hs:=@PySem.wpAny_call_entry
def Ht:=@List.filter_cons
def Hu:=@Nat.pow_le_pow_right
def Hv:=@decide_eq_decide
def Hw:=@List.mem_of_mem_take
def Hx:=@PySem.wpAny_standAt
def Hy:=@List.getElem?_append_right
def Hz:=@List.all_cons
def HA:=@PySem.strLen_append
def HB:=@List.filterMap_cons
def HC:=@PySem.wpAny_isSubtype_exc
def HD:=@PySem.F.plain_extend_loop
def HE:=@Int.natCast_nonneg
def HF:=@PySem.Calls.spliced_cons
def HG:=@List.getElem?_take_of_lt
def HH:=@Bool.false_eq_true
def HI:=@PySem.wpAny_typeOf
def HJ:=@PyProof.Rows.F.entry_set_update_loop
def HK:=@PySem.F.slot_list_getattribute
def HL:=@List.find?_eq_none
def HM:=@PySem.Calls.loadGlobal_global
def HN:=@Option.bind_eq_some_iff
def HP:=@List.take_sublist
def HQ:=@PySem.fits_of_scanBound
def HR:=@decide_eq_true_eq
def HS:=@Sum.inr.inj
def HU:=@List.drop_of_length_le
def HV:=@List.filter_eq_nil_iff
def HW:=@List.take_of_length_le
def HX:=@Bool.true_and
def HY:=@List.length_filter_eq_length_iff
def HZ:=@PySem.W.methodCall_KW
def Ia:=@List.length_singleton
def Ib:=@PySem.plainObj_wpAny_Assign_Attribute
def Ic:=@Array.getElem?_setIfInBounds_ne
def Ie:=@PySem.wpAny_execs_nil
def Ig:=@PySem.Calls.evalArgs_plain
def Ih:=@PySem.wpAny_specialOf
def Ii:=@PySem.wpAny_newFunctionEnv
def Ij:=@List.all_map
def Ik:=@List.any_map
def Il:=@PySem.post_val_or_str
def Im:=@Nat.eq_of_testBit_eq
def Io:=@List.eq_nil_of_length_eq_zero
def Ip:=@PySem.W.plainGet_of
def Iq:=@PySem.W.looks_clsIn
def Ir:=@List.map_congr_left
def Iu:=@PySem.W.looks_mroIn
def Iv:=@List.mem_range
def Iw:=@if_true
def Iy:=@PySem.isSubtype_type
def Iz:=@List.drop_zero
def IA:=@PySem.tupleKind_room_in1
def IB:=@List.getElem?_drop
def IC:=@PySem.Code.quiet_builtin
def ID:=@List.contains_cons
def IE:=@PySem.W.check_slot
def IF:=@Int.fdiv_eq_ediv_of_nonneg
def IG:=@List.perm_ext_iff_of_nodup
def IH:=@PySem.F.excBase_ValueError
def II:=@PySem.Calls.spliced_nil
def IJ:=@List.reverse_cons
def IK:=@PySem.wpAny_Name
def IL:=@PySem.call_meets
def IM:=@List.pairwise_iff_getElem
def IP:=@List.mem_of_find?_eq_some
def IQ:=@List.length_drop
def IS:=@if_false
def IT:=@beq_self_eq_true
def IU:=@PySem.wpAny_comprehension_free
def IV:=@List.getElem_mem
def IW:=@PySem.wpAny_isInstance
def IX:=@Bool.or_true
def IY:=@PySem.Txt.slice_le
def IZ:=@List.mem_flatMap
def Ja:=@PySem.F.slot_dict_values
def Jb:=@List.getElem?_replicate
def Jc:=@PySem.wpAny_Call_method0_late
def Jd:=@PySem.wpAny_callSpecial?_slot
def Je:=@PySem.F.plain_list_iadd
def Jf:=@List.length_eq_zero_iff
def Jg:=@Int.eq_ofNat_of_zero_le
def Jh:=@List.of_mem_zip
def Ji:=@List.length_set
def Jj:=@List.length_nil
def Jk:=@PySem.wpAny_updateSeq
def Jl:=@PySem.codeAny_of_tree
def Jm:=@Nat.two_pow_pos
def Jn:=@PySem.W.cellsFrom_some
def Jo:=@List.range_succ_eq_map
def Jp:=@List.length_eq_one_iff
def Jq:=@PySem.wpAny_loadPart
def Jr:=@PySem.wpAny_seqItems
def Js:=@PySem.F.slot_set_iter
def Jt:=@PySem.F.plain_set_new
def Ju:=@List.mem_iff_getElem?
def Jv:=@List.lookup_cons_self
def Jw:=@PySem.F.entry_bexc_ga
def Jx:=@PySem.wpAny_rule
def Jy:=@List.length_eraseIdx
def Jz:=@PySem.W.handedOut_of
def JA:=@PySem.F.args_bexc_ga
def JC:=@Bool.or_false
def JD:=@List.cons.inj
def JE:=@PySem.W.findObj_own
def JF:=@PySem.evalArgs_none
def JG:=@Option.bind_eq_bind
def JH:=@Nat.testBit_two_pow
def JJ:=@List.flatMap_append
def JK:=@List.length_reverse
def JL:=@PySem.W.codeHd_of_K
def JM:=@Array.toList_append
def JN:=@List.length_pos_iff
def JO:=@Nat.le_of_eq
def JP:=@Nat.add_zero
def JQ:=@Nat.zero_add
def JR:=@not_or
def JS:=@List.length_range
def JT:=@List.map_id
section
namespace L2
open PySem PySem.Spec PyProof.Rows
abbrev Key:=Sum Int Str
def iV:Key->Value->Bool
 |.inl k,v=>Value.isInt k v
 |.inr x,v=>Value.isStrOf x v
def Dq(w:World):Key->Int
 |.inl k=>hashInt k
 |.inr x=>hashStr w x
def bx:∀{k:Key} {v:Value},iV k v=true->(∃i t,k=Sum.inl i/\v=Value.int i t)\/(∃x t,k=Sum.inr x/\v=Value.str x t)
 |.inl i,v,h=>by
  obtain⟨t,e⟩:=Value.isInt_shape (k:=i) (v:=v) h
  exact .inl ⟨i,t,rfl,e⟩
 |.inr x,v,h=>by
  obtain⟨t,e⟩:=Value.isStrOf_shape (x:=x) (v:=v) h
  exact .inr ⟨x,t,rfl,e⟩
def sC(i:Int)(t:Tok):iV (.inl i) (.int i t)=true:=by simp[iV,Value.isInt]
def sL(x:Str)(t:Tok):iV (.inr x) (.str x t)=true:=by simp[iV,Value.isStrOf]
def Al(a b:Int):decide ((Sum.inl a:Key)=Sum.inl b)=(a==b):=by
 by_cases e:a=b
 ·subst e;simp
 ·have h:¬(Sum.inl a:Key)=Sum.inl b:=λq=>e (Sum.inl.inj q)
  rw[EZ h]
  exact(FC.mpr e).symm
def Ar(a b:Str):decide ((Sum.inr a:Key)=Sum.inr b)=decide (a=b):=by
 by_cases e:a=b
 ·subst e;simp
 ·have h:¬(Sum.inr a:Key)=Sum.inr b:=λq=>e (HS q)
  rw[EZ h,EZ e]
def AQ(a:Int)(b:Str):decide ((Sum.inl a:Key)=Sum.inr b)=false:=EZ (λq=>nomatch q)
def Ai(a:Str)(b:Int):decide ((Sum.inr a:Key)=Sum.inl b)=false:=EZ (λq=>nomatch q)
def aU(prog:Program)(w:World):PySem.KeyKind prog w Key where
 is:=iV
 hash:=Dq w
 inj:=λv a b ha hb=>by
  rcases bx ha with⟨i,t,rfl,rfl⟩|⟨x,t,rfl,rfl⟩
  ·rcases bx hb with⟨j,u,rfl,e⟩|⟨y,u,rfl,e⟩
   ·injection e with e1 _;rw[e1]
   ·exact nomatch e
  ·rcases bx hb with⟨j,u,rfl,e⟩|⟨y,u,rfl,e⟩
   ·exact nomatch e
   ·injection e with e1 _;rw[e1]
 byValue:=λk v h=>by
  rcases bx h with⟨i,t,rfl,rfl⟩|⟨x,t,rfl,rfl⟩ <;> rfl
 pyHash:=λhv h=>by
  rcases bx hv with⟨i,t,rfl,rfl⟩|⟨x,t,rfl,rfl⟩
  ·exact wpAny_pyHash_int h
  ·exact wpAny_pyHash_str h
 eqBool:=λhu hv h=>by
  rcases bx hu with⟨i,t,rfl,rfl⟩|⟨x,t,rfl,rfl⟩
  ·rcases bx hv with⟨j,u,rfl,rfl⟩|⟨y,u,rfl,rfl⟩
   ·rw[Al]at h;exact wpAny_eqBool_int h
   ·rw[AQ]at h;exact SeqAt.EqAt.int_str i t y u _ _ _ _ h
  ·rcases bx hv with⟨j,u,rfl,rfl⟩|⟨y,u,rfl,rfl⟩
   ·rw[Ai]at h;exact SeqAt.EqAt.str_int x t j u _ _ _ _ h
   ·rw[Ar]at h;exact wpAny_eqBool_str h
 «strs»:=λk x t v h=>by
  rcases bx h with⟨i,u,rfl,e⟩|⟨y,u,rfl,e⟩
  ·exact nomatch e
  ·injection e with e1 _
   subst e1
   cases v <;> rfl
def qu(prog:Program)(w:World)(k:Key)(v:Value):(aU prog w).is k v=iV k v:=rfl
def pD(prog:Program)(w:World)(i:Int)(t:Tok):(aU prog w).is (.inl i) (.int i t)=true:=sC i t
def oq(prog:Program)(w:World)(x:Str)(t:Tok):(aU prog w).is (.inr x) (.str x t)=true:=sL x t
end L2
namespace L2
open PySem PySem.Spec PyProof.Rows
inductive V where
 |non|bl (b:Bool)|int (i:Int)|str (x:Str)|byt (b:Array UInt8)|flt (b:UInt64)|ref (a:Addr)|ty (n:String)
 deriving DecidableEq
def RelV:V->Value->Prop
 |.non,u=>u=Value.none
 |.bl b,u=>u=Value.bool b
 |.int i,u=>∃t,u=Value.int i t
 |.str x,u=>∃t,u=Value.str x t
 |.byt b,u=>∃t,u=Value.bytes b t
 |.flt b,u=>∃t,u=Value.float b t
 |.ref a,u=>u=Value.ref a
 |.ty n,u=>u=Value.type n
abbrev Vals:List V->List Value->Prop:=Paired RelV
theorem Vals.length{xs:List V}{us:List Value}(r:Vals xs us):xs.length=us.length:=EW r
theorem Vals.get:∀{xs:List V} {us:List Value} {i:Nat} {x:V},Vals xs us->xs[i]?=some x->∃u,us[i]?=some u/\RelV x u
 |_,_,_,_,.nil,e=>by simp at e
 |_,_,0,_,.cons r _,e=>by simp at e;subst e;exact⟨_,rfl,r⟩
 |_,_,i+1,x,.cons _ t,e=>by
  obtain⟨u,h1,h2⟩:=Vals.get (i:=i) (x:=x) t (by simpa using e)
  exact⟨u,by simpa using h1,h2⟩
theorem Vals.set{x:V}{u:Value}(r:RelV x u):∀{xs:List V} {us:List Value} (i:Nat),Vals xs us->Vals (xs.set i x) (us.set i u)
 |_,_,_,.nil=>.nil
 |_,_,0,.cons _ t=>.cons r t
 |_,_,i+1,.cons q t=>.cons q (Vals.set r i t)
def Vals.append{xs ys:List V}{us ws:List Value}(h:Vals xs us)(s:Vals ys ws):Vals (xs++ys) (us++ws):=by
 induction h with
 |nil=>exact s
 |cons r t ih=>exact .cons r ih
theorem Vals.take:∀{xs:List V} {us:List Value} (n:Nat),Vals xs us->Vals (xs.take n) (us.take n)
 |_,_,0,_=>.nil
 |_,_,_+1,.nil=>.nil
 |_,_,n+1,.cons r t=>.cons r (Vals.take n t)
theorem Vals.drop:∀{xs:List V} {us:List Value} (n:Nat),Vals xs us->Vals (xs.drop n) (us.drop n)
 |_,_,0,r=>r
 |_,_,_+1,.nil=>.nil
 |_,_,n+1,.cons _ t=>Vals.drop n t
def gb:Option V->Option Value->Prop
 |some v,some u=>RelV v u
 |none,none=>True
 |_,_=>False
def KV{κ:Type}:List (κ×V)->List (κ×Value)->Prop:=Paired λ(p:κ×V) (q:κ×Value)=>p.1=q.1/\RelV p.2 q.2
def kV:Key->V
 |.inl i=>.int i
 |.inr x=>.str x
inductive HO where
 |lst (xs:List V)
 |tup (xs:List V)
 |dK (kvs:List (Key×V))|dT (kvs:List (List Key×V))
 |set (S:Int->Bool) (n:Nat)
 |ins (C dx:Addr) (fs:List (Str×V))
 |own (x:Addr)
 |xd (fs:List (Str×V))
 |met (f x:Addr)
 |rng (lo hi:Int)
 |frz (o:Obj) (u:HO)
 |tbl (ps:Array Value)
 |ext (φ:Heap->Prop)
abbrev Hp:=Addr->Option HO
def upd(H:Hp)(a:Addr)(o:HO):Hp:=λb=>if b=a then some o else H b
def ae{H:Hp}{a:Addr}{o:HO}:upd H a o a=some o:=by unfold upd;rw[if_pos rfl]
def af{H:Hp}{a b:Addr}{o:HO}(h:b≠a):upd H a o b=H b:=by unfold upd;rw[if_neg h]
def x9{H:Hp}{a:Addr}{o u:HO}:upd (upd H a o) a u=upd H a u:=by
 funext b;unfold upd;split <;> rfl
def aJ{H:Hp}{a b:Addr}{o u:HO}(h:H a=some o)(h':H b=some u)(d:o≠u):a≠b:=by
 intro e;subst e;rw[h]at h';exact d (EO h')
def ai{H:Hp}{a b:Addr}{o:HO}(h:H a=some o)(h':H b=none):a≠b:=by
 intro e;subst e;rw[h]at h';cases h'
def Aq(oc:Obj)(q:Str):Prop:=∃vs t,oc.data=.fields vs/\vs[1]?=some (.str q t)
def lz(pos:Pos)(q:Str):Array Value:=#[.str q pos.line,.str q pos.col]
def rj(H:Hp)(h:Heap)(a:Addr)(ps:Array Value):Prop:=∃(pos:Pos) (q:Str) (qs:Array Value),ps=lz pos q/\h.get? a=some { cls:=.none,data:=.fields qs }/\TriplesOk qs.toList /\
 (codeAmong pos qs.toList=none\/∃c oc,codeAmong pos qs.toList=some (.ref c)/\H c=some (.frz oc (.own c))/\Aq oc q)
section
variable (P:Program)(w:World)
def bc(H:Hp)(h:Heap)(a:Addr):HO->Prop
 |.lst xs=>xs.length<=sizeLine/\∃(its:List Value) (n:Nat),Vals xs its/\h.get? a=some { cls:=.type "list",data:=.seq its.toArray n }
 |.tup xs=>xs.length<=sizeLine/\∃its:List Value,Vals xs its/\IsTup h a its.toArray
 |.dK kvs=>kvs.length<=sizeLine/\(a==sysModules)=false/\∃vs,KV kvs vs/\h.DictOf (aU P w) a vs
 |.dT kvs=>kvs.length<=sizeLine/\(a==sysModules)=false/\∃xs:List (List Key×Addr×Value),
   Paired (λ(p:List Key×V) (q:List Key×Addr×Value)=>p.1=q.1/\H q.2.1=some (.tup (p.1.map kV))/\RelV p.2 q.2.2) kvs xs /\
   ∃o es ep,h.get? a=some o/\o.ExactDict/\o.data=.dict es ep/\es.toList=xs.map (entryOfKey (tupleKind (aU P w)))/\(xs.map (·.1)).Nodup
 |.set S n=>h.SetOf (intKind P w) a S n
 |.ins C dx fs=>H dx=some (.own a)/\fs.length<=1000/\dx≠a/\h.get? a=some (PySem.W.instObj C dx) /\
   ∃mA,h.Ns1 dx mA/\(∀f,gb (fs.lookup f) (mA f))/\PySem.Within mA (fs.map (·.1))
 |.own _=>∃o,h.get? a=some o
 |.xd fs=>∃mA,h.Ns1 a mA/\∀f,gb (fs.lookup f) (mA f)
 |.rng lo hi=>∃t u v,h.get? a=some { cls:=.type "range",data:=.fields #[.int lo t,.int hi u,.int 1 v] }
 |.frz o u=>h.get? a=some o/\bc H h a u
 |.tbl ps=>rj H h a ps
 |.met f x=>h.get? a=some (PySem.W.methodObj (.ref f) (.ref x))
 |.ext φ=>φ h/\(∃o,h.get? a=some o)/\∀h1 h2:Heap,φ h1->(∀o,h1.get? a=some o->h2.get? a=some o)->φ h2
def gF(H:Hp)(h:Heap):Prop:=∀a o,H a=some o->bc P w H h a o
end
section
variable {P:Program}{w:World}{H H':Hp}{h h':Heap}{a:Addr}{o:HO}
theorem bc.lt(x:bc P w H h a o):a<h.objs.size:=by
 cases o with
 |lst xs=>obtain⟨_,_,_,_,e⟩:=x;exact Er e
 |tup xs=>obtain⟨_,_,_,p⟩:=x;exact p.lt
 |dK kvs=>obtain⟨_,_,_,_,o,_,_,e,_⟩:=x;exact Er e
 |dT kvs=>obtain⟨_,_,_,_,o,_,_,e,_⟩:=x;exact Er e
 |set S n=>obtain⟨o,_,_,_,e,_⟩:=x;exact Er e
 |ins C dx fs=>obtain⟨_,_,_,e,_⟩:=x;exact Er e
 |own y=>obtain⟨_,e⟩:=x;exact Er e
 |xd fs=>obtain⟨_,⟨_,_,_,e,_⟩,_⟩:=x;exact Er e
 |rng lo hi=>obtain⟨_,_,_,e⟩:=x;exact Er e
 |frz ob u=>obtain⟨e,_⟩:=x;exact Er e
 |tbl ps=>obtain⟨_,_,_,_,e,_⟩:=x;exact Er e
 |met f y=>exact Er (show h.get? a=some _ from x)
 |ext φ=>obtain⟨_,⟨_,e⟩,_⟩:=x;exact Er e
def Paired.dy{α β:Type}{F G:α->β->Prop}{l₁:List α}{l₂:List β}(h:Paired F l₁ l₂)(f:∀a b,F a b->G a b):Paired G l₁ l₂:=by
 induction h with
 |nil=>exact .nil
 |cons r t ih=>exact .cons (f _ _ r) ih
def bc.ib(x:bc P w H h a o)(k:∀b u,(b=a\/H b=some (.own a))->h.get? b=some u->h'.get? b=some u)
  (ho:∀b,H b=some (.own a)->H' b=some (.own a)) (ht:∀b xs,H b=some (.tup xs)->H' b=some (.tup xs))
  (hf:∀b o u,H b=some (.frz o u)->(∃vs,o.data=.fields vs)->H' b=some (.frz o u):=by exactλ_ _ _ q _=>q):bc P w H' h' a o:=by
 induction o with
 |lst xs=>obtain⟨z,its,n,r,e⟩:=x;exact⟨z,its,n,r,k _ _ (.inl rfl) e⟩
 |tup xs=>obtain⟨z,its,r,ob,e,c⟩:=x;exact⟨z,its,r,ob,k _ _ (.inl rfl) e,c⟩
 |dK kvs=>obtain⟨z,y,vs,r,ob,es,ep,e,c⟩:=x;exact⟨z,y,vs,r,ob,es,ep,k _ _ (.inl rfl) e,c⟩
 |dT kvs =>
  obtain⟨z,y,xs,r,ob,es,ep,e,c⟩:=x
  exact⟨z,y,xs,Paired.dy r λp q z=>⟨z.1,ht _ _ z.2.1,z.2.2⟩,ob,es,ep,k _ _ (.inl rfl) e,c⟩
 |set S n=>obtain⟨ob,es,ep,t,e,c⟩:=x;exact⟨ob,es,ep,t,k _ _ (.inl rfl) e,c⟩
 |ins C dx fs =>
  obtain⟨d,z,ne,e,mA,⟨od,es,ep,e2,c⟩,r⟩:=x
  exact⟨ho _ d,z,ne,k _ _ (.inl rfl) e,mA,⟨od,es,ep,k _ _ (.inr d) e2,c⟩,r⟩
 |own y=>obtain⟨ob,e⟩:=x;exact⟨ob,k _ _ (.inl rfl) e⟩
 |xd fs=>obtain⟨mA,⟨od,es,ep,e,c⟩,r⟩:=x;exact⟨mA,⟨od,es,ep,k _ _ (.inl rfl) e,c⟩,r⟩
 |rng lo hi=>obtain⟨t,u,v,e⟩:=x;exact⟨t,u,v,k _ _ (.inl rfl) e⟩
 |frz ob u ih=>obtain⟨e,q⟩:=x;exact⟨k _ _ (.inl rfl) e,ih q⟩
 |tbl ps =>
  obtain⟨pos,q,qs,e1,e2,e3,e4⟩:=x
  exact⟨pos,q,qs,e1,k a _ (.inl rfl) e2,e3,e4.imp id λ⟨c,oc,a1,a2,a3⟩=>⟨c,oc,a1,hf _ _ _ a2 (let ⟨vs,_,d,_⟩:=a3;⟨vs,d⟩),a3⟩⟩
 |met f y =>
  have e:h.get? a=some (PySem.W.methodObj (.ref f) (.ref y)):=x
  show h'.get? a=some (PySem.W.methodObj (.ref f) (.ref y))
  exact k a _ (.inl rfl) e
 |ext φ=>obtain⟨p,⟨o,e⟩,st⟩:=x;exact⟨st _ _ p λo q=>k _ _ (.inl rfl) q,⟨o,k _ _ (.inl rfl) e⟩,st⟩
theorem gF.lt(x:gF P w H h)(e:H a=some o):a<h.objs.size:=(x a o e).lt
def gF.fresh(x:gF P w H h)(e:h.objs.size<=a):H a=none:=by
 cases q:H a with
 |none=>rfl
 |some u=>exact absurd (EE (x.lt q) e) (Fe _)
def gF.kept(x:gF P w H h)(k:∀b u,h.get? b=some u->h'.get? b=some u):gF P w H h':=λa o e =>
 (x a o e).ib (λb u _ q=>k b u q) (λ_ q=>q) λ_ _ q=>q
def gF.laid(x:gF P w H h)(k:∀b u,h.get? b=some u->h'.get? b=some u)(hp:h.objs.size<=a)(new:bc P w (upd H a o) h' a o):gF P w (upd H a o) h':=λb u e=>by
 have hn:=x.fresh hp
 by_cases hb:b=a
 ·subst hb;rw[ae]at e;cases e;exact new
 ·rw[af hb]at e
  exact(x b u e).ib (λc v _ q=>k c v q) (λc q=>by rw[af (ai q hn)];exact q) (λc xs q=>by rw[af (ai q hn)];exact q) λc _ _ q _=>by rw[af (ai q hn)];exact q
end
def Rd(H:Hp)(a:Addr)(u:HO):Prop:=H a=some u\/∃o,H a=some (.frz o u)
def Rd.ok{P:Program}{w:World}{H:Hp}{h:Heap}{a:Addr}{u:HO}(r:Rd H a u)(x:gF P w H h):bc P w H h a u:=by
 rcases r with r|⟨o,r⟩
 ·exact x a u r
 ·obtain⟨_,q⟩:=x a _ r
  exact q
def Br:Option HO->Prop
 |some (.lst _)=>True
 |some (.dK _)=>True
 |some (.dT _)=>True
 |some (.set _ _)=>True
 |some (.ins _ _ _)=>True
 |some (.ext _)=>True
 |_=>False
section
variable {P:Program}{w:World}{H:Hp}{h h':Heap}{x e:Addr}{o':HO}
def gF.write(ok:gF P w H h)(mu:Br (H x))(he:e=x\/H e=some (.own x))(k:∀b u,b≠e->h.get? b=some u->h'.get? b=some u)(heo:∃u,h'.get? e=some u)
  (new:bc P w (upd H x o') h' x o'):gF P w (upd H x o') h':=λb u q=>by
 have nown:∀c y,H c=some (.own y)->c≠x:=λc y r z=>by subst z;rw[r]at mu;exact mu
 have ntup:∀c xs,H c=some (.tup xs)->c≠x:=λc xs r z=>by subst z;rw[r]at mu;exact mu
 by_cases hb:b=x
 ·subst hb;rw[ae]at q;cases q;exact new
 ·rw[af hb]at q
  by_cases hbe:b=e
  ·have q':H b=some (.own x):=by
    rcases he with z|z
    ·exact absurd (hbe.trans z) hb
    ·rw[hbe];exact z
   rw[q]at q';cases q'
   obtain⟨v,hv⟩:=heo
   exact⟨v,by rw[hbe];exact hv⟩
  ·refine(ok b u q).ib (λc v hc r=>k c v ?_ r) (λc r=>by rw[af (nown c b r)];exact r) (λc xs r=>by rw[af (ntup c xs r)];exact r) λc oo uu r _=>by rw[af (λz=>by subst z;rw[r]at mu;exact mu)];exact r
   rcases hc with rfl|hc
   ·exact hbe
   ·rintro rfl
    rcases he with z|z
    ·exact nown c b hc z
    ·rw[hc]at z;cases z;exact hb rfl
end
structure Un(fs ex:List Addr)(H H':Hp)(h h':Heap):Prop where
 keep:∀b o,h.get? b=some o->H b=none->b∉fs->b∉ex->h'.get? b=some o
 slot:∀b o,h.get? b=some o->H b=none->b∈fs->b∉ex->∃sl,h'.get? b=some { o with slots:=sl }
 free:∀b o,h.get? b=some o->H b=none->b∉ex->H' b=none
 there:∀b o,h.get? b=some o->b∉ex->∃o',h'.get? b=some o'
 bQ:∀b xs,H b=some (.tup xs)->H' b=some (.tup xs)
 frzs:∀b o u,H b=some (.frz o u)->H' b=some (.frz o u)
 tbls:∀b ps,H b=some (.tbl ps)->∃more,H' b=some (.tbl (ps++more))
section
variable {fs fs' ex ex':List Addr}{H H1 H2:Hp}{h h1 h2 h':Heap}{a x e:Addr}{o:HO}
def Un.any(u:Un fs ex H H1 h h1){b:Addr}{ob:Obj}(q:h.get? b=some ob)(n:H b=none)(hx:b∉ex):∃sl,h1.get? b=some { ob with slots:=sl }:=by
 by_cases hb:b∈fs
 ·exact u.slot b ob q n hb hx
 ·exact⟨ob.slots,u.keep b ob q n hb hx⟩
def Un.kept(k:∀b u,h.get? b=some u->h'.get? b=some u):Un fs ex H H h h' :=
 ⟨λb ob q _ _ _=>k b ob q,λb ob q _ _ _=>⟨ob.slots,k b ob q⟩,λ_ _ _ n _=>n,λb ob q _=>⟨ob,k b ob q⟩,λ_ _ q=>q,λ_ _ _ q=>q,λ_ ps q=>⟨#[],by rw[q];simp⟩⟩
def Un.refl:Un fs ex H H h h:=Un.kept λ_ _ q=>q
def Un.laid(k:∀b u,h.get? b=some u->h'.get? b=some u)(hp:h.objs.size<=a)(hn:H a=none):Un fs ex H (upd H a o) h h' where
 keep:=λb u q _ _ _=>k b u q
 slot:=λb u q _ _ _=>⟨u.slots,k b u q⟩
 free:=λb u q n _=>by rw[af (Ez (EE (Er q) hp))];exact n
 there:=λb u q _=>⟨u,k b u q⟩
 bQ:=λb xs q=>by rw[af (ai q hn)];exact q
 frzs:=λb u xs q=>by rw[af (ai q hn)];exact q
 tbls:=λb ps q=>⟨#[],by rw[af (ai q hn),q];simp⟩
def Un.write(mu:Br (H x))(he:e=x\/H e=some (.own x))(k:∀b u,b≠e->h.get? b=some u->h'.get? b=some u)(heo:∃u,h'.get? e=some u):Un fs ex H (upd H x o) h h':=by
 have hx:∀b,H b=none->b≠x:=λb n z=>by subst z;rw[n]at mu;exact mu
 have hb:∀b,H b=none->b≠e:=λb n z=>by
  subst z
  rcases he with r|r
  ·exact hx b n r
  ·rw[n]at r;cases r
 have hm:∀b u,H b=some u->¬Br (some u)->b≠x:=λb u q nm z=>by subst z;rw[q]at mu;exact nm mu
 refine⟨λb u q n _ _=>k b u (hb b n) q,λb u q n _ _=>⟨u.slots,k b u (hb b n) q⟩,λb u q n _=>by rw[af (hx b n)];exact n,λb u q _=>?_,
  λb xs q=>by rw[af (hm b _ q λz=>z)];exact q,λb u xs q=>by rw[af (hm b _ q λz=>z)];exact q,λb ps q=>⟨#[],by rw[af (hm b _ q λz=>z),q];simp⟩⟩
 by_cases hbe:b=e
 ·subst hbe;exact heo
 ·exact⟨u,k b u hbe q⟩
end
def Cd(h:Heap)(H:Hp):List Addr:=(List.range h.objs.size).filter λa=>(H a).isSome
def lH(h:Heap)(H:Hp):Heap:=PySem.W.hideAll h (Cd h H)
def uh(h:Heap)(H:Hp):(lH h H).objs.size=h.objs.size:=PySem.W.hideAll_size _ _
def wg{h:Heap}{H:Hp}{b:Addr}{o:Obj}(e:h.get? b=some o)(n:H b=none):(lH h H).get? b=some o :=
 PySem.W.hideAll_get _ e λhm=>by
  have q:(H b).isSome=true:=(Fx.mp hm).2
  rw[n]at q;simp at q
def yj{h:Heap}{H:Hp}{b:Addr}{o:Obj}(e:(lH h H).get? b=some o):h.get? b=some o/\H b=none:=by
 have e':h.get? b=some o:=PySem.W.of_hideAll (Cd h H) e
 refine⟨e',?_⟩
 cases q:H b with
 |none=>rfl
 |some x =>
  have hm:b∈Cd h H:=Fx.mpr ⟨Iv.mpr (Er e'),by simp[q]⟩
  have z:(lH h H).get? b=none:=PySem.W.hideAll_none (Cd h H) hm
  rw[z]at e;cases e
end L2
namespace L2
open PySem PySem.Spec PyProof.Rows
structure Mod(K:PySem.W.Frag)(mg:Str->Option Value)(base:Heap):Prop where
 kin:K.In base
 glob:base.Ns mainGlobals mg
 blt:∃mb,base.Ns builtinsNs mb/\∀x:Str,x≠"__name__"->mb x=bootBuiltins x
 nolimit:base.NoLimit
structure Cx where
 prog:Program
 w:World
 K:PySem.W.Frag
 mg:Str->Option Value
 base:Heap
 A:Around
 N:List Str
 s₀:Shared
 H₀:Hp
 env:Env
 outer:List Env
 stack:List Env
 ex:List Addr
 fn:Str->Bool
 calm:Bool
 pn:List (Addr×Obj)
 xe:Value->Shared->Prop
def fJ(l:List Env):List Addr:=l.filterMap (·.frame)
abbrev Cx.fs(X:Cx):List Addr:=fJ X.outer
def Bh(sc:Scope)(x:Str):Prop:=sc.names.lookup x=some .local\/sc.names.lookup x=some .cell\/sc.names.lookup x=some .free
def Loc(sc:Scope)(x:Str):Prop:=sc.names.lookup x=some .local\/sc.names.lookup x=some .cell
def Look(env:Env)(h:Heap)(m:Str->Option Value)(x:Str)(u:Value):Prop :=
 (env.kindOf x=some .local/\m x=some u)\/((env.kindOf x=some .cell\/env.kindOf x=some .free)/\∃c,env.cells.lookup x=some c/\h.IsCell c (some u))
structure Cx.Ok(X:Cx):Prop where
 mod:Mod X.K X.mg X.base
 kind:X.env.scope.kind=.function
 glob:X.env.globals=mainGlobals
 blt:X.env.builtins=builtinsNs
 above:X.s₀.heap.objs.size<=X.env.locals
 inj:∀x y c,X.env.cells.lookup x=some c->X.env.cells.lookup y=some c->x=y
 has:∀x,(X.env.kindOf x=some .cell\/X.env.kindOf x=some .free)->∃c,X.env.cells.lookup x=some c
 cab:∀x c,X.fn x=true->X.env.cells.lookup x=some c->X.s₀.heap.objs.size<=c
 hd:X.calm=true->X.A.handled=none
 frames:X.A.frames=some X.stack
 stk:X.stack=X.outer\/(X.stack=X.env::X.outer/\X.env.frame=some X.env.locals)
 exf:∀b∈X.ex,b≠X.env.locals/\∀x c,X.env.cells.lookup x=some c->c≠b
 bs:∀b o,X.base.get? b=some o->X.s₀.heap.get? b=some o/\X.H₀ b=none
 bsz:X.base.objs.size<=X.s₀.heap.objs.size
 noex:∀b o,X.base.get? b=some o->b∉X.ex
 exfs:∀b∈X.ex,b∉X.fs
 fG:X.s₀.heap.FunFrames X.base X.outer
 frf:∀b∈X.fs,X.H₀ b=none
structure Inv(X:Cx)(pins:List (Addr×Obj))(σ:List (Option V))(H:Hp)(s:Shared):Prop where
 ok:X.Ok
 os:s.os=X.s₀.os
 bare:AllBare s.gens
 base:Un X.fs X.ex X.H₀ H X.s₀.heap s.heap
 loc:∃m,s.heap.Ns X.env.locals m/\∀(i:Nat) (x:Str) (v:V),X.N[i]?=some x->σ[i]?=some (some v)->Bh X.env.scope x->∃u,RelV v u/\Look X.env s.heap m x u
 cell:∀x c,X.env.cells.lookup x=some c->∃v,s.heap.IsCell c v
 free:H X.env.locals=none
 freeC:∀x c,X.env.cells.lookup x=some c->H c=none
 pin:∀p∈X.pn++pins,s.heap.get? p.1=some p.2/\H p.1=none/\p.1≠X.env.locals/\p.1∉X.fs/\∀v,p.2.data≠.cell v
 hok:gF X.prog X.w H s.heap
 len:σ.length=X.N.length
section
variable {X:Cx}{pins:List (Addr×Obj)}{σ:List (Option V)}{H H':Hp}{s:Shared}{h':Heap}
def Cx.Ok.DX(ok:X.Ok){b:Addr}{o:Obj}(e:X.base.get? b=some o):b∉X.fs:=λhb=>by
 have:=(ok.fG.mem hb).1
 rw[e]at this;cases this
theorem Inv.bs(I:Inv X pins σ H s):∀b o,X.base.get? b=some o->s.heap.get? b=some o/\H b=none:=λb o e =>
 ⟨I.base.keep b o (I.ok.bs b o e).1 (I.ok.bs b o e).2 (I.ok.DX e) (I.ok.noex b o e),I.base.free b o (I.ok.bs b o e).1 (I.ok.bs b o e).2 (I.ok.noex b o e)⟩
def Inv.bk(I:Inv X pins σ H s):∀b o,X.base.get? b=some o->s.heap.get? b=some o:=λb o e=>(I.bs b o e).1
theorem Inv.mod(I:Inv X pins σ H s):Mod X.K X.mg X.base:=I.ok.mod
def Inv.eD(I:Inv X pins σ H s):X.K.In s.heap:=I.ok.mod.kin.keeps I.bk
theorem Inv.lt(I:Inv X pins σ H s):X.env.locals<s.heap.objs.size:=let ⟨_,hn,_⟩:=I.loc;hn.lt
def Inv.sz(I:Inv X pins σ H s):X.s₀.heap.objs.size<=s.heap.objs.size:=ET I.ok.above (Hm I.lt)
def Inv.Ei(I:Inv X pins σ H s){a:Addr}(h:s.heap.objs.size<=a):a∉X.fs:=λhb=>by
 obtain⟨_,o,ho,_⟩:=I.ok.fG.mem hb
 exact absurd (EE (Er ho) (ET I.sz h)) (Fe _)
def Inv.uw(I:Inv X pins σ H s):∀x c,X.env.cells.lookup x=some c->c≠X.env.locals:=λx c e z=>by
 obtain⟨v,o,ho,hd⟩:=I.cell x c e
 obtain⟨m,⟨o',es,ep,ho',hd',_⟩,_⟩:=I.loc
 rw[z,ho']at ho;cases ho;rw[hd']at hd;cases hd
theorem Inv.fG(I:Inv X pins σ H s):s.heap.FunFrames X.base X.outer:=by
 have all:∀(l:List Env),(∀b∈fJ l,b∈X.fs)->X.s₀.heap.FunFrames X.base l->s.heap.FunFrames X.base l:=by
  intro l
  induction l with
  |nil=>intro _ _;trivial
  |cons env r ih =>
   intro hs hl
   obtain⟨hk,⟨L,o,hf,hn,ho,hd⟩,hr⟩:=hl
   have hL:L∈X.fs:=hs L (by unfold fJ;rw[List.filterMap_cons,hf];exact List.mem_cons_self)
   obtain⟨sl,e⟩:=I.base.slot L o ho (I.ok.frf L hL) hL λz=>I.ok.exfs L z hL
   exact⟨hk,⟨L,_,hf,hn,e,hd⟩,ih (λb hb=>hs b (by unfold fJ;rw[List.filterMap_cons,hf];exact List.mem_cons_of_mem _ hb)) hr⟩
 exact all X.outer (λ_ hb=>hb) I.ok.fG
theorem Inv.stack(I:Inv X pins σ H s):s.heap.FunFrames X.base X.stack:=by
 rcases I.ok.stk with e|⟨e,hf⟩
 ·rw[e];exact I.fG
 ·rw[e]
  obtain⟨m,hn,_⟩:=I.loc
  refine .cons (by rw[I.ok.kind];decide) hf hn ?_ I.fG
  exact FH (ET I.ok.bsz I.ok.above)
def Inv.ji(I:Inv X pins σ H s):∀b∈fJ X.stack,b∈X.env.locals::X.fs:=λb hb=>by
 rcases I.ok.stk with e|⟨e,hf⟩
 ·rw[e]at hb;exact EK _ hb
 ·rw[e]at hb
  unfold fJ at hb
  rw[HB,hf]at hb
  exact hb
def Inv.jP(I:Inv X pins σ H s):∀b∈fJ X.stack,H b=none:=λb hb=>by
 rcases EB.mp (I.ji b hb) with e|hb
 ·rw[e];exact I.free
 ·obtain⟨_,o,ho,_⟩:=I.ok.fG.mem hb
  exact I.base.free b o ho (I.ok.frf b hb) λz=>I.ok.exfs b z hb
def Inv.step{g':Array GenState}{t':Nat}{d':Drawn}{ch:List Addr}(I:Inv X pins σ H s)
  (hch:∀b∈ch,(b∈X.ex\/X.s₀.heap.objs.size<=b)/\b≠X.env.locals/\(∀x c,X.env.cells.lookup x=some c->c≠b)/\∀p∈X.pn++pins,p.1≠b)
  (keep:∀b o,b≠X.env.locals->b∉X.fs->b∉ch->s.heap.get? b=some o->H b=none->h'.get? b=some o)
  (slot:∀b o,b≠X.env.locals->b∈X.fs->b∉ch->s.heap.get? b=some o->H b=none->∃sl,h'.get? b=some { o with slots:=sl }) (free:∀b o,b∉ch->s.heap.get? b=some o->H b=none->H' b=none)
  (there:∀b o,b∉ch->s.heap.get? b=some o->∃o',h'.get? b=some o')
  (bQ:∀b xs,H b=some (.tup xs)->H' b=some (.tup xs)) (frzs:∀b o u,H b=some (.frz o u)->H' b=some (.frz o u)) (tbls:∀b ps,H b=some (.tbl ps)->∃more,H' b=some (.tbl (ps++more)))
  (ns:∀m,s.heap.Ns X.env.locals m->h'.Ns X.env.locals m) (hok:gF X.prog X.w H' h') (hg:AllBare g') :
  Inv X pins σ H' { s with heap:=h',gens:=g',drawn:=d',toks:=t' }:=by
 have neL:∀b o,X.s₀.heap.get? b=some o->b≠X.env.locals:=λb o e=>Ez (EE (Er e) I.ok.above)
 have neC:∀b o,X.s₀.heap.get? b=some o->b∉X.ex->b∉ch:=λb o e hx hb=>by
  rcases(hch b hb).1 with z|z
  ·exact hx z
  ·exact absurd (EE (Er e) z) (Fe _)
 have cellK:∀x c,X.env.cells.lookup x=some c->∀v,s.heap.IsCell c v->h'.IsCell c v:=λx c e v ⟨o,ho,hd⟩=>by
  have nch:c∉ch:=λz=>(hch c z).2.2.1 x c e rfl
  by_cases hc:c∈X.fs
  ·obtain⟨sl,q⟩:=slot c o (I.uw x c e) hc nch ho (I.freeC x c e)
   exact⟨_,q,hd⟩
  ·exact⟨o,keep c o (I.uw x c e) hc nch ho (I.freeC x c e),hd⟩
 refine⟨I.ok,I.os,hg,⟨λb o e n hb hx=>?_,λb o e n hb hx=>?_,λb o e n hx=>?_,λb o e hx=>?_,λb xs e=>bQ b xs (I.base.bQ b xs e),λb o xs e=>frzs b o xs (I.base.frzs b o xs e),λb ps e=>?_⟩,?_,λx c e=>?_,?_,λx c e=>?_,λp hp=>?_,hok,I.len⟩
 ·exact keep b o (neL b o e) hb (neC b o e hx) (I.base.keep b o e n hb hx) (I.base.free b o e n hx)
 ·obtain⟨sl,e1⟩:=I.base.slot b o e n hb hx
  obtain⟨sl',e2⟩:=slot b _ (neL b o e) hb (neC b o e hx) e1 (I.base.free b o e n hx)
  exact⟨sl',e2⟩
 ·obtain⟨o',e1⟩:=I.base.there b o e hx
  exact free b o' (neC b o e hx) e1 (I.base.free b o e n hx)
 ·obtain⟨o',e1⟩:=I.base.there b o e hx
  exact there b o' (neC b o e hx) e1
 ·obtain⟨m1,e1⟩:=I.base.tbls b ps e
  obtain⟨m2,e2⟩:=tbls b _ e1
  exact⟨m1++m2,by rw[e2,Array.append_assoc]⟩
 ·obtain⟨m,hn,hl⟩:=I.loc
  refine⟨m,ns m hn,λi x v e1 e2 e3=>?_⟩
  obtain⟨u,r,l⟩:=hl i x v e1 e2 e3
  refine⟨u,r,?_⟩
  rcases l with l|⟨k,c,e,z⟩
  ·exact .inl l
  ·exact .inr ⟨k,c,e,cellK x c e _ z⟩
 ·obtain⟨v,z⟩:=I.cell x c e
  exact⟨v,cellK x c e v z⟩
 ·obtain⟨m,⟨o,_,_,ho,_⟩,_⟩:=I.loc
  exact free _ o (λz=>(hch _ z).2.1 rfl) ho I.free
 ·obtain⟨v,o,ho,hd⟩:=I.cell x c e
  exact free c o (λz=>(hch c z).2.2.1 x c e rfl) ho (I.freeC x c e)
 ·obtain⟨e,n,ne,nf,d⟩:=I.pin p hp
  have nch:p.1∉ch:=λz=>(hch p.1 z).2.2.2 p hp rfl
  exact⟨keep p.1 p.2 ne nf nch e n,free p.1 p.2 nch e n,ne,nf,d⟩
def Inv.un{t':Nat}(I:Inv X pins σ H s)(u:Un X.fs [] H H' s.heap h')(hok:gF X.prog X.w H' h'):Inv X pins σ H' { s with heap:=h',toks:=t' }:=by
 obtain⟨m,⟨o,es,ep,ho,r⟩,_⟩:=id I.loc
 obtain⟨sl,hL⟩:=u.any ho I.free (by simp)
 exact I.step (g':=s.gens) (d':=s.drawn) (ch:=[]) (λ_ z=>nomatch z) (λb o _ hb _ e n=>u.keep b o e n hb (by simp)) (λb o _ hb _ e n=>u.slot b o e n hb (by simp)) (λb o _ e n=>u.free b o e n (by simp)) (λb o _ e=>u.there b o e (by simp)) u.bQ u.frzs u.tbls (λm' hm=>by
  obtain⟨o',es',ep',ho',r'⟩:=hm
  rw[ho]at ho';cases ho'
  exact⟨_,es',ep',hL,r'⟩) hok I.bare
def Inv.call{g':Array GenState}{t':Nat}{d':Drawn}{ch:List Addr}(I:Inv X pins σ H s)(u:Un (fJ X.stack) ch H H' s.heap h')(hok:gF X.prog X.w H' h')(hg:AllBare g')
  (hch:∀b∈ch,(b∈X.ex\/X.s₀.heap.objs.size<=b)/\b≠X.env.locals/\(∀x c,X.env.cells.lookup x=some c->c≠b)/\∀p∈X.pn++pins,p.1≠b) :
  Inv X pins σ H' { s with heap:=h',gens:=g',drawn:=d',toks:=t' }:=by
 obtain⟨m,⟨o,es,ep,ho,r⟩,_⟩:=id I.loc
 obtain⟨sl,hL⟩:=u.any ho I.free λz=>(hch _ z).2.1 rfl
 exact I.step (ch:=ch) hch (λb o hL hb hc e n=>u.keep b o e n (λz=>(EB.mp (I.ji b z)).elim hL hb) hc) (λb o _ _ hc e n=>u.any e n hc) (λb o hc e n=>u.free b o e n hc) (λb o hc e=>u.there b o e hc) u.bQ u.frzs u.tbls (λm' hm=>by
  obtain⟨o',es',ep',ho',r'⟩:=hm
  rw[ho]at ho';cases ho'
  exact⟨_,es',ep',hL,r'⟩) hok hg
def Inv.turned{t':Nat}{it:Addr}(I:Inv X pins σ H s)(k:∀b o,b≠it->s.heap.get? b=some o->h'.get? b=some o)(hn:H it=none)(hL:it≠X.env.locals)
  (h1:it∈X.ex\/X.s₀.heap.objs.size<=it) (h2:∀x c,X.env.cells.lookup x=some c->c≠it) (h3:∀p∈X.pn++pins,p.1≠it):Inv X pins σ H { s with heap:=h',toks:=t' }:=by
 have nit:∀b u,H b=some u->b≠it:=λb u e z=>by rw[z,hn]at e;cases e
 refine I.step (g':=s.gens) (d':=s.drawn) (ch:=[it]) (λb hb=>?_) (λb o _ _ hc e _=>k b o (λz=>hc (by simp[z])) e) (λb o _ _ hc e _=>⟨o.slots,k b o (λz=>hc (by simp[z])) e⟩) (λ_ _ _ _ n=>n)
  (λb o hc e=>⟨o,k b o (λz=>hc (by simp[z])) e⟩) (λ_ _ e=>e) (λ_ _ _ e=>e) (λb ps e=>⟨#[],by rw[e];simp⟩) (λm hm=>?_) (λb u e=>?_) I.bare
 ·have e:b=it:=by simpa using hb
  subst e
  exact⟨h1,hL,h2,h3⟩
 ·obtain⟨o,es,ep,ho,r⟩:=hm
  exact⟨o,es,ep,k _ o (E2 hL) ho,r⟩
 ·refine(I.hok b u e).ib (λc v hc q=>k c v ?_ q) (λ_ q=>q) λ_ _ q=>q
  rcases hc with z|z
  ·rw[z];exact nit b u e
  ·exact nit c _ z
def Inv.tok(I:Inv X pins σ H s)(t:Nat):Inv X pins σ H { s with toks:=t }:=I.un (h':=s.heap) (t':=t) Un.refl I.hok
theorem Inv.kept{t':Nat}(I:Inv X pins σ H s)(k:∀b u,s.heap.get? b=some u->h'.get? b=some u):Inv X pins σ H { s with heap:=h',toks:=t' }:=I.un (Un.kept k) (I.hok.kept k)
theorem Inv.laid{a:Addr}{o:HO}{t':Nat}(I:Inv X pins σ H s)(k:∀b u,s.heap.get? b=some u->h'.get? b=some u)(hp:s.heap.objs.size<=a)(new:bc X.prog X.w (upd H a o) h' a o) :
  Inv X pins σ (upd H a o) { s with heap:=h',toks:=t' }:=I.un (Un.laid k hp (I.hok.fresh hp)) (I.hok.laid k hp new)
theorem Inv.write{x e:Addr}{o:HO}{t':Nat}(I:Inv X pins σ H s)(mu:Br (H x))(he:e=x\/H e=some (.own x))(k:∀b u,b≠e->s.heap.get? b=some u->h'.get? b=some u)(heo:∃u,h'.get? e=some u)
  (new:bc X.prog X.w (upd H x o) h' x o):Inv X pins σ (upd H x o) { s with heap:=h',toks:=t' }:=I.un (Un.write mu he k heo) (I.hok.write mu he k heo new)
def Inv.rW{pins':List (Addr×Obj)}(I:Inv X pins σ H s)(h:∀p∈pins',s.heap.get? p.1=some p.2/\H p.1=none/\p.1≠X.env.locals/\p.1∉X.fs/\∀v,p.2.data≠.cell v):Inv X pins' σ H s :=
 ⟨I.ok,I.os,I.bare,I.base,I.loc,I.cell,I.free,I.freeC,λp hp=>(EX.mp hp).elim (λz=>I.pin p (Fc _ z)) (h p),I.hok,I.len⟩
def ky{N:List Str}(hN:N.Nodup){i j:Nat}{x:Str}(a:N[i]?=some x)(b:N[j]?=some x):i=j:=by
 obtain⟨h1,e1⟩:=EF.mp a
 obtain⟨h2,e2⟩:=EF.mp b
 exact(List.getElem_inj hN).mp (e1.trans e2.symm)
def mF{M:Model}{A:Around}{E:Value->Shared->Prop}{i:Nat}{x:Str}{v:V}{u:Value}{Q:Unit->Shared->Prop}(I:Inv X pins σ H s)(hN:X.N.Nodup)(hi:X.N[i]?=some x)(hx:Loc X.env.scope x)(r:RelV v u)
  (h:∀s',Inv X pins (σ.set i (some v)) H s'->(∃a,Heap.SameBut a s.heap s'.heap/\(a=X.env.locals\/X.env.cells.lookup x=some a))->Q () s') (hf:X.fn x=true\/X.env.scope.names.lookup x=some .local:=by first|exact .inl rfl|exact .inr rfl|assumption):wpAny M A (storeName X.env x u) Q E s:=by
 obtain⟨m,hn,hl⟩:=id I.loc
 have hcls:(X.env.scope.kind==.class || (X.env.scope.kind==.module&&X.env.locals != X.env.globals))=false:=by rw[I.ok.kind];rfl
 have hiσ:i<σ.length:=by rw[I.len];exact(EF.mp hi).1
 have uw:=I.uw
 have tracked:∀{a:Addr} {h':Heap},(∃o,s.heap.get? a=some o/\H a=none)->Heap.SameBut a s.heap h'->gF X.prog X.w H h':=λ{a h'} ha hs b ob e=>by
  obtain⟨_,_,hfree⟩:=ha
  refine(I.hok b ob e).ib (λc w' hc q=>(hs.2 c ?_).trans q) (λ_ q=>q) λ_ _ q=>q
  rintro rfl
  rcases hc with rfl|hc
  ·rw[hfree]at e;cases e
  ·rw[hfree]at hc;cases hc
 rcases hx with hk|hk
 ·refine wpAny_storeName_local hk hn (λh' hn' hs=>?_) hcls
  obtain⟨oL,_,_,hoL,_⟩:=id hn
  refine h _ ⟨I.ok,I.os,I.bare,⟨λb o e n hb hx=>?_,λb o e n hb hx=>?_,I.base.free,λb o e hx=>?_,I.base.bQ,I.base.frzs,I.base.tbls⟩,⟨_,hn',λj y v' e1 e2 e3=>?_⟩,λy c e=>?_,I.free,I.freeC,λp hp=>?_,tracked ⟨oL,hoL,I.free⟩ hs,by simpa using I.len⟩ ⟨_,hs,.inl rfl⟩
  ·exact(hs.2 b (Ez (EE (Er e) I.ok.above))).trans (I.base.keep b o e n hb hx)
  ·obtain⟨sl,e1⟩:=I.base.slot b o e n hb hx
   exact⟨sl,(hs.2 b (Ez (EE (Er e) I.ok.above))).trans e1⟩
  ·obtain⟨o',e1⟩:=I.base.there b o e hx
   exact⟨o',(hs.2 b (Ez (EE (Er e) I.ok.above))).trans e1⟩
  ·by_cases hj:j=i
   ·subst hj
    rw[hi]at e1;cases e1
    rw[Hg hiσ]at e2
    cases e2
    exact⟨u,r,.inl ⟨hk,by simp⟩⟩
   ·rw[Hr (E2 hj)]at e2
    obtain⟨u',r',q⟩:=hl j y v' e1 e2 e3
    refine⟨u',r',?_⟩
    rcases q with⟨k,e⟩|⟨k,c,e,z⟩
    ·refine .inl ⟨k,?_⟩
     have:y≠x:=λe=>hj (ky hN e1 (e ▸ hi))
     simp[this,e]
    ·exact .inr ⟨k,c,e,z.sameBut hs (uw y c e)⟩
  ·obtain⟨w',z⟩:=I.cell y c e
   exact⟨w',z.sameBut hs (uw y c e)⟩
  ·obtain⟨e,n,ne,nf,d⟩:=I.pin p hp
   exact⟨(hs.2 p.1 ne).trans e,n,ne,nf,d⟩
 ·have hfn:X.fn x=true:=by
   rcases hf with z|z
   ·exact z
   ·rw[z]at hk;cases hk
  obtain⟨c,hc⟩:=I.ok.has x (.inl hk)
  obtain⟨w',z⟩:=I.cell x c hc
  refine wpAny_storeName_cell I.ok.kind hk hc z (λh' hc' hs=>?_)
  obtain⟨oc,hoc,hocd⟩:=id z
  refine h { s with heap:=h' } ⟨I.ok,I.os,I.bare,⟨λb o e n hb hx=>?_,λb o e n hb hx=>?_,I.base.free,λb o e hx=>?_,I.base.bQ,I.base.frzs,I.base.tbls⟩,⟨m,hn.sameBut hs (E2 (uw x c hc)),λj y v' e1 e2 e3=>?_⟩,λy c' e=>?_,I.free,I.freeC,λp hp=>?_,tracked ⟨oc,hoc,I.freeC x c hc⟩ hs,by simpa using I.len⟩ ⟨c,hs,.inr hc⟩
  ·exact(hs.2 b (Ez (EE (Er e) (I.ok.cab x c hfn hc)))).trans (I.base.keep b o e n hb hx)
  ·obtain⟨sl,e1⟩:=I.base.slot b o e n hb hx
   exact⟨sl,(hs.2 b (Ez (EE (Er e) (I.ok.cab x c hfn hc)))).trans e1⟩
  ·obtain⟨o',e1⟩:=I.base.there b o e hx
   exact⟨o',(hs.2 b (Ez (EE (Er e) (I.ok.cab x c hfn hc)))).trans e1⟩
  ·by_cases hj:j=i
   ·subst hj
    rw[hi]at e1;cases e1
    rw[Hg hiσ]at e2
    cases e2
    exact⟨u,r,.inr ⟨.inl hk,c,hc,hc'⟩⟩
   ·rw[Hr (E2 hj)]at e2
    obtain⟨u',r',q⟩:=hl j y v' e1 e2 e3
    refine⟨u',r',?_⟩
    rcases q with q|⟨k,c',e,z'⟩
    ·exact .inl q
    ·refine .inr ⟨k,c',e,z'.sameBut hs ?_⟩
     rintro rfl
     exact hj (ky hN e1 (I.ok.inj _ _ _ e hc ▸ hi))
  ·by_cases hcc:c'=c
   ·subst hcc;exact⟨_,hc'⟩
   ·obtain⟨w2,z2⟩:=I.cell y c' e
    exact⟨w2,z2.sameBut hs hcc⟩
  ·obtain⟨e,n,ne,nf,d⟩:=I.pin p hp
   refine⟨(hs.2 p.1 ?_).trans e,n,ne,nf,d⟩
   intro q
   rw[q,hoc]at e
   have q':oc=p.2:=EO e
   exact d w' (by rw[<-q'];exact hocd)
def iW{M:Model}{A:Around}{E:Value->Shared->Prop}{i:Nat}{x:Str}{v:V}{u:Value}{Q:Unit->Shared->Prop}(I:Inv X pins σ H s)(hN:X.N.Nodup)(hi:X.N[i]?=some x)(hx:Loc X.env.scope x)(r:RelV v u)
  (h:∀s',Inv X pins (σ.set i (some v)) H s'->Q () s') (hf:X.fn x=true\/X.env.scope.names.lookup x=some .local:=by first|exact .inl rfl|exact .inr rfl|assumption):wpAny M A (storeName X.env x u) Q E s :=
 mF I hN hi hx r (λs' I' _=>h s' I') hf
def Inv.wX{s':Shared}{ch:List Addr}(I:Inv X pins σ H s)(ho:s'.os=s.os)(u:Un (fJ X.stack) ch H H' s.heap s'.heap)(hok:gF X.prog X.w H' s'.heap)(hg:AllBare s'.gens)
  (hch:∀b∈ch,(b∈X.ex\/X.s₀.heap.objs.size<=b)/\b≠X.env.locals/\(∀x c,X.env.cells.lookup x=some c->c≠b)/\∀p∈X.pn++pins,p.1≠b):Inv X pins σ H' s':=by
 obtain⟨h',g',d',t',o'⟩:=s'
 have e:o'=s.os:=ho
 subst e
 exact I.call (g':=g') (t':=t') (d':=d') u hok hg hch
end
abbrev XK:=Value->Option Addr->Hp->Prop
abbrev St:=List (Option V)
abbrev VK:=V->Hp->Prop
abbrev TE:=St->Hp->VK->Prop
abbrev TT:=St->Hp->(Bool->Hp->Prop)->Prop
abbrev TA:=St->Hp->(List V->Hp->Prop)->Prop
structure Ends where
 nx:St->Hp->Prop
 rt:VK
 bk:St->Hp->Prop:=λ_ _=>False
 ct:St->Hp->Prop:=λ_ _=>False
abbrev TS:=Ends->St->Hp->Prop
def EP(X:Cx)(pins:List (Addr×Obj))(σ:St)(Q:VK)(u:Value)(s':Shared):Prop:=∃v H',Inv X pins σ H' s'/\RelV v u/\Q v H'
def TP(X:Cx)(pins:List (Addr×Obj))(σ:St)(Q:Bool->Hp->Prop)(b:Bool)(s':Shared):Prop:=∃H',Inv X pins σ H' s'/\Q b H'
def AP(X:Cx)(pins:List (Addr×Obj))(σ:St)(Q:List V->Hp->Prop)(us:List Value)(s':Shared):Prop:=∃vs H',Inv X pins σ H' s'/\Vals vs us/\Q vs H'
def SP(X:Cx)(pins:List (Addr×Obj))(D:Ends)(f:Flow)(s':Shared):Prop :=
 match f with
 |.next=>∃σ' H',Inv X pins σ' H' s'/\D.nx σ' H'
 |.brk=>∃σ' H',Inv X pins σ' H' s'/\D.bk σ' H'
 |.cont=>∃σ' H',Inv X pins σ' H' s'/\D.ct σ' H'
 |.ret u=>∃v σ' H',Inv X pins σ' H' s'/\RelV v u/\D.rt v H'
def PE(X:Cx)(e:Expr)(t:TE):Prop :=
 ∀(pins:List (Addr×Obj)) (s:Shared) (σ:St) (H:Hp) (Q:VK),Inv X pins σ H s->t σ H Q->wpAny (model X.prog X.w) X.A (eval e X.env) (EP X pins σ Q) X.xe s
def PT(X:Cx)(e:Expr)(t:TT):Prop :=
 ∀(pins:List (Addr×Obj)) (s:Shared) (σ:St) (H:Hp) (Q:Bool->Hp->Prop),Inv X pins σ H s->t σ H Q->wpAny (model X.prog X.w) X.A (isTrue e X.env (eval e X.env)) (TP X pins σ Q) X.xe s
def PW(X:Cx)(e:Expr)(t:TT):Prop :=
 ∀(whole:Sem Value) (pins:List (Addr×Obj)) (s:Shared) (σ:St) (H:Hp) (Q:Bool->Hp->Prop),Inv X pins σ H s->t σ H Q->wpAny (model X.prog X.w) X.A (isTrue e X.env whole) (TP X pins σ Q) X.xe s
def PW.pt{X:Cx}{e:Expr}{t:TT}(h:PW X e t):PT X e t:=h _
def PA(X:Cx)(es:List Expr)(t:TA):Prop :=
 ∀(pos:Pos) (pins:List (Addr×Obj)) (s:Shared) (σ:St) (H:Hp) (Q:List V->Hp->Prop),Inv X pins σ H s->t σ H Q->wpAny (model X.prog X.w) X.A (spliced (backTo pos (starEach es X.env))) (AP X pins σ Q) X.xe s
def PS(X:Cx)(st:Stmt)(t:TS):Prop :=
 ∀(pins:List (Addr×Obj)) (s:Shared) (σ:St) (H:Hp) (D:Ends),Inv X pins σ H s->t D σ H->wpAny (model X.prog X.w) X.A (exec st X.env) (SP X pins D) X.xe s
def lK(X:Cx)(st:List Stmt)(t:TS):Prop :=
 ∀(pins:List (Addr×Obj)) (s:Shared) (σ:St) (H:Hp) (D:Ends),Inv X pins σ H s->t D σ H->wpAny (model X.prog X.w) X.A (execs st X.env) (SP X pins D) X.xe s
def bo{α:Type}{t:Sem α}{Q Q':α->Shared->Prop}{M:Model}{A:Around}{E:Value->Shared->Prop}{s:Shared}(h:wpAny M A t Q E s)(hQ:∀a s,Q a s->Q' a s):wpAny M A t Q' E s:=Fy h hQ λ_ _ x=>x
end L2
namespace L2
open PySem PySem.Spec PyProof.Rows
section
variable {X:Cx}
inductive CZ(i:Nat)(σ:St)(H:Hp)(Q:VK):Prop
 |mk (v:V) (e:σ[i]?=some (some v)) (k:Q v H)
def BY(i:Nat):TE:=CZ i
def tC(v:V):TE:=λ_ H Q=>Q v H
def uB{i:Nat}{x:Str}{pos:Pos}(hN:X.N[i]?=some x)(hv:Bh X.env.scope x)(hd:(x==("__debug__":Str))=false:=by decide)(hcd:(x==("__classdict__":Str))=false:=by decide):PE X (.Name x pos) (BY i):=by
 intro pins s σ H Q I h
 obtain⟨v,e,h⟩:=h
 obtain⟨m,hn,hl⟩:=I.loc
 obtain⟨u,r,l⟩:=hl i x v hN e hv
 have fin:EP X pins σ Q u s:=⟨v,H,I,r,h⟩
 rcases l with⟨hk,hm⟩|⟨hk,c,hc,hcell⟩
 ·exact IK (wpAny_loadName_local I.ok.kind hk hn hm fin) hd
 ·rcases hk with hk|hk
  ·exact IK (wpAny_loadName_cell I.ok.kind hk hc hcell fin) hd
  ·exact IK (wpAny_loadName_free I.ok.kind hk hc hcell fin hcd) hd
def av{i j pos}:PE X (.Constant (.int i) j pos) (tC (.int i)):=λ_ _ _ H _ I h=>wpAny_Constant_int ⟨.int i,H,I.tok _,⟨_,rfl⟩,h⟩
def iN{b j pos}:PE X (.Constant (.bool b) j pos) (tC (.bl b)):=λ_ _ _ H _ I h=>Constant_bool ⟨.bl b,H,I,rfl,h⟩
def jx{j pos}:PE X (.Constant .none j pos) (tC .non):=λ_ _ _ H _ I h=>Constant_none ⟨.non,H,I,rfl,h⟩
def fF{x j pos}:PE X (.Constant (.str x) j pos) (tC (.str x)):=λ_ _ _ H _ I h=>Calls.Constant_str ⟨.str x,H,I.tok _,⟨_,rfl⟩,h⟩
def Gl(X:Cx)(x:Str):Prop:=X.env.kindOf x=some .globalImplicit
def gg{E:Value->Shared->Prop}{pins:List (Addr×Obj)}{s:Shared}{σ:St}{H:Hp}{x:Str}{u:Value}{pos:Pos}{Q:Value->Shared->Prop}(I:Inv X pins σ H s)(hg:Gl X x)(hm:X.mg x=some u)(h:Q u s)
  (hd:(x==("__debug__":Str))=false:=by decide):wpAny (model X.prog X.w) X.A (eval (.Name x pos) X.env) Q E s :=
 Gy I.ok.kind hg (HM (by rw[I.ok.glob];exact I.mod.glob.keeps I.bk) hm h) hd
def ir{E:Value->Shared->Prop}{pins:List (Addr×Obj)}{s:Shared}{σ:St}{H:Hp}{x:Str}{u:Value}{pos:Pos}{Q:Value->Shared->Prop}(I:Inv X pins σ H s)(hg:Gl X x)(hm:X.mg x=none)(hv:bootBuiltins x=some u)(h:Q u s)
  (hn:x≠"__name__":=by decide) (hd:(x==("__debug__":Str))=false:=by decide):wpAny (model X.prog X.w) X.A (eval (.Name x pos) X.env) Q E s:=by
 obtain⟨mb,h1,h2⟩:=I.mod.blt
 exact Gy I.ok.kind hg (Calls.loadGlobal_builtin (by rw[I.ok.glob];exact I.mod.glob.keeps I.bk) hm (by rw[I.ok.blt];exact h1.keeps I.bk) ((h2 x hn).trans hv) h) hd
def bb{x:Str}{v:V}{u:Value}{pos:Pos}(hg:Gl X x)(hm:X.mg x=some u)(r:RelV v u)(hd:(x==("__debug__":Str))=false:=by decide):PE X (.Name x pos) (tC v) :=
 λ_ _ _ H _ I h=>gg I hg hm ⟨v,H,I,r,h⟩ hd
def mZ{x:Str}{v:V}{u:Value}{pos:Pos}(hg:Gl X x)(hm:X.mg x=none)(hv:bootBuiltins x=some u)(r:RelV v u)(hn:x≠"__name__":=by decide)(hd:(x==("__debug__":Str))=false:=by decide):PE X (.Name x pos) (tC v) :=
 λ_ _ _ H _ I h=>ir I hg hm hv ⟨v,H,I,r,h⟩ hn hd
variable {a b:Expr}{ta tb:TE}{pos:Pos}
def PC(X:Cx)(op:CmpOp)(a b:Expr)(t:TE):Prop :=
 ∀(pins:List (Addr×Obj)) (s:Shared) (σ:St) (H:Hp) (Q:VK),Inv X pins σ H s->t σ H Q ->
  wpAny (model X.prog X.w) X.A (eval a X.env) (λv s₁=>wpAny (model X.prog X.w) X.A (eval b X.env) (λu s₂=>wpAny (model X.prog X.w) X.A (compareOp op v u) (EP X pins σ Q) X.xe s₂) X.xe s₁) X.xe s
def pb(b:Expr){op:CmpOp}(h:op≠.In)(h2:op≠.NotIn):behindInMarks op b=false:=by
 have e1:(op==CmpOp.In)=false:=by cases op <;> first|rfl|exact absurd rfl h
 have e2:(op==CmpOp.NotIn)=false:=by cases op <;> first|rfl|exact absurd rfl h2
 cases b <;> simp[behindInMarks,e1,e2]
def CD(ta:TE):TE:=λσ H Q=>ta σ H λx H1=>Q (.bl (decide (x=.non))) H1
def BG(ta:TE):TE:=λσ H Q=>ta σ H λx H1=>Q (.bl (!decide (x=.non))) H1
def RelV.pM{x:V}{v:Value}(r:RelV x v):(v==Value.none)=decide (x=.non):=by
 cases x with
 |non=>cases r;rfl
 |bl _=>cases r;rfl
 |int _=>obtain⟨t,rfl⟩:=r;rfl
 |str _=>obtain⟨t,rfl⟩:=r;rfl
 |byt _=>obtain⟨t,rfl⟩:=r;rfl
 |flt _=>obtain⟨t,rfl⟩:=r;rfl
 |ref _=>cases r;rfl
 |ty _=>cases r;rfl
def vq{j pos'}(ha:PE X a ta):PC X .Is a (.Constant .none j pos') (CD ta):=by
 intro pins s σ H Q I h
 refine bo (ha pins s σ H _ I h) λv s1 hZ=>?_
 obtain⟨x,H1,I1,r1,q1⟩:=hZ
 exact Constant_none (is_none_gen ⟨.bl _,H1,I1,by rw[r1.pM];rfl,q1⟩)
def mP{j pos'}(ha:PE X a ta):PC X .IsNot a (.Constant .none j pos') (BG ta):=by
 intro pins s σ H Q I h
 refine bo (ha pins s σ H _ I h) λv s1 hZ=>?_
 obtain⟨x,H1,I1,r1,q1⟩:=hZ
 exact Constant_none (isnot_none_gen ⟨.bl _,H1,I1,by rw[r1.pM];rfl,q1⟩)
inductive JB(Q:Bool->Hp->Prop)(x:V)(H1:Hp):Prop
 |mk (c:Bool) (e:x=.bl c) (k:Q c H1)
def tB(t:TE):TT:=λσ H Q=>t σ H (JB Q)
def Ak{op:CmpOp}{t:TE}(h:PC X op a b t)(h1:behindInMarks op b=false:=by first|exact pb _ (by decide) (by decide)|rfl):PE X (.Compare a [op] [b] pos) t:=λpins s σ H Q I hw=>wpAny_Compare1 (h pins s σ H Q I hw) h1
def gI{op:CmpOp}{t:TE}(h:PC X op a b t)(h1:behindInMarks op b=false:=by first|exact pb _ (by decide) (by decide)|rfl):PT X (.Compare a [op] [b] pos) (tB t):=by
 intro pins s σ H Q I hw
 refine wpAny_isTrue_Compare1 (bo (h pins s σ H _ I hw) λv s1 h1=>bo h1 λu s2 h2=>bo h2 λc s3 hZ=>?_) h1
 obtain⟨x,H1,I1,r1,q1⟩:=hZ
 obtain⟨d,rfl,q⟩:=q1
 cases r1
 exact FD ⟨H1,I1,q⟩
def bU{e:Expr}{t:TE}(h:PE X e t)(he:∀whole,isTrue e X.env whole=(do let v <-whole;standAt e.pos;holding [v] (truthy v)):=by intro _;rfl):PT X e (tB t):=by
 intro pins s σ H Q I hw
 refine isTrue_plain (bo (h pins s σ H _ I hw) λv s1 hZ=>?_) (he _)
 obtain⟨x,H1,I1,r1,q1⟩:=hZ
 obtain⟨d,rfl,q⟩:=q1
 cases r1
 exact FD ⟨H1,I1,q⟩
variable {tA tB':TT}{rest:List Expr}
def DF(t u:TT):TT:=λσ H Q=>t σ H λc H1=>if c=true then u σ H1 Q else Q false H1
def tOr(t u:TT):TT:=λσ H Q=>t σ H λc H1=>if c=true then Q true H1 else u σ H1 Q
def C2(t:TT):TT:=λσ H Q=>t σ H λc H1=>Q (!c) H1
def pw_and1(ha:PT X a tA):PW X (.BoolOp .And [a] pos) tA:=by
 intro wh pins s σ H Q I h
 refine isTrue_and (bo (ha pins s σ H Q I h) λc s1 e=>?_)
 cases c with
 |true=>exact isTrue_and_nil e
 |false=>exact e
def pw_or1(ha:PT X a tA):PW X (.BoolOp .Or [a] pos) tA:=by
 intro wh pins s σ H Q I h
 refine isTrue_or (bo (ha pins s σ H Q I h) λc s1 e=>?_)
 cases c with
 |false=>exact isTrue_or_nil e
 |true=>exact e
def pw_and(ha:PT X a tA)(hb:PW X (.BoolOp .And (b::rest) pos) tB'):PW X (.BoolOp .And (a::b::rest) pos) (DF tA tB'):=by
 intro wh pins s σ H Q I h
 refine isTrue_and (bo (ha pins s σ H _ I h) λc s1 hZ=>?_)
 obtain⟨H1,I1,q1⟩:=hZ
 cases c with
 |true=>exact hb wh pins s1 σ H1 Q I1 q1
 |false=>exact⟨H1,I1,q1⟩
def pw_or(ha:PT X a tA)(hb:PW X (.BoolOp .Or (b::rest) pos) tB'):PW X (.BoolOp .Or (a::b::rest) pos) (tOr tA tB'):=by
 intro wh pins s σ H Q I h
 refine isTrue_or (bo (ha pins s σ H _ I h) λc s1 hZ=>?_)
 obtain⟨H1,I1,q1⟩:=hZ
 cases c with
 |true=>exact⟨H1,I1,q1⟩
 |false=>exact hb wh pins s1 σ H1 Q I1 q1
def cK(ha:PT X a tA):PT X (.UnaryOp .Not a pos) (C2 tA):=by
 intro pins s σ H Q I h
 exact isTrue_not (ha pins s σ H (λc H1=>Q (!c) H1) I h)
def Bv(ta tb:TE):TE:=λσ H Q=>ta σ H λx H1=>∃c,x=.bl c/\if c=true then tb σ H1 Q else Q (.bl false) H1
def m9{op}{t:TE}(h:PE X a t):PE X (.BoolOp op [a] pos) t:=λpins s σ H Q I hw=>BoolOp_one (h pins s σ H Q I hw)
def nj(ha:PE X a ta)(hb:PE X (.BoolOp .And (b::rest) pos) tb):PE X (.BoolOp .And (a::b::rest) pos) (Bv ta tb):=by
 intro pins s σ H Q I h
 refine BoolOp_and (bo (ha pins s σ H _ I h) λv s1 hZ=>?_)
 obtain⟨x,H1,I1,r1,q1⟩:=hZ
 obtain⟨c,rfl,q1⟩:=q1
 cases r1
 refine FD ?_
 cases c with
 |true=>exact hb pins s1 σ H1 Q I1 q1
 |false=>exact⟨.bl false,H1,I1,rfl,q1⟩
end
end L2
namespace L2
open PySem PySem.Spec PyProof.Rows
def aR(K:PySem.W.Frag)(H:Hp)(a:Addr)(xs:List V):Prop :=
 Rd H a (.lst xs) \/
  ∃(o:Obj) (its:Array Value) (n:Nat),K.lookup a=some o/\o.cls=.type "list"/\o.dict=none/\o.data=.seq its n/\its.size<=sizeLine/\Vals xs its.toList
def cT(K:PySem.W.Frag)(H:Hp)(a:Addr)(xs:List V):Prop :=
 Rd H a (.tup xs) \/
  ∃(o:Obj) (its:Array Value) (n:Nat),K.lookup a=some o/\o.cls=.type "tuple"/\o.data=.seq its n/\its.size<=sizeLine/\Vals xs its.toList
def DW:Value->Option V
 |.none=>some .non
 |.bool b=>some (.bl b)
 |.int i _=>some (.int i)
 |.str x _=>some (.str x)
 |.bytes b _=>some (.byt b)
 |.float b _=>some (.flt b)
 |.ref a=>some (.ref a)
 |.type n=>some (.ty n)
 |_=>none
def RelV.abs{x:V}{u:Value}(r:RelV x u):DW u=some x:=by
 cases x with
 |non=>cases r;rfl
 |bl _=>cases r;rfl
 |int _=>obtain⟨t,rfl⟩:=r;rfl
 |str _=>obtain⟨t,rfl⟩:=r;rfl
 |byt _=>obtain⟨t,rfl⟩:=r;rfl
 |flt _=>obtain⟨t,rfl⟩:=r;rfl
 |ref _=>cases r;rfl
 |ty _=>cases r;rfl
theorem RelV.inj{x y:V}{u:Value}(r:RelV x u)(q:RelV y u):x=y:=EO (r.abs.symm.trans q.abs)
theorem Vals.inj{xs ys:List V}{us:List Value}(h:Vals xs us)(k:Vals ys us):xs=ys:=by
 induction h generalizing ys with
 |nil =>
  cases k
  rfl
 |cons r t ih =>
  cases k with
  |cons q z=>rw[r.inj q,ih z]
section
variable {X:Cx}{pins:List (Addr×Obj)}{σ:St}{H:Hp}{s:Shared}{a:Addr}{xs ys:List V}
def aR.of{K:PySem.W.Frag}(h:H a=some (.lst xs)):aR K H a xs:=.inl (.inl h)
def cT.of{K:PySem.W.Frag}(h:H a=some (.tup xs)):cT K H a xs:=.inl (.inl h)
def Inv.list(I:Inv X pins σ H s)(h:aR X.K H a xs):∃its:List Value,Vals xs its/\PlainL s.heap a its.toArray/\xs.length<=sizeLine:=by
 rcases h with h|⟨o,its,n,hk,hc,hd,hs,hz,r⟩
 ·obtain⟨z,its,n,r,e⟩:=h.ok I.hok
  exact⟨its,r,⟨_,n,e,rfl,rfl,rfl⟩,z⟩
 ·refine⟨its.toList,r,⟨o,n,I.eD a o hk,hc,hd,by simpa using hs⟩,?_⟩
  have e:=r.length
  simp only[F0]at e
  lia
def Inv.tuple(I:Inv X pins σ H s)(h:cT X.K H a xs):∃its:List Value,Vals xs its/\IsTup s.heap a its.toArray/\xs.length<=sizeLine:=by
 rcases h with h|⟨o,its,n,hk,hc,hs,hz,r⟩
 ·obtain⟨z,its,r,p⟩:=h.ok I.hok
  exact⟨its,r,p,z⟩
 ·refine⟨its.toList,r,⟨o,I.eD a o hk,hc,n,by simpa using hs⟩,?_⟩
  have e:=r.length
  simp only[F0]at e
  lia
def Inv.pe(I:Inv X pins σ H s)(h:aR X.K H a xs)(h':aR X.K H a ys):xs=ys:=by
 obtain⟨its,r,⟨o,n,e,_,_,d⟩,_⟩:=I.list h
 obtain⟨its',r',⟨o',n',e',_,_,d'⟩,_⟩:=I.list h'
 rw[e]at e';cases e'
 rw[d]at d'
 injection d' with d1 _
 have:its=its':=by simpa using Gz Array.toList d1
 subst this
 exact r.inj r'
def Inv.sN(I:Inv X pins σ H s)(h:cT X.K H a xs)(h':cT X.K H a ys):xs=ys:=by
 obtain⟨its,r,⟨o,e,_,n,d⟩,_⟩:=I.tuple h
 obtain⟨its',r',⟨o',e',_,n',d'⟩,_⟩:=I.tuple h'
 rw[e]at e';cases e'
 rw[d]at d'
 injection d' with d1 _
 have:its=its':=by simpa using Gz Array.toList d1
 subst this
 exact r.inj r'
end
abbrev Cx.cG(X:Cx)(E:Value->Shared->Prop):Cx:={ X with xe:=E }
abbrev Cx.ff(X:Cx):Cx:=X.cG λ_ _=>False
theorem Cx.Ok.cG{X:Cx}(ok:X.Ok)(E:Value->Shared->Prop):(X.cG E).Ok :=
 ⟨ok.mod,ok.kind,ok.glob,ok.blt,ok.above,ok.inj,ok.has,ok.cab,ok.hd,ok.frames,ok.stk,ok.exf,ok.bs,ok.bsz,ok.noex,ok.exfs,ok.fG,ok.frf⟩
def Cx.Ok.gz{X:Cx}{E:Value->Shared->Prop}(ok:(X.cG E).Ok):X.Ok :=
 ⟨ok.mod,ok.kind,ok.glob,ok.blt,ok.above,ok.inj,ok.has,ok.cab,ok.hd,ok.frames,ok.stk,ok.exf,ok.bs,ok.bsz,ok.noex,ok.exfs,ok.fG,ok.frf⟩
section
variable {X:Cx}{pins:List (Addr×Obj)}{σ:St}{H:Hp}{s:Shared}{E:Value->Shared->Prop}
theorem Inv.cG(I:Inv X pins σ H s)(E:Value->Shared->Prop):Inv (X.cG E) pins σ H s:=⟨I.ok.cG E,I.os,I.bare,I.base,I.loc,I.cell,I.free,I.freeC,I.pin,I.hok,I.len⟩
theorem Inv.gz(I:Inv (X.cG E) pins σ H s):Inv X pins σ H s:=⟨I.ok.gz,I.os,I.bare,I.base,I.loc,I.cell,I.free,I.freeC,I.pin,I.hok,I.len⟩
theorem SP.gz{D:Ends}{f:Flow}{s':Shared}(h:SP (X.cG E) pins D f s'):SP X pins D f s':=by
 cases f with
 |next=>obtain⟨σ',H',I,q⟩:=h;exact⟨σ',H',I.gz,q⟩
 |brk=>obtain⟨σ',H',I,q⟩:=h;exact⟨σ',H',I.gz,q⟩
 |cont=>obtain⟨σ',H',I,q⟩:=h;exact⟨σ',H',I.gz,q⟩
 |ret u=>obtain⟨v,σ',H',I,r,q⟩:=h;exact⟨v,σ',H',I.gz,r,q⟩
theorem lK.ff{st:List Stmt}{t:TS}(h:lK X.ff st t):lK X st t:=λpins s σ H D I hw =>
 Fy (h pins s σ H D (I.cG _) hw) (λ_ _ q=>q.gz) λ_ _ z=>False.elim z
end
section
variable {X:Cx}{st:Stmt}{rest:List Stmt}{t u:TS}{e:Expr}{te:TE}{pos:Pos}
def BO:TS:=λD σ H=>D.nx σ H
def xM(t u:TS):TS:=λD σ H=>t { D with nx:=u D } σ H
def aZ:lK X [] BO:=λ_ _ σ H _ I h=>Ie ⟨σ,H,I,h⟩
def ah(h1:PS X st t)(h2:lK X rest u):lK X (st::rest) (xM t u):=by
 intro pins s σ H D I h
 refine wpAny_execs_cons (bo (h1 pins s σ H { D with nx:=u D } I h) λf s1 q=>?_)
 cases f with
 |next =>
  obtain⟨σ',H',I',q⟩:=q
  exact h2 pins s1 σ' H' D I' q
 |ret v=>exact q
 |brk=>exact q
 |cont=>exact q
def aq(h1:PS X st t):lK X [st] t:=by
 intro pins s σ H D I h
 refine wpAny_execs_cons (bo (h1 pins s σ H D I h) λf s1 q=>?_)
 cases f with
 |next=>exact Ie q
 |ret v=>exact q
 |brk=>exact q
 |cont=>exact q
def Inv.quiet{pins:List (Addr×Obj)}{σ:St}{H:Hp}{s:Shared}(I:Inv X pins σ H s):interactive X.env=false:=by simp[interactive,I.ok.kind]
def BS(te:TE):TS:=λD σ H=>te σ H λ_ H1=>D.nx σ H1
def bD(he:PE X e te)(hs:swapsWith e none pos.line X.env=pure false:=by rfl):PS X (.Expr e pos) (BS te):=by
 intro pins s σ H D I h
 exact wpAny_Expr_any (bo (he pins s σ H _ I h) λv s1 ⟨x,H1,I1,r1,q1⟩=>⟨σ,H1,I1,q1⟩) I.quiet hs
def CU(te:TE):TS:=λD σ H=>te σ H D.rt
def aH(he:PE X e te):PS X (.Return (some e) pos) (CU te):=by
 intro pins s σ H D I h
 exact wpAny_Return_some (bo (he pins s σ H _ I h) λv s1 ⟨x,H1,I1,r1,q1⟩=>⟨x,σ,H1,I1,r1,q1⟩)
def Cu(c:TT)(t u:TS):TS:=λD σ H=>c σ H λb H1=>if b=true then t D σ H1 else u D σ H1
def cj{c:Expr}{a b:List Stmt}{tc:TT}(hc:PT X c tc)(ha:lK X a t)(hb:lK X b u):PS X (.If c a b pos) (Cu tc t u):=by
 intro pins s σ H D I h
 refine wpAny_If (bo (hc pins s σ H _ I h) λd s1 hZ=>?_)
 obtain⟨H1,I1,q1⟩:=hZ
 cases d with
 |true=>exact ha pins s1 σ H1 D I1 q1
 |false=>exact hb pins s1 σ H1 D I1 q1
def A1:TS:=λ_ _ _=>False
def lO{sts:List Stmt}:lK X sts A1:=λ_ _ _ _ _ _ h=>h.elim
end
abbrev TG:=V->St->Hp->(St->Hp->Prop)->Prop
abbrev yB:=List V->St->Hp->(St->Hp->Prop)->Prop
def PG(X:Cx)(target:Expr)(t:TG):Prop :=
 ∀(pins:List (Addr×Obj)) (s:Shared) (σ:St) (H:Hp) (v:V) (u:Value) (Q:St->Hp->Prop),Inv X pins σ H s->RelV v u->t v σ H Q ->
  wpAny (model X.prog X.w) X.A (assign target X.env u) (λ_ s'=>∃σ' H',Inv X pins σ' H' s'/\Q σ' H') X.xe s
def Ci(X:Cx)(ts:List Expr)(t:yB):Prop :=
 ∀(pins:List (Addr×Obj)) (s:Shared) (σ:St) (H:Hp) (vs:List V) (us:List Value) (Q:St->Hp->Prop),Inv X pins σ H s->Vals vs us->t vs σ H Q ->
  wpAny (model X.prog X.w) X.A (assignInOrder ((assignEach ts X.env).map (·.2)) us) (λ_ s'=>∃σ' H',Inv X pins σ' H' s'/\Q σ' H') X.xe s
abbrev AS:=V->V->V->Hp->(Hp->Prop)->Prop
def Bp(X:Cx)(t:AS):Prop :=
 ∀(pins:List (Addr×Obj)) (s:Shared) (σ:St) (H:Hp) (o i v:V) (ov iv u:Value) (Q:Hp->Prop),Inv X pins σ H s->RelV o ov->RelV i iv->RelV v u->t o i v H Q ->
  wpAny (model X.prog X.w) X.A (setItem ov iv u) (λ_ s'=>∃H',Inv X pins σ H' s'/\Q H') X.xe s
section
variable {X:Cx}{pos:Pos}
def fg(i:Nat):TG:=λv σ H Q=>Q (σ.set i (some v)) H
def sh{i:Nat}{x:Str}(hN:X.N.Nodup)(hi:X.N[i]?=some x)(hx:Loc X.env.scope x)(hf:X.fn x=true\/X.env.scope.names.lookup x=some .local:=by first|exact .inl rfl|exact .inr rfl|assumption):PG X (.Name x pos) (fg i):=by
 intro pins s σ H v u Q I r h
 exact wpAny_assign_Name (iW I hN hi hx r (λs' I'=>⟨_,H,I',h⟩) hf)
def Ds:yB:=λvs σ H Q=>vs=[]/\Q σ H
inductive JGc(t:TG)(u:yB)(vs:List V)(σ:St)(H:Hp)(Q:St->Hp->Prop):Prop
 |mk (v:V) (r:List V) (e:vs=v::r) (k:t v σ H λσ' H'=>u r σ' H' Q)
def BV(t:TG)(u:yB):yB:=JGc t u
def eV:Ci X [] Ds:=by
 intro pins s σ H vs us Q I r h
 obtain⟨e,h⟩:=h
 subst e
 cases r
 exact assignInOrder_nil ⟨σ,H,I,h⟩
def aY{e:Expr}{es:List Expr}{t:TG}{u:yB}(h1:PG X e t)(h2:Ci X es u)
  (hs:(assignEach (e::es) X.env).map (·.2)=assign e X.env::(assignEach es X.env).map (·.2):=by rfl):Ci X (e::es) (BV t u):=by
 intro pins s σ H vs us Q I r h
 obtain⟨v,vr,e1,h⟩:=h
 subst e1
 cases r with
 |cons r rr =>
  rw[hs]
  refine assignInOrder_cons (bo (h1 pins s σ H _ _ _ I r h) λ_ s1 hZ=>?_)
  obtain⟨σ1,H1,I1,q1⟩:=hZ
  exact h2 pins s1 σ1 H1 _ _ Q I1 rr q1
inductive JGt(K:PySem.W.Frag)(n:Nat)(t:yB)(v:V)(σ:St)(H:Hp)(Q:St->Hp->Prop):Prop
 |mk (a:Addr) (xs:List V) (e:v=.ref a) (h:cT K H a xs) (l:xs.length=n) (k:t xs σ H Q)
def Du(K:PySem.W.Frag)(n:Nat)(t:yB):TG:=JGt K n t
def gy{es:List Expr}{k:Nat}{t:yB}{n:Nat}(hc:X.calm=true)(h:Ci X es t)
  (hn:(assignEach es X.env).length=n:=by rfl) (hst:(assignEach es X.env).findIdx? (·.1)=none:=by rfl):PG X (.Tuple es k pos) (Du X.K n t):=by
 intro pins s σ H v u Q I r hw
 obtain⟨a,xs,e1,hq,hl,hw⟩:=hw
 subst e1
 cases r
 obtain⟨its,rv,ht,hz⟩:=I.tuple hq
 refine assign_Tuple_tuple (I.ok.hd hc) ht (by simp[hn,<-hl,rv.length]) hst λh' hx=>?_
 have I1:Inv X pins σ H { s with heap:=h' }:=I.kept (t':=s.toks) λb o e=>hx b o (Ez (Er e)) e
 exact h pins _ σ H xs _ Q I1 (by simpa using rv) hw
def Ee(to ti:TE)(t:AS):TG:=λv σ H Q=>to σ H λo H1=>ti σ H1 λi H2=>t o i v H2 λH3=>Q σ H3
def AB{o i:Expr}{to ti:TE}{t:AS}(ho:PE X o to)(hi:PE X i ti)(hs:Bp X t)
  (ha:∀v,assign (.Subscript o i pos) X.env v = (do
   let ov <-holding [v] (eval o X.env)
   let iv <-holding [v,ov] (eval i X.env)
   standAt pos
   holding [v,ov,iv] (setItem ov iv v)
   release [v,ov,iv] []):=by intro _;rfl):PG X (.Subscript o i pos) (Ee to ti t):=by
 intro pins s σ H v u Q I r h
 rw[ha]
 refine Em (FJ (bo (ho pins s σ H _ I h) λov s1 hZ=>?_))
 obtain⟨x,H1,I1,r1,q1⟩:=hZ
 refine Em (FJ (bo (hi pins s1 σ H1 _ I1 q1) λiv s2 hZ=>?_))
 obtain⟨y,H2,I2,r2,q2⟩:=hZ
 refine Em (Hx (Em (FJ (bo (hs pins s2 σ H2 x y v ov iv u _ I2 r1 r2 r q2) λ_ s3 hZ=>?_))))
 obtain⟨H3,I3,q3⟩:=hZ
 exact wpAny_release ⟨σ,H3,I3,q3⟩
def wF(te:TE)(g:TG):TS:=λD σ H=>te σ H λx H1=>g x σ H1 D.nx
def qX{tg e:Expr}{te:TE}{g:TG}(he:PE X e te)(hg:PG X tg g)(hs:swapsWithSole [tg] e pos.line X.env=pure false:=by rfl)(hw:swappedStores [tg] e X.env=pure none:=by rfl)
  (h1:(assignEach [tg] X.env).map (·.2)=[assign tg X.env]:=by rfl):PS X (.Assign [tg] e pos) (wF te g):=by
 intro pins s σ H D I h
 refine wpAny_Assign_stores (bo (he pins s σ H _ I h) λv s1 hZ=>?_) hs hw
 obtain⟨x,H1,I1,r1,q1⟩:=hZ
 rw[h1]
 exact bo (hg pins s1 σ H1 x v _ I1 r1 q1) λ_ s2 q=>q
def xA{i:Nat}{x:Str}{e:Expr}{te:TE}{pos':Pos}(hN:X.N.Nodup)(hi:X.N[i]?=some x)(hx:Loc X.env.scope x)(he:PE X e te)(hs:swapsWith e (some (.Name x pos')) pos.line X.env=pure false:=by rfl)(hf:X.fn x=true\/X.env.scope.names.lookup x=some .local:=by first|exact .inl rfl|exact .inr rfl|assumption) :
  PS X (.Assign [.Name x pos'] e pos) (wF te (fg i)):=by
 intro pins s σ H D I h
 refine wpAny_Assign_Name (bo (he pins s σ H _ I h) λv s1 hZ=>?_) hs
 obtain⟨y,H1,I1,r1,q1⟩:=hZ
 exact iW I1 hN hi hx r1 (λs2 I2=>⟨_,H1,I2,q1⟩) hf
end
section
variable {X:Cx}{pos:Pos}
def AI(c:TT)(tb:TS):TS:=λD σ H=>∃W:Nat->St->Hp->Prop,(∃m,W m σ H)/\∀m σ H,W m σ H ->
 c σ H λb H1=>if b=true then ∃N:St->Hp->Prop,(∀σ' H',N σ' H'->∃m',m'<m/\W m' σ' H')/\tb { D with nx:=N,ct:=N,bk:=D.nx } σ H1 else D.nx σ H1
def iI{c:Expr}{body:List Stmt}{tc:TT}{tb:TS}(hp:PassesOwn (model X.prog X.w) X.A X.env X.xe)(hc:PT X c tc)(hb:lK X body tb):PS X (.While c body [] pos) (AI tc tb):=by
 intro pins s σ H D I h
 obtain⟨W,⟨m0,w0⟩,turn⟩:=h
 refine wpAny_While (codeAny_whileLoop (λn s'=>∃σ' H',Inv X pins σ' H' s'/\W n σ' H') ?_ m0 ⟨σ,H,I,w0⟩)
 rintro n s1 ⟨σ1,H1,I1,w1⟩
 refine Gr hp (bo (hc pins s1 σ1 H1 _ I1 (turn n σ1 H1 w1)) λb s2 hZ=>?_)
 obtain⟨H2,I2,q2⟩:=hZ
 cases b with
 |true =>
  obtain⟨N,hN,q2⟩:=q2
  rw[EG rfl]
  refine Gr hp (bo (hb pins s2 σ1 H2 _ I2 q2) λf s3 q3=>?_)
  cases f with
  |next =>
   obtain⟨σ3,H3,I3,n3⟩:=q3
   obtain⟨m',hm,w3⟩:=hN σ3 H3 n3
   exact⟨m',hm,σ3,H3,I3,w3⟩
  |cont =>
   obtain⟨σ3,H3,I3,n3⟩:=q3
   obtain⟨m',hm,w3⟩:=hN σ3 H3 n3
   exact⟨m',hm,σ3,H3,I3,w3⟩
  |brk=>exact q3
  |ret v=>exact q3
 |false =>
  rw[Ex EJ]
  exact Ie ⟨σ1,H2,I2,q2⟩
end
structure It where
 go:Nat->Hp->Prop
 yld:Nat->Hp->V->Hp->Prop
 stop:Nat->Hp->Prop
def gJ(X:Cx)(pins:List (Addr×Obj))(H:Hp)(b:Addr):Prop :=
 H b=none/\b≠X.env.locals/\b∉X.fs/\(b∈X.ex\/X.s₀.heap.objs.size<=b)/\(∀x c,X.env.cells.lookup x=some c->c≠b)/\∀p∈X.pn++pins,p.1≠b
def Inv.sP{X:Cx}{pins:List (Addr×Obj)}{σ:St}{H H':Hp}{s:Shared}{b:Addr}(I:Inv X pins σ H s)(hb:s.heap.objs.size<=b)(hn:H' b=none):gJ X pins H' b:=by
 refine⟨hn,FK (EE I.lt hb),I.Ei hb,.inr (ET I.sz hb),λx c e z=>?_,λp hp z=>?_⟩
 ·obtain⟨v,q⟩:=I.cell x c e
  exact absurd (EE q.lt (by rw[z];exact hb)) (Fe _)
 ·exact absurd (EE (Er (I.pin p hp).1) (by rw[z];exact hb)) (Fe _)
structure Turn(P:Program)(w:World)(K:PySem.W.Frag)(tg:Expr)(J:It)(fp:List Addr)(it:Addr)(tn:Nat->Heap->Prop):Prop where
 mem:it∈fp
 obj:∀i h,tn i h->∀b∈fp,∃o,h.get? b=some o/\∀v,o.data≠.cell v
 keep:∀i h h',tn i h->(∀b∈fp,∀o,h.get? b=some o->h'.get? b=some o)->tn i h'
 item:∀(X:Cx),X.prog=P->X.w=w->X.K=K->X.calm=true->∀(i:Nat) (pins:List (Addr×Obj)) (s:Shared) (σ:St) (H:Hp) (E:Value->Shared->Prop),Inv X pins σ H s->(∀b∈fp,gJ X pins H b)->tn i s.heap->J.go i H ->
  wpAny (model P w) X.A (pyNext (.ref it)) (λr s1=>∃u,r=some u /\
   wpAny (model P w) X.A (letOwnedTupleGo tg (.ref it) u) (λ_ s2=>∃x H',Inv X pins σ H' s2/\RelV x u/\J.yld i H x H'/\tn (i+1) s2.heap/\∀b∈fp,H' b=none) E s1) E s
 done:∀(X:Cx),X.prog=P->X.w=w->X.K=K->X.calm=true->∀(i:Nat) (pins:List (Addr×Obj)) (s:Shared) (σ:St) (H:Hp) (E:Value->Shared->Prop),Inv X pins σ H s->(∀b∈fp,gJ X pins H b)->tn i s.heap->J.stop i H ->
  wpAny (model P w) X.A (pyNext (.ref it)) (λr s1=>r=none/\Inv X pins σ H s1) E s
 self:∀(A:Around) (i:Nat) (s:Shared) (Q:Value->Shared->Prop) (E:Value->Shared->Prop),tn i s.heap->Q (.ref it) s->wpAny (model P w) A (pyIter (.ref it)) Q E s
abbrev TI:=St->Hp->(It->Hp->Prop)->Prop
def PIE(X:Cx)(pins:List (Addr×Obj))(σ:St)(tg:Expr)(R:It->Hp->Prop)(itv:Value)(s2:Shared):Prop :=
 ∃(it:Addr) (fp:List Addr) (tn:Nat->Heap->Prop) (J:It) (H':Hp),itv=.ref it/\Inv X pins σ H' s2/\Turn X.prog X.w X.K tg J fp it tn/\tn 0 s2.heap/\(∀b∈fp,gJ X pins H' b)/\R J H'
def PI(X:Cx)(tg iter:Expr)(wi:TI):Prop :=
 ∀(pins:List (Addr×Obj)) (s:Shared) (σ:St) (H:Hp) (R:It->Hp->Prop),Inv X pins σ H s->wi σ H R ->
  wpAny (model X.prog X.w) X.A (eval iter X.env) (λv s1=>wpAny (model X.prog X.w) X.A (pyIter v) (PIE X pins σ tg R) X.xe s1) X.xe s
def pF{M:Model}{A:Around}{E:Value->Shared->Prop}{s:Shared}{tg:Expr}{it:Addr}{u:Value}{o:Obj}{n:String}{vs:Array Value}{Q:Unit->Shared->Prop}(ho:s.heap.get? it=some o)(hc:o.cls=.type n)(hd:o.data=.fields vs)
    (hn:["enumerate", "zip", "dict_itemiterator", "dict_reverseitemiterator", "odict_iterator", "itertools.zip_longest", "itertools.pairwise"].contains n=false) (hQ:Q () s):wpAny M A (letOwnedTupleGo tg (.ref it) u) Q E s:=by
  unfold letOwnedTupleGo
  cases tg <;> first
    |exact Eo hQ
    |(cases u <;> first
        |exact Eo hQ
        | (refine Em (wpAny_load ho ?_)
           rw[hc,hd]
           show wpAny M A (if (["enumerate", "zip", "dict_itemiterator", "dict_reverseitemiterator", "odict_iterator", "itertools.zip_longest", "itertools.pairwise"].contains n&&vs[0]?==some (rawInt _))=true then _ else _) Q E s
           rw[Ex (by intro h;rw[hn,Bool.false_and]at h;cases h)]
           exact Eo hQ))
def A7(K:PySem.W.Frag)(a:Addr):It :=
 ⟨λi H=>∃xs x,aR K H a xs/\xs[i]?=some x,λi H x H'=>H'=H/\∀xs,aR K H a xs->xs[i]?=some x,λi H=>∃xs,aR K H a xs/\xs.length<=i⟩
def A8(K:PySem.W.Frag)(a:Addr):It :=
 ⟨λi H=>∃xs x,cT K H a xs/\xs[i]?=some x,λi H x H'=>H'=H/\∀xs,cT K H a xs->xs[i]?=some x,λi H=>∃xs,cT K H a xs/\xs.length<=i⟩
def Ce(lo:Int)(n:Nat):It:=⟨λi _=>i<n,λi H x H'=>H'=H/\x=.int (lo+i),λi _=>n<=i⟩
def uo{P:Program}{w:World}{K:PySem.W.Frag}{tg:Expr}(a it:Addr):Turn P w K tg (A7 K a) [it] it (λi h=>h.IsListIter it a i) where
 mem:=by simp
 obj:=λi h st b hb=>by
  have e:b=it:=by simpa using hb
  subst e
  obtain⟨o,e,c,d⟩:=st
  exact⟨o,e,λv z=>by rw[d]at z;cases z⟩
 keep:=λi h h' st k=>st.at λo e=>k it (by simp) o e
 item:=by
  intro X hP hw hK hc i pins s σ H E I hf st hg
  subst hP hw hK
  obtain⟨xs,x,hq,hx⟩:=hg
  obtain⟨its,rv,p,hz⟩:=I.list hq
  obtain⟨u,hu,ru⟩:=rv.get hx
  obtain⟨f0,f1,f2,f3,f4,f5⟩:=hf it (by simp)
  refine wpAny_pyNext_list_item st p.isList (x:=u) (by simpa using hu) λh' st' sb=>?_
  have I1:Inv X pins σ H { s with heap:=h' }:=I.turned (t':=s.toks) (λb o hb e=>(sb.2 b hb).trans e) f0 f1 f3 f4 f5
  obtain⟨o,e,c,d⟩:=id st'
  exact⟨u,rfl,pF (s:={ s with heap:=h' }) e c d (by decide) ⟨x,H,I1,ru,⟨rfl,λys hy=>by rw[I.pe hy hq];exact hx⟩,st',λb hb=>(hf b hb).1⟩⟩
 done:=by
  intro X hP hw hK hc i pins s σ H E I hf st hg
  subst hP hw hK
  obtain⟨xs,hq,hx⟩:=hg
  obtain⟨its,rv,p,hz⟩:=I.list hq
  obtain⟨f0,f1,f2,f3,f4,f5⟩:=hf it (by simp)
  have hl:=rv.length
  exact wpAny_pyNext_list_end (I.ok.hd hc) st p.isList (by simp;lia) λh' eb=>⟨rfl,I.turned (t':=s.toks) (λb o hb e=>eb b o hb e) f0 f1 f3 f4 f5⟩
 self:=λ_ _ _ _ _ st h=>wpAny_pyIter_listiter st h
def qA{P:Program}{w:World}{K:PySem.W.Frag}{tg:Expr}(a it:Addr):Turn P w K tg (A8 K a) [it] it (λi h=>h.IsTupleIter it a i) where
 mem:=by simp
 obj:=λi h st b hb=>by
  have e:b=it:=by simpa using hb
  subst e
  obtain⟨o,e,c,d⟩:=st
  exact⟨o,e,λv z=>by rw[d]at z;cases z⟩
 keep:=λi h h' st k=>st.at λo e=>k it (by simp) o e
 item:=by
  intro X hP hw hK hc i pins s σ H E I hf st hg
  subst hP hw hK
  obtain⟨xs,x,hq,hx⟩:=hg
  obtain⟨its,rv,p,hz⟩:=I.tuple hq
  obtain⟨u,hu,ru⟩:=rv.get hx
  obtain⟨f0,f1,f2,f3,f4,f5⟩:=hf it (by simp)
  refine wpAny_pyNext_tuple_item st (show s.heap.IsTuple a its.toArray from p) (x:=u) (by simpa using hu) λh' st' sb=>?_
  have I1:Inv X pins σ H { s with heap:=h' }:=I.turned (t':=s.toks) (λb o hb e=>(sb.2 b hb).trans e) f0 f1 f3 f4 f5
  obtain⟨o,e,c,d⟩:=id st'
  exact⟨u,rfl,pF (s:={ s with heap:=h' }) e c d (by decide) ⟨x,H,I1,ru,⟨rfl,λys hy=>by rw[I.sN hy hq];exact hx⟩,st',λb hb=>(hf b hb).1⟩⟩
 done:=by
  intro X hP hw hK hc i pins s σ H E I hf st hg
  subst hP hw hK
  obtain⟨xs,hq,hx⟩:=hg
  obtain⟨its,rv,p,hz⟩:=I.tuple hq
  obtain⟨f0,f1,f2,f3,f4,f5⟩:=hf it (by simp)
  have hl:=rv.length
  exact wpAny_pyNext_tuple_end (I.ok.hd hc) st (show s.heap.IsTuple a its.toArray from p) (by simp;lia) λh' eb=>⟨rfl,I.turned (t':=s.toks) (λb o hb e=>eb b o hb e) f0 f1 f3 f4 f5⟩
 self:=λ_ _ _ _ _ st h=>wpAny_pyIter_tupleiter st h
def qD{P:Program}{w:World}{K:PySem.W.Frag}{tg:Expr}(it:Addr)(lo:Int)(n:Nat):Turn P w K tg (Ce lo n) [it] it (λi h=>IsRangeIter h it (lo+(i:Nat)*1) ((n:Int)-(i:Nat)) 1) where
 mem:=by simp
 obj:=λi h st b hb=>by
  have e:b=it:=by simpa using hb
  subst e
  exact⟨_,st,λv z=>by
   have z':Data.fields _=Data.cell v:=z
   cases z'⟩
 keep:=λi h h' st k=>k it (by simp) _ st
 item:=by
  intro X hP hw hK hc i pins s σ H E I hf st hg
  subst hP hw hK
  obtain⟨f0,f1,f2,f3,f4,f5⟩:=hf it (by simp)
  have W:=Walks.range (prog:=X.prog) (w:=X.w) (I.ok.hd hc) it lo 1 n
  refine W.item i s _ _ hg st λv h' tk hv st' kk=>?_
  obtain⟨t,rfl⟩:=hv
  have I1:Inv X pins σ H { s with heap:=h',toks:=tk }:=I.turned (λb o hb e=>kk b o (by simpa using hb) e) f0 f1 f3 f4 f5
  refine⟨_,rfl,pF (s:={ s with heap:=h',toks:=tk }) (n:="range_iterator") st' rfl rfl (by decide) ⟨.int (lo+i),H,I1,⟨t,?_⟩,⟨rfl,rfl⟩,st',λb hb=>(hf b hb).1⟩⟩
  rw[Int.mul_one]
 done:=by
  intro X hP hw hK hc i pins s σ H E I hf st hg
  subst hP hw hK
  obtain⟨f0,f1,f2,f3,f4,f5⟩:=hf it (by simp)
  exact wpAny_pyNext_range_end (I.ok.hd hc) st (by have:n<=i:=hg;lia) λh' eb=>⟨rfl,I.turned (t':=s.toks) (λb o hb e=>eb b o hb e) f0 f1 f3 f4 f5⟩
 self:=λ_ _ _ _ _ st h=>wpAny_pyIter_rangeiter st h
end L2
namespace L2
open PySem PySem.Spec PyProof.Rows
section
variable {X:Cx}{tg:Expr}
inductive JIl(K:PySem.W.Frag)(R:It->Hp->Prop)(x:V)(H1:Hp):Prop
 |mk (a:Addr) (e:x=.ref a) (h:∃xs,aR K H1 a xs) (k:R (A7 K a) H1)
inductive JIt(K:PySem.W.Frag)(R:It->Hp->Prop)(x:V)(H1:Hp):Prop
 |mk (a:Addr) (e:x=.ref a) (h:∃xs,cT K H1 a xs) (k:R (A8 K a) H1)
def BN(K:PySem.W.Frag)(tl:TE):TI:=λσ H R=>tl σ H (JIl K R)
def C3(K:PySem.W.Frag)(tl:TE):TI:=λσ H R=>tl σ H (JIt K R)
def bh{l:Expr}{tl:TE}(hl:PE X l tl):PI X tg l (BN X.K tl):=by
 intro pins s σ H R I h
 refine bo (hl pins s σ H _ I h) λv s1 hZ=>?_
 obtain⟨x,H1,I1,r1,q1⟩:=hZ
 obtain⟨a,e,⟨xs,hq⟩,q⟩:=q1
 subst e
 cases r1
 obtain⟨its,rv,p,hz⟩:=I1.list hq
 refine Hj p.isList ?_
 refine⟨s1.heap.objs.size,[s1.heap.objs.size],_,_,H1,rfl,I1.kept (t':=s1.toks) λb o e=>En _ e,uo a _,⟨_,Ew _ rfl,rfl,rfl⟩,λb hb=>?_,q⟩
 have e:b=s1.heap.objs.size:=by simpa using hb
 subst e
 exact I1.sP (Ep _) (I1.hok.fresh (Ep _))
def qv{l:Expr}{tl:TE}(hl:PE X l tl):PI X tg l (C3 X.K tl):=by
 intro pins s σ H R I h
 refine bo (hl pins s σ H _ I h) λv s1 hZ=>?_
 obtain⟨x,H1,I1,r1,q1⟩:=hZ
 obtain⟨a,e,⟨xs,hq⟩,q⟩:=q1
 subst e
 cases r1
 obtain⟨its,rv,p,hz⟩:=I1.tuple hq
 refine wpAny_pyIter_tuple (show s1.heap.IsTuple a its.toArray from p) ?_
 refine⟨s1.heap.objs.size,[s1.heap.objs.size],_,_,H1,rfl,I1.kept (t':=s1.toks) λb o e=>En _ e,qA a _,⟨_,Ew _ rfl,rfl,rfl⟩,λb hb=>?_,q⟩
 have e:b=s1.heap.objs.size:=by simpa using hb
 subst e
 exact I1.sP (Ep _) (I1.hok.fresh (Ep _))
def vm{pins:List (Addr×Obj)}{σ:St}{H:Hp}{s:Shared}{R:It->Hp->Prop}{E:Value->Shared->Prop}{lo hi:Int}{t u v:Tok}{tk:Nat}(I:Inv X pins σ H s)(h1 : -(2 ^ 62)<=lo)(h2:lo<2 ^ 62)(h3 : -(2 ^ 62)<=hi)(h4:hi<2 ^ 62)
  (q:R (Ce lo (hi-lo).toNat) H):wpAny (model X.prog X.w) X.A (pyIter (.ref s.heap.objs.size)) (PIE X pins σ tg R) E { s with heap:=s.heap.push { cls:=.type "range",data:=.fields #[.int lo t,.int hi u,.int 1 v] },toks:=tk }:=by
 refine wpAny_pyIter_range (IsRange.new ..) (small_one h1 h2 h3 h4) ?_
 have I1:Inv X pins σ H { s with heap:=s.heap.push { cls:=.type "range",data:=.fields #[.int lo t,.int hi u,.int 1 v] },toks:=tk }:=I.kept λb o e=>En _ e
 refine⟨(s.heap.push { cls:=.type "range",data:=.fields #[.int lo t,.int hi u,.int 1 v] }).objs.size,[(s.heap.push { cls:=.type "range",data:=.fields #[.int lo t,.int hi u,.int 1 v] }).objs.size],_,_,H,rfl,
  I1.kept (t':=tk) λb o e=>En _ e,qD _ lo (hi-lo).toNat,?_,λb hb=>?_,q⟩
 ·have e1:lo+((0:Nat):Int)*1=lo:=by simp
  have e2:(((hi-lo).toNat:Nat):Int)-((0:Nat):Int)=Builtin.Range.rangeSize lo hi 1:=by rw[rangeSize_one];split <;> lia
  show IsRangeIter _ _ (lo+((0:Nat):Int)*1) ((((hi-lo).toNat:Nat):Int)-((0:Nat):Int)) 1
  rw[e1,e2]
  exact Ew _ rfl
 ·have e:b=(s.heap.push { cls:=.type "range",data:=.fields #[.int lo t,.int hi u,.int 1 v] }).objs.size:=by simpa using hb
  subst e
  exact I1.sP (Ep _) (I1.hok.fresh (Ep _))
def B1(ta:TA):TI:=λσ H R=>ta σ H λvs H1=>∃j:Int,vs=[.int j]/\-(2 ^ 62)<=j/\j<2 ^ 62/\R (Ce 0 j.toNat) H1
def lV{a:Expr}{ta:TA}{p pos:Pos}(hg:Gl X "range")(hm:X.mg "range"=none)(ha:PA X [a] ta)(hs:starEach [a] X.env=[(false,eval a X.env)]:=by rfl):PI X tg (.Call (.Name "range" p) [a] [] pos) (B1 ta):=by
 intro pins s σ H R I h
 refine Call_ (ir I hg hm boot_range (FZ (bo (ha pos pins s σ H _ I h) λus s1 hZ=>?_) hs rfl))
 obtain⟨vs,H1,I1,r1,q1⟩:=hZ
 obtain⟨j,e,q1,q2,q⟩:=q1
 subst e
 cases r1 with
 |cons r rr =>
  cases rr
  obtain⟨t,rfl⟩:=r
  exact call_range_1 (vm I1 (by lia) (by lia) q1 q2 (by simpa using q))
def Ej(wi:TI)(g:TG)(tb:TS):TS:=λD σ H=>wi σ H λJ H1=>∃W:Nat->Nat->St->Hp->Prop,(∃m,W 0 m σ H1)/\∀i m σ H,W i m σ H ->
 (J.stop i H/\D.nx σ H)\/(J.go i H/\∃N:St->Hp->Prop,(∀σ' H',N σ' H'->∃m',m'<m/\W (i+1) m' σ' H')/\∀x H',J.yld i H x H'->g x σ H' λσ2 H2=>tb { D with nx:=N,ct:=N,bk:=D.nx } σ2 H2)
def kq(fp:List Addr)(h:Heap):List (Addr×Obj):=fp.filterMap λb=>(h.get? b).map λo=>(b,o)
def fX{fp:List Addr}{h:Heap}{b:Addr}{o:Obj}(hb:b∈fp)(e:h.get? b=some o):(b,o)∈kq fp h:=List.mem_filterMap.mpr ⟨b,hb,by rw[e];rfl⟩
def tE{fp:List Addr}{h:Heap}{p:Addr×Obj}(hp:p∈kq fp h):p.1∈fp/\h.get? p.1=some p.2:=by
 obtain⟨b,hb,e⟩:=List.mem_filterMap.mp hp
 cases q:h.get? b with
 |none=>rw[q]at e;cases e
 |some o =>
  rw[q]at e
  have e':(b,o)=p:=EO e
  subst e'
  exact⟨hb,q⟩
def Inv.pinned{pins:List (Addr×Obj)}{σ:St}{H:Hp}{s:Shared}{fp:List Addr}(I:Inv X pins σ H s)(hf:∀b∈fp,gJ X pins H b)(ho:∀b∈fp,∃o,s.heap.get? b=some o/\∀v,o.data≠.cell v):Inv X (pins++kq fp s.heap) σ H s :=
 I.rW λp hp=>(EX.mp hp).elim (λz=>I.pin p (E7 _ z)) λz=>by
  obtain⟨hb,e⟩:=tE z
  obtain⟨f0,f1,f2,_⟩:=hf p.1 hb
  obtain⟨o,e',d⟩:=ho p.1 hb
  rw[e]at e';cases e'
  exact⟨e,f0,f1,f2,d⟩
def Inv.iX{pins pl:List (Addr×Obj)}{σ:St}{H:Hp}{s:Shared}(I:Inv X (pins++pl) σ H s):Inv X pins σ H s:=I.rW λp hp=>I.pin p (E7 _ (Fc _ hp))
def dU{iter:Expr}{body:List Stmt}{wi:TI}{g:TG}{tb:TS}{pos:Pos}(hp:PassesOwn (model X.prog X.w) X.A X.env X.xe)(hc:X.calm=true)(hi:PI X tg iter wi)(hg:PG X tg g)(hb:lK X body tb)
  (hs:∀x,foldedSetIterable iter X.env x=pure x:=by intro _;rfl):PS X (.For tg iter body [] pos) (Ej wi g tb):=by
 intro pins s σ H D I h
 refine wpAny_For (bo (hi pins s σ H _ I h) λv s1 h1=>bo h1 λitv s2 h2=>?_) hs
 obtain⟨it,fp,tn,J,H2,e,I2,T,st2,f2,W,⟨m0,w0⟩,turn⟩:=h2
 subst e
 have stat:∀{H':Hp},(∀b∈fp,H' b=none)->∀b∈fp,gJ X pins H' b:=λhn b hb=>⟨hn b hb,(f2 b hb).2⟩
 refine codeAny_forLoop_any (λn s'=>∃i σ' H',Inv X pins σ' H' s'/\tn i s'.heap/\(∀b∈fp,H' b=none)/\W i n σ' H') ?_ m0 ⟨0,σ,H2,I2,st2,λb hb=>(f2 b hb).1,w0⟩
 rintro n s3 ⟨i,σ3,H3,I3,st3,fr3,w3⟩
 rcases turn i n σ3 H3 w3 with⟨stop,qn⟩|⟨go,N,hN,step⟩
 ·refine Gr hp (bo (T.done X rfl rfl rfl hc i pins s3 σ3 H3 X.xe I3 (stat fr3) st3 stop) λr s4 hZ=>?_)
  obtain⟨hr,I4⟩:=hZ
  subst hr
  exact Ie ⟨σ3,H3,I4,qn⟩
 ·refine Gr hp (bo (T.item X rfl rfl rfl hc i pins s3 σ3 H3 X.xe I3 (stat fr3) st3 go) λr s4 hZ=>?_)
  obtain⟨u,hr,h4⟩:=hZ
  subst hr
  refine Gr hp (bo h4 λ_ s5 hZ=>?_)
  obtain⟨x,H5,I5,r5,y5,st5,fr5⟩:=hZ
  have I5':=I5.pinned (stat fr5) (T.obj _ _ st5)
  refine Gr hp (bo (hg _ s5 σ3 H5 x u _ I5' r5 (step x H5 y5)) λ_ s6 hZ=>?_)
  obtain⟨σ6,H6,I6,q6⟩:=hZ
  refine Gr hp (bo (hb _ s6 σ6 H6 _ I6 q6) λf s7 q7=>?_)
  have again:∀{σ7:St} {H7:Hp},Inv X (pins++kq fp s5.heap) σ7 H7 s7->N σ7 H7->∃m,m<n/\∃i σ' H',Inv X pins σ' H' s7/\tn i s7.heap/\(∀b∈fp,H' b=none)/\W i m σ' H':=λ{σ7 H7} I7 n7=>by
   obtain⟨m',hm,w7⟩:=hN σ7 H7 n7
   refine⟨m',hm,i+1,σ7,H7,I7.iX,T.keep _ _ _ st5 λb hb o e=>(I7.pin (b,o) (E7 _ (E7 _ (fX hb e)))).1,λb hb=>?_,w7⟩
   obtain⟨o,e,d⟩:=T.obj _ _ st5 b hb
   exact(I7.pin (b,o) (E7 _ (E7 _ (fX hb e)))).2.1
  cases f with
  |next=>obtain⟨σ7,H7,I7,n7⟩:=q7;exact again I7 n7
  |cont=>obtain⟨σ7,H7,I7,n7⟩:=q7;exact again I7 n7
  |brk=>obtain⟨σ7,H7,I7,q7⟩:=q7;exact⟨σ7,H7,I7.iX,q7⟩
  |ret v=>obtain⟨x7,σ7,H7,I7,r7,q7⟩:=q7;exact⟨x7,σ7,H7,I7.iX,r7,q7⟩
end
def cO{K:PySem.W.Frag}{a:Addr}{xs:List V}{g:TG}{tb:TS}{D:Ends}{σ:St}{H:Hp}(Pv:Nat->St->Hp->Prop)(h0:Pv 0 σ H)(hl:∀i σ H,i<=xs.length->Pv i σ H->aR K H a xs)
  (hs:∀i x σ H,xs[i]?=some x->Pv i σ H->g x σ H λσ2 H2=>tb { D with nx:=Pv (i+1),ct:=Pv (i+1),bk:=D.nx } σ2 H2) (hd:∀σ H,Pv xs.length σ H->D.nx σ H) :
  ∃W:Nat->Nat->St->Hp->Prop,(∃m,W 0 m σ H)/\∀i m σ H,W i m σ H ->
   ((A7 K a).stop i H/\D.nx σ H)\/((A7 K a).go i H/\∃N:St->Hp->Prop,(∀σ' H',N σ' H'->∃m',m'<m/\W (i+1) m' σ' H')/\∀x H',(A7 K a).yld i H x H'->g x σ H' λσ2 H2=>tb { D with nx:=N,ct:=N,bk:=D.nx } σ2 H2):=by
 refine⟨λi m σ H=>m=xs.length-i/\i<=xs.length/\Pv i σ H,⟨xs.length,by simp,EV _,h0⟩,?_⟩
 rintro i m σ H ⟨rfl,hi,p⟩
 have q:=hl i σ H hi p
 by_cases hlt:i<xs.length
 ·refine .inr ⟨⟨xs,xs[i],q,by simp[hlt]⟩,Pv (i+1),λσ' H' p'=>⟨xs.length-(i+1),by lia,rfl,hlt,p'⟩,λx H' y=>?_⟩
  obtain⟨e,y⟩:=y
  subst e
  exact hs i x σ _ (y xs q) p
 ·have e:i=xs.length:=by lia
  subst e
  exact .inl ⟨⟨xs,q,Ep _⟩,hd σ H p⟩
def x6{K:PySem.W.Frag}{a:Addr}{xs:List V}{g:TG}{tb:TS}{D:Ends}{σ:St}{H:Hp}(Pv:Nat->St->Hp->Prop)(h0:Pv 0 σ H)(hl:∀i σ H,i<=xs.length->Pv i σ H->cT K H a xs)
  (hs:∀i x σ H,xs[i]?=some x->Pv i σ H->g x σ H λσ2 H2=>tb { D with nx:=Pv (i+1),ct:=Pv (i+1),bk:=D.nx } σ2 H2) (hd:∀σ H,Pv xs.length σ H->D.nx σ H) :
  ∃W:Nat->Nat->St->Hp->Prop,(∃m,W 0 m σ H)/\∀i m σ H,W i m σ H ->
   ((A8 K a).stop i H/\D.nx σ H)\/((A8 K a).go i H/\∃N:St->Hp->Prop,(∀σ' H',N σ' H'->∃m',m'<m/\W (i+1) m' σ' H')/\∀x H',(A8 K a).yld i H x H'->g x σ H' λσ2 H2=>tb { D with nx:=N,ct:=N,bk:=D.nx } σ2 H2):=by
 refine⟨λi m σ H=>m=xs.length-i/\i<=xs.length/\Pv i σ H,⟨xs.length,by simp,EV _,h0⟩,?_⟩
 rintro i m σ H ⟨rfl,hi,p⟩
 have q:=hl i σ H hi p
 by_cases hlt:i<xs.length
 ·refine .inr ⟨⟨xs,xs[i],q,by simp[hlt]⟩,Pv (i+1),λσ' H' p'=>⟨xs.length-(i+1),by lia,rfl,hlt,p'⟩,λx H' y=>?_⟩
  obtain⟨e,y⟩:=y
  subst e
  exact hs i x σ _ (y xs q) p
 ·have e:i=xs.length:=by lia
  subst e
  exact .inl ⟨⟨xs,q,Ep _⟩,hd σ H p⟩
end L2
namespace L2
open PySem PySem.Spec PyProof.Rows
abbrev R2:=V->V->Hp->VK->Prop
def g9(X:Cx)(f:Value->Value->Sem Value)(r:R2):Prop :=
 ∀(pins:List (Addr×Obj)) (s:Shared) (σ:St) (H:Hp) (x y:V) (v u:Value) (Q:VK),Inv X pins σ H s->RelV x v->RelV y u->r x y H Q ->
  wpAny (model X.prog X.w) X.A (f v u) (EP X pins σ Q) X.xe s
def Dd(X:Cx)(f:Value->Sem Value)(r:V->Hp->VK->Prop):Prop :=
 ∀(pins:List (Addr×Obj)) (s:Shared) (σ:St) (H:Hp) (x:V) (v:Value) (Q:VK),Inv X pins σ H s->RelV x v->r x H Q ->
  wpAny (model X.prog X.w) X.A (f v) (EP X pins σ Q) X.xe s
def eM(X:Cx)(f:Value)(r:List V->Hp->VK->Prop):Prop :=
 ∀(pins:List (Addr×Obj)) (s:Shared) (σ:St) (H:Hp) (xs:List V) (us:List Value) (Q:VK),Inv X pins σ H s->Vals xs us->r xs H Q ->
  wpAny (model X.prog X.w) X.A (call f us) (EP X pins σ Q) X.xe s
def Cn(X:Cx)(r:V->Hp->(Bool->Hp->Prop)->Prop):Prop :=
 ∀(pins:List (Addr×Obj)) (s:Shared) (σ:St) (H:Hp) (x:V) (v:Value) (Q:Bool->Hp->Prop),Inv X pins σ H s->RelV x v->r x H Q ->
  wpAny (model X.prog X.w) X.A (truthy v) (TP X pins σ Q) X.xe s
def Bf(r:R2)(ta tb:TE):TE:=λσ H Q=>ta σ H λx H1=>tb σ H1 λy H2=>r x y H2 Q
def tUn(r:V->Hp->VK->Prop)(ta:TE):TE:=λσ H Q=>ta σ H λx H1=>r x H1 Q
inductive JI(C:Int->Int->Prop)(g:Int->Int->V)(x y:V)(H:Hp)(Q:VK):Prop
 |mk (i j:Int) (e1:x=.int i) (e2:y=.int j) (c:C i j) (k:Q (g i j) H)
inductive JI0(g:Int->Int->V)(x y:V)(H:Hp)(Q:VK):Prop
 |mk (i j:Int) (e1:x=.int i) (e2:y=.int j) (k:Q (g i j) H)
def rI(C:Int->Int->Prop)(g:Int->Int->V):R2:=JI C g
def xD(g:Int->Int->V):R2:=JI0 g
def rU(g:Int->V):V->Hp->VK->Prop:=λx H Q=>∃i,x=.int i/\Q (g i) H
section
variable {X:Cx}{a b c:Expr}{ta tb tc:TE}{pos:Pos}
def AM(ha:PE X a ta)(hb:PE X b tb){pins:List (Addr×Obj)}{s:Shared}{σ:St}{H:Hp}{R:V->V->Hp->Prop}(I:Inv X pins σ H s)
  (h:ta σ H λx H1=>tb σ H1 λy H2=>R x y H2) {Q:Value->Shared->Prop} {f:Value->Value->Sem Value}
  (hf:∀v u s2 x y H2,Inv X pins σ H2 s2->RelV x v->RelV y u->R x y H2->wpAny (model X.prog X.w) X.A (f v u) Q X.xe s2) :
  wpAny (model X.prog X.w) X.A (eval a X.env) (λv s₁=>wpAny (model X.prog X.w) X.A (eval b X.env) (λu s₂=>wpAny (model X.prog X.w) X.A (f v u) Q X.xe s₂) X.xe s₁) X.xe s:=by
 refine bo (ha pins s σ H _ I h) λv s1 hZ=>?_
 obtain⟨x,H1,I1,r1,q1⟩:=hZ
 refine bo (hb pins s1 σ H1 _ I1 q1) λu s2 hZ=>?_
 obtain⟨y,H2,I2,r2,q2⟩:=hZ
 exact hf v u s2 x y H2 I2 r1 r2 q2
def aK{op:Operator}{r:R2}(ho:g9 X (binaryOp op) r)(ha:PE X a ta)(hb:PE X b tb):PE X (.BinOp a op b pos) (Bf r ta tb):=by
 intro pins s σ H Q I h
 exact wpAny_BinOp (AM ha hb I h λv u s2 x y H2 I2 rx ry q=>ho pins s2 σ H2 x y v u Q I2 rx ry q)
def B9{op:UnaryOp}{r:V->Hp->VK->Prop}(ho:Dd X (unaryOp op) r)(ha:PE X a ta):PE X (.UnaryOp op a pos) (tUn r ta):=by
 intro pins s σ H Q I h
 exact UnaryOp_ (bo (ha pins s σ H _ I h) λv s1 ⟨x,H1,I1,r1,q1⟩=>ho pins s1 σ H1 x v Q I1 r1 q1)
def BR{f:Value->Value->Sem Value}{C:Int->Int->Prop}{g:Int->Int->Int}
  (rule:∀(i j:Int) (t u:Tok) (s:Shared) (Q:Value->Shared->Prop) (E:Value->Shared->Prop),C i j->Q (.int (g i j) s.toks) { s with toks:=s.toks+1 }->wpAny (model X.prog X.w) X.A (f (.int i t) (.int j u)) Q E s) :
  g9 X f (rI C λi j=>.int (g i j)):=by
 intro pins s σ H x y v u Q I rx ry h
 obtain⟨i,j,rfl,rfl,hc,q⟩:=h
 obtain⟨t,rfl⟩:=rx
 obtain⟨t',rfl⟩:=ry
 exact rule i j t t' s _ _ hc ⟨.int (g i j),H,I.tok _,⟨_,rfl⟩,q⟩
def xm{f:Value->Value->Sem Value}{g:Int->Int->Int}
  (rule:∀(i j:Int) (t u:Tok) (s:Shared) (Q:Value->Shared->Prop) (E:Value->Shared->Prop),Q (.int (g i j) s.toks) { s with toks:=s.toks+1 }->wpAny (model X.prog X.w) X.A (f (.int i t) (.int j u)) Q E s) :
  g9 X f (xD λi j=>.int (g i j)):=by
 intro pins s σ H x y v u Q I rx ry h
 obtain⟨i,j,rfl,rfl,q⟩:=h
 obtain⟨t,rfl⟩:=rx
 obtain⟨t',rfl⟩:=ry
 exact rule i j t t' s _ _ ⟨.int (g i j),H,I.tok _,⟨_,rfl⟩,q⟩
def Ap{f:Value->Value->Sem Value}{g:Int->Int->Bool}
  (rule:∀(i j:Int) (t u:Tok) (s:Shared) (Q:Value->Shared->Prop) (E:Value->Shared->Prop),Q (.bool (g i j)) s->wpAny (model X.prog X.w) X.A (f (.int i t) (.int j u)) Q E s) :
  g9 X f (xD λi j=>.bl (g i j)):=by
 intro pins s σ H x y v u Q I rx ry h
 obtain⟨i,j,rfl,rfl,q⟩:=h
 obtain⟨t,rfl⟩:=rx
 obtain⟨t',rfl⟩:=ry
 exact rule i j t t' s _ _ ⟨.bl (g i j),H,I,rfl,q⟩
def Di(i j:Int):Prop:=0<j/\j<1073741824
def Dt(i j:Int):Prop:=0<=j/\j<=1000000/\i.natAbs<2 ^ 64
def AZ(i j:Int):Prop:=(-(2 ^ 64)<i/\i<2 ^ 64)\/(-(2 ^ 64)<j/\j<2 ^ 64)
def AZ.ok{i j:Int}(h:AZ i j):IntMulOk i j:=by
 rcases h with⟨h1,h2⟩|⟨h1,h2⟩
 ·exact .of_left (intBits_le_64 h1 h2)
 ·exact .of_right (intBits_le_64 h1 h2)
def two_pow_nn(k:Nat):(0:Int)<=2 ^ k:=by
 rw[two_pow_cast]
 exact HE _
def gG:g9 X (binaryOp .Add) (xD λi j=>.int (i+j)):=xm λ_ _ _ _ _ _ _ q=>add_int q
def qa:g9 X (binaryOp .Sub) (xD λi j=>.int (i-j)):=xm λ_ _ _ _ _ _ _ q=>sub_int q
def p6:g9 X (binaryOp .Mult) (rI AZ λi j=>.int (i*j)):=BR λ_ _ _ _ _ _ _ hc q=>mul_int q hc.ok
def d8:g9 X (binaryOp .FloorDiv) (rI Di λi j=>.int (i / j)):=BR λi j _ _ _ _ _ hc q=>by
 have h1:(0:Int)<j:=hc.1
 have h2:j<1073741824:=hc.2
 exact floordiv_int (by lia) (by rw[IF i (by lia)];exact q) (.inl (PyProof.noPylong_small (by lia)))
def df:g9 X (binaryOp .Mod) (rI (λ_ j=>0<j) λi j=>.int (i % j)):=BR λi j _ _ _ _ _ hc q=>by
 have h1:(0:Int)<j:=hc
 exact mod_int' (by lia) (by rw[Int.fmod_eq_emod_of_nonneg i (by lia)];exact q)
def AR:g9 X (binaryOp .LShift) (rI Dt λi j=>.int (i*2 ^ j.toNat)):=BR λ_ _ _ _ _ _ _ hc q=>lshift_int_small hc.1 hc.2.1 hc.2.2 q
def zU:g9 X (binaryOp .RShift) (rI (λ_ j=>0<=j) λi j=>.int (i / 2 ^ j.toNat)):=BR λi j _ _ _ _ _ hc q =>
 rshift_int hc (by rw[IF i (two_pow_nn _)];exact q)
def vW:g9 X (binaryOp .BitAnd) (xD λi j=>.int (Builtin.bitAnd i j)):=xm λ_ _ _ _ _ _ _ q=>and_int q
def uG:g9 X (binaryOp .BitOr) (xD λi j=>.int (Builtin.bitOr i j)):=xm λ_ _ _ _ _ _ _ q=>or_int q
def A4:g9 X (binaryOp .BitXor) (xD λi j=>.int (Builtin.bitXor i j)):=xm λ_ _ _ _ _ _ _ q=>xor_int q
def unI{f:Value->Sem Value}{g:Int->Int}
  (rule:∀(i:Int) (t:Tok) (s:Shared) (Q:Value->Shared->Prop) (E:Value->Shared->Prop),Q (.int (g i) s.toks) { s with toks:=s.toks+1 }->wpAny (model X.prog X.w) X.A (f (.int i t)) Q E s) :
  Dd X f (rU λi=>.int (g i)):=by
 intro pins s σ H x v Q I rx h
 obtain⟨i,rfl,q⟩:=h
 obtain⟨t,rfl⟩:=rx
 exact rule i t s _ _ ⟨.int (g i),H,I.tok _,⟨_,rfl⟩,q⟩
def As:Dd X (unaryOp .USub) (rU λi=>.int (-i)):=unI λ_ _ _ _ _ q=>neg_int q
end
def Bz:V->V->Bool
 |.non,.non=>true|.non,.int _=>true|.int _,.non=>true|.non,.bl _=>true|.bl _,.non=>true|.non,.str _=>true|.str _,.non=>true
 |.int _,.int _=>true|.bl _,.bl _=>true|.str _,.str _=>true|.byt _,.byt _=>true
 |.int _,.str _=>true|.str _,.int _=>true|.bl _,.str _=>true|.str _,.bl _=>true
 |_,_=>false
def rEq:R2:=λx y H Q=>Bz x y=true/\Q (.bl (decide (x=y))) H
def rNe:R2:=λx y H Q=>Bz x y=true/\Q (.bl (!decide (x=y))) H
def r6{i j:Int}:decide (V.int i=V.int j)=(i==j):=by
 rw[Gs]
 simp
def vk{i j:Bool}:decide (V.bl i=V.bl j)=(i==j):=by
 rw[Gs]
 simp
def sf{i j:Str}:decide (V.str i=V.str j)=(i==j):=by
 rw[Gs]
 simp
def rq{i j:Array UInt8}:decide (V.byt i=V.byt j)=(i.toList==j.toList):=by
 rw[Gs]
 cases i
 cases j
 simp
section
variable {X:Cx}{a b c:Expr}{ta tb tc:TE}{pos:Pos}
def ba{pins:List (Addr×Obj)}{σ:St}{H:Hp}{s:Shared}{Q:VK}{k k':Bool}(I:Inv X pins σ H s)(q:Q (.bl k) H)(e:k=k'):EP X pins σ Q (.bool k') s:=by
 subst e
 exact⟨.bl k,H,I,rfl,q⟩
def iP:g9 X (compareOp .Eq) rEq:=by
 intro pins s σ H x y v u Q I rx ry h
 obtain⟨hs,q⟩:=h
 cases x with
 |non =>
  cases rx
  cases y with
  |non=>cases ry;exact PySem.EqNone.eq_none_none (ba I q (by simp))
  |bl j=>cases ry;exact PySem.EqNone.eq_none_bool (ba I q (by simp))
  |int j=>obtain⟨t',rfl⟩:=ry;exact PySem.EqNone.eq_none_int (ba I q (by simp))
  |str j=>obtain⟨t',rfl⟩:=ry;exact PySem.EqNone.eq_none_str (ba I q (by simp))
  |_=>exact absurd (show false=true from hs) EJ
 |bl i =>
  cases rx
  cases y with
  |non=>cases ry;exact PySem.EqNone.eq_bool_none (ba I q (by simp))
  |bl j=>cases ry;exact eq_bool (ba I q vk)
  |str j=>obtain⟨t',rfl⟩:=ry;exact PySem.EqMixed.eq_bool_str (ba I q (by simp))
  |_=>exact absurd (show false=true from hs) EJ
 |int i =>
  obtain⟨t,rfl⟩:=rx
  cases y with
  |non=>cases ry;exact PySem.EqNone.eq_int_none (ba I q (by simp))
  |int j=>obtain⟨t',rfl⟩:=ry;exact eq_int (ba I q r6)
  |str j=>obtain⟨t',rfl⟩:=ry;exact PySem.EqMixed.eq_int_str (ba I q (by simp))
  |_=>exact absurd (show false=true from hs) EJ
 |str i =>
  obtain⟨t,rfl⟩:=rx
  cases y with
  |non=>cases ry;exact PySem.EqNone.eq_str_none (ba I q (by simp))
  |bl j=>cases ry;exact PySem.EqMixed.eq_str_bool (ba I q (by simp))
  |int j=>obtain⟨t',rfl⟩:=ry;exact PySem.EqMixed.eq_str_int (ba I q (by simp))
  |str j=>obtain⟨t',rfl⟩:=ry;exact eq_str (ba I q sf)
  |_=>exact absurd (show false=true from hs) EJ
 |byt i =>
  obtain⟨t,rfl⟩:=rx
  cases y with
  |byt j=>obtain⟨t',rfl⟩:=ry;exact PySem.W.eq_bytes (ba I q rq)
  |_=>exact absurd (show false=true from hs) EJ
 |_=>cases y <;> exact absurd (show false=true from hs) EJ
def BJ:g9 X (compareOp .NotEq) rNe:=by
 intro pins s σ H x y v u Q I rx ry h
 obtain⟨hs,q⟩:=h
 cases x with
 |non =>
  cases rx
  cases y with
  |non=>cases ry;exact PySem.EqNone.ne_none_none (ba I q (by simp))
  |bl j=>cases ry;exact PySem.EqNone.ne_none_bool (ba I q (by simp))
  |int j=>obtain⟨t',rfl⟩:=ry;exact PySem.EqNone.ne_none_int (ba I q (by simp))
  |str j=>obtain⟨t',rfl⟩:=ry;exact PySem.EqNone.ne_none_str (ba I q (by simp))
  |_=>exact absurd (show false=true from hs) EJ
 |bl i =>
  cases rx
  cases y with
  |non=>cases ry;exact PySem.EqNone.ne_bool_none (ba I q (by simp))
  |bl j=>cases ry;exact ne_bool (ba I q (Gz not vk))
  |str j=>obtain⟨t',rfl⟩:=ry;exact PySem.EqMixed.ne_bool_str (ba I q (by simp))
  |_=>exact absurd (show false=true from hs) EJ
 |int i =>
  obtain⟨t,rfl⟩:=rx
  cases y with
  |non=>cases ry;exact PySem.EqNone.ne_int_none (ba I q (by simp))
  |int j=>obtain⟨t',rfl⟩:=ry;exact ne_int (ba I q (Gz not r6))
  |str j=>obtain⟨t',rfl⟩:=ry;exact PySem.EqMixed.ne_int_str (ba I q (by simp))
  |_=>exact absurd (show false=true from hs) EJ
 |str i =>
  obtain⟨t,rfl⟩:=rx
  cases y with
  |non=>cases ry;exact PySem.EqNone.ne_str_none (ba I q (by simp))
  |bl j=>cases ry;exact PySem.EqMixed.ne_str_bool (ba I q (by simp))
  |int j=>obtain⟨t',rfl⟩:=ry;exact PySem.EqMixed.ne_str_int (ba I q (by simp))
  |str j=>obtain⟨t',rfl⟩:=ry;exact ne_str (ba I q (Gz not sf))
  |_=>exact absurd (show false=true from hs) EJ
 |byt i =>
  obtain⟨t,rfl⟩:=rx
  cases y with
  |byt j=>obtain⟨t',rfl⟩:=ry;exact PySem.W.ne_bytes (ba I q (Gz not rq))
  |_=>exact absurd (show false=true from hs) EJ
 |_=>cases y <;> exact absurd (show false=true from hs) EJ
def wq:g9 X (compareOp .Lt) (xD λi j=>.bl (decide (i<j))):=Ap λ_ _ _ _ _ _ _ q=>lt_int q
def mm:g9 X (compareOp .LtE) (xD λi j=>.bl (decide (i<=j))):=Ap λ_ _ _ _ _ _ _ q=>le_int q
def BC:g9 X (compareOp .Gt) (xD λi j=>.bl (decide (j<i))):=Ap λ_ _ _ _ _ _ _ q=>gt_int q
def ub:g9 X (compareOp .In) (λx y H Q=>∃i j,x=.str i/\y=.str j/\Q (.bl (!(Builtin.Str.occurrences j i 0 j.length 1).isEmpty)) H):=by
 intro pins s σ H x y v u Q I rx ry h
 obtain⟨i,j,rfl,rfl,q⟩:=h
 obtain⟨t,rfl⟩:=rx
 obtain⟨t',rfl⟩:=ry
 exact in_str (ba I q rfl)
def cu(b:Expr){op:CmpOp}(h:op≠.In:=by decide)(h2:op≠.NotIn:=by decide):behindInMarks op b=false:=by
 have e1:(op==CmpOp.In)=false:=by cases op <;> first|rfl|exact absurd rfl h
 have e2:(op==CmpOp.NotIn)=false:=by cases op <;> first|rfl|exact absurd rfl h2
 cases b <;> simp[behindInMarks,e1,e2]
def dZ{op:CmpOp}{r:R2}(ho:g9 X (compareOp op) r)(ha:PE X a ta)(hb:PE X b tb)(hm:behindInMarks op b=false):PE X (.Compare a [op] [b] pos) (Bf r ta tb):=by
 intro pins s σ H Q I h
 exact wpAny_Compare1 (AM ha hb I h λv u s2 x y H2 I2 rx ry q=>ho pins s2 σ H2 x y v u Q I2 rx ry q) hm
def zq(t:TE):TT:=λσ H Q=>t σ H (JB Q)
def bH{op:CmpOp}{r:R2}(ho:g9 X (compareOp op) r)(ha:PE X a ta)(hb:PE X b tb)(hm:behindInMarks op b=false):PT X (.Compare a [op] [b] pos) (zq (Bf r ta tb)):=by
 intro pins s σ H Q I h
 refine wpAny_isTrue_Compare1 (bo (ha pins s σ H _ I h) λv s1 ⟨x,H1,I1,r1,q1⟩=>bo (hb pins s1 σ H1 _ I1 q1) λu s2 ⟨y,H2,I2,r2,q2⟩ =>
  bo (ho pins s2 σ H2 x y v u _ I2 r1 r2 q2) λc s3 ⟨z,H3,I3,r3,k,e,q3⟩=>?_) hm
 subst e
 cases r3
 exact FD ⟨H3,I3,q3⟩
def vb(r r':R2)(ta tb tc:TE):TE:=λσ H Q=>ta σ H λx H1=>tb σ H1 λy H2=>r x y H2 λz H3=>∃k,z=.bl k /\
 (if k=true then tc σ H3 λw' H4=>r' y w' H4 Q else Q (.bl false) H3)
def wj{op op':CmpOp}{r r':R2}(ho:g9 X (compareOp op) r)(ho':g9 X (compareOp op') r')(ha:PE X a ta)(hb:PE X b tb)(hc:PE X c tc)
  (hm:lastMarks [op,op'] [b,c]=false:=by with_unfolding_all rfl):PE X (.Compare a [op,op'] [b,c] pos) (vb r r' ta tb tc):=by
 intro pins s σ H Q I h
 refine Compare_chain (bo (ha pins s σ H _ I h) λv s1 ⟨x,H1,I1,r1,q1⟩=>chain_link (bo (hb pins s1 σ H1 _ I1 q1) λu s2 ⟨y,H2,I2,r2,q2⟩ =>
  bo (ho pins s2 σ H2 x y v u _ I2 r1 r2 q2) λd s3 ⟨z,H3,I3,r3,k,e,q3⟩=>?_)) hm
 subst e
 cases r3
 refine FD ?_
 cases k with
 |false=>exact ite_ff ⟨.bl false,H3,I3,rfl,q3⟩
 |true=>exact ite_tt (chain_last (bo (hc pins s3 σ H3 _ I3 q3) λw' s4 ⟨z',H4,I4,r4,q4⟩=>ho' pins s4 σ H4 y z' u w' Q I4 r2 r4 q4))
def wz{op op':CmpOp}{r r':R2}(ho:g9 X (compareOp op) r)(ho':g9 X (compareOp op') r')(ha:PE X a ta)(hb:PE X b tb)(hc:PE X c tc)
  (hm:lastMarks [op,op'] [b,c]=false:=by with_unfolding_all rfl):PT X (.Compare a [op,op'] [b,c] pos) (zq (vb r r' ta tb tc)):=by
 intro pins s σ H Q I h
 refine isTrue_chain (bo (ha pins s σ H _ I h) λv s1 ⟨x,H1,I1,r1,q1⟩=>test_link (bo (hb pins s1 σ H1 _ I1 q1) λu s2 ⟨y,H2,I2,r2,q2⟩ =>
  bo (ho pins s2 σ H2 x y v u _ I2 r1 r2 q2) λd s3 ⟨z,H3,I3,r3,k,e,q3⟩=>?_)) hm
 subst e
 cases r3
 refine FD ?_
 cases k with
 |false =>
  obtain⟨k',e',q'⟩:=q3
  cases e'
  exact ite_ff ⟨H3,I3,q'⟩
 |true =>
  refine ite_tt (test_last (bo (hc pins s3 σ H3 _ I3 q3) λw' s4 ⟨z',H4,I4,r4,q4⟩=>bo (ho' pins s4 σ H4 y z' u w' _ I4 r2 r4 q4) λd' s5 hZ=>?_))
  obtain⟨z2,H5,I5,r5,k2,e2,q5⟩:=hZ
  subst e2
  cases r5
  exact FD ⟨H5,I5,q5⟩
def Bd(K:PySem.W.Frag)(x:V)(H:Hp)(k:Bool):Prop :=
 match x with
 |.non=>k=false
 |.bl b=>k=b
 |.int i=>k=(i != 0)
 |.str y=>y.length<=sizeLine/\k=((y.length:Int) != 0)
 |.byt y=>y.size<=sizeLine/\k=((y.size:Int) != 0)
 |.ref p=>(∃xs,aR K H p xs/\k = !xs.isEmpty)\/(∃xs,cT K H p xs/\k = !xs.isEmpty)\/∃kvs,H p=some (.dK kvs)/\k = !kvs.isEmpty
 |_=>False
def qR{κ:Type}{kvs:List (κ×V)}{vs:List (κ×Value)}(r:KV kvs vs):(!vs.isEmpty) = !kvs.isEmpty:=by
 cases r <;> rfl
def kK{xs:List V}{its:List Value}(r:Vals xs its):(!its.toArray.isEmpty) = !xs.isEmpty:=by
 cases r <;> simp
def jj:(sizeLine:Nat)<2 ^ 63:=by rw[E3];decide
def A3:Cn X (λx H Q=>∃k,Bd X.K x H k/\Q k H):=by
 intro pins s σ H x v Q I rx h
 obtain⟨k,e,q⟩:=h
 have hl:=jj
 have hs:sizeLine=16777216:=E3
 cases x with
 |non =>
  cases rx
  have e':k=false:=e
  subst e'
  exact truthy_none ⟨H,I,q⟩
 |bl b =>
  cases rx
  have e':k=b:=e
  subst e'
  exact FD ⟨H,I,q⟩
 |int i =>
  obtain⟨t,rfl⟩:=rx
  have e':k=(i != 0):=e
  subst e'
  exact PySem.P.truthy_int ⟨H,I,q⟩
 |str y =>
  obtain⟨t,rfl⟩:=rx
  obtain⟨hy,e'⟩:y.length<=sizeLine/\k=((y.length:Int) != 0):=e
  subst e'
  exact PySem.P.truthy_str (by lia) ⟨H,I.tok _,q⟩
 |byt y =>
  obtain⟨t,rfl⟩:=rx
  obtain⟨hy,e'⟩:y.size<=sizeLine/\k=((y.size:Int) != 0):=e
  subst e'
  exact PySem.W.truthy_bytes (by lia) ⟨H,I.tok _,q⟩
 |ref p =>
  cases rx
  have e':(∃xs,aR X.K H p xs/\k = !xs.isEmpty)\/(∃xs,cT X.K H p xs/\k = !xs.isEmpty)\/∃kvs,H p=some (.dK kvs)/\k = !kvs.isEmpty:=e
  rcases e' with⟨xs,hx,e'⟩|⟨xs,hx,e'⟩|⟨kvs,hx,e'⟩
  ·subst e'
   obtain⟨its,r,pl,hz⟩:=I.list hx
   have hlen:=r.length
   exact wpAny_truthy_list pl.isList (by simp only[ED];lia) ⟨H,I.tok _,by rw[kK r];exact q⟩
  ·subst e'
   obtain⟨its,r,pl,hz⟩:=I.tuple hx
   have hlen:=r.length
   exact truthy_tuple pl (by simp only[ED];lia) ⟨H,I.tok _,by rw[kK r];exact q⟩
  ·subst e'
   obtain⟨hz,hS,vs,r,m⟩:kvs.length<=sizeLine/\(p==sysModules)=false/\∃vs,KV kvs vs/\s.heap.DictOf (aU X.prog X.w) p vs:=I.hok p _ hx
   have hlen:kvs.length=vs.length:=EW r
   exact wpAny_truthy_dict hS m (by lia) ⟨H,I.tok _,by rw[qR r];exact q⟩
 |_=>exact(show False from e).elim
def oh(ha:PE X a ta)(he:∀whole,isTrue a X.env whole=(do let v <-whole;standAt a.pos;holding [v] (truthy v))) :
  PT X a (λσ H Q=>ta σ H λx H'=>∃k,Bd X.K x H' k/\Q k H'):=by
 intro pins s σ H Q I h
 exact isTrue_plain (bo (ha pins s σ H _ I h) λv s1 ⟨x,H1,I1,r1,q1⟩=>A3 pins s1 σ H1 x v Q I1 r1 q1) (he _)
def kO:g9 X (binaryOp .Add) (λx y H Q=>∃i j,x=.str i/\y=.str j/\i.length+j.length<=sizeLine/\Q (.str (i++j)) H):=by
 intro pins s σ H x y v u Q I rx ry h
 obtain⟨i,j,rfl,rfl,hz,q⟩:=h
 obtain⟨t,rfl⟩:=rx
 obtain⟨t',rfl⟩:=ry
 exact add_str (λt' tk=>⟨.str (i++j),H,I.tok _,⟨_,rfl⟩,q⟩) hz
def vals1{x:V}{us:List Value}(r:Vals [x] us):∃u,us=[u]/\RelV x u:=by
 cases r with
 |cons r1 r2=>cases r2;exact⟨_,rfl,r1⟩
def vals2{x y:V}{us:List Value}(r:Vals [x,y] us):∃u w',us=[u,w']/\RelV x u/\RelV y w':=by
 cases r with
 |cons r1 r2 =>
  cases r2 with
  |cons r3 r4=>cases r4;exact⟨_,_,rfl,r1,r3⟩
def C5(K:PySem.W.Frag)(x:V)(H:Hp)(n:Nat):Prop :=
 match x with
 |.str y=>y.length<=sizeLine/\n=y.length
 |.byt y=>y.size<=sizeLine/\n=y.size
 |.ref p=>(∃xs,aR K H p xs/\n=xs.length)\/∃xs,cT K H p xs/\n=xs.length
 |_=>False
inductive DJ(K:PySem.W.Frag)(xs:List V)(H:Hp)(Q:VK):Prop
 |mk (x:V) (n:Nat) (e:xs=[x]) (l:C5 K x H n) (k:Q (.int n) H)
def bu:eM X (.builtin "len") (DJ X.K):=by
 intro pins s σ H xs us Q I r h
 obtain⟨x,n,rfl,e,q⟩:=h
 obtain⟨u,rfl,rx⟩:=vals1 r
 have hl:=jj
 have hs:sizeLine=16777216:=E3
 cases x with
 |str y =>
  obtain⟨t,rfl⟩:=rx
  obtain⟨hy,e'⟩:y.length<=sizeLine/\n=y.length:=e
  subst e'
  exact len_str (by lia) ⟨.int _,H,I.tok _,⟨_,rfl⟩,q⟩
 |byt y =>
  obtain⟨t,rfl⟩:=rx
  obtain⟨hy,e'⟩:y.size<=sizeLine/\n=y.size:=e
  subst e'
  exact PySem.W.len_bytes (by lia) ⟨.int _,H,I.tok _,⟨_,rfl⟩,q⟩
 |ref p =>
  cases rx
  have e':(∃xs,aR X.K H p xs/\n=xs.length)\/∃xs,cT X.K H p xs/\n=xs.length:=e
  rcases e' with⟨xs,hx,e'⟩|⟨xs,hx,e'⟩
  ·subst e'
   obtain⟨its,r',pl,hz⟩:=I.list hx
   have hlen:=r'.length
   exact Calls.call_len_list pl.isList (by simp only[ED];lia) ⟨.int xs.length,H,I.tok _,⟨_,by simp only[ED];rw[hlen]⟩,q⟩
  ·subst e'
   obtain⟨its,r',pl,hz⟩:=I.tuple hx
   have hlen:=r'.length
   exact len_tuple pl (by simp only[ED];lia) ⟨.int xs.length,H,I.tok _,⟨_,by simp only[ED];rw[hlen]⟩,q⟩
 |_=>exact(show False from e).elim
end
end L2
namespace L2
open PySem PySem.Spec PyProof.Rows
structure qm(h:Heap)(x dx C:Addr)(mA:Str->Option Value):Prop where
 obj:h.get? x=some (PySem.W.instObj C dx)
 ns:h.Ns1 dx mA
 ne:dx≠x
def jg{h:Heap}{dx:Addr}{mA:Str->Option Value}(n:h.Ns1 dx mA):∃od,h.get? dx=some od/\∀name,PySem.W.lookIn name od=some (mA name):=by
 obtain⟨o,es,ep,ho,hd,hk,_,hm⟩:=n
 refine⟨o,ho,λname=>?_⟩
 have e:=hm name
 unfold nsFind findBy at e
 rw[<-Array.find?_toList]at e
 unfold PySem.W.lookIn
 rw[hd]
 dsimp only
 split
 ·rename_i y q
  rw[q]at e
  exact Gz some e
 ·rename_i q
  rw[q]at e
  have a:es.toList.any (·.refKey)=false:=by
   rw[List.any_eq_false]
   intro y hy
   obtain⟨z,t,hkey⟩:=hk y (Array.mem_toList_iff.mp hy)
   simp[DictEntry.refKey,hkey]
  have a':¬es.toList.any (·.refKey)=true:=by rw[a];exact EJ
  rw[Ex a']
  exact Gz some e
def qm.look{h:Heap}{x dx C:Addr}{mA:Str->Option Value}(I:qm h x dx C mA):∃od,PySem.W.InstAt h x (PySem.W.instObj C dx) C (some od)/\∀name,PySem.W.lookIn name od=some (mA name) :=
 let ⟨od,ho,hl⟩:=jg I.ns
 ⟨od,⟨I.obj,rfl,rfl,ho⟩,hl⟩
section
variable {prog:Program}{w:World}{A:Around}{E:Value->Shared->Prop}{s:Shared}{K:PySem.W.Frag}{x dx C f:Addr}{mA:Str->Option Value}{name:Str}{v:Value}
def get_map{expr:Bool}{Q:Value->Shared->Prop}(X:K.In s.heap)(I:qm s.heap x dx C mA)(hg:PySem.W.plainGet K C name=true)(hh:PySem.W.hasDictIn K C=true)
  (ha:PySem.W.findIn K (.ref C) name=some none) (hv:mA name=some v) (hv':PySem.W.handedIn v=true) (h:Q v { s with toks:=s.toks+1 }) :
  wpAny (model prog w) A (getAttr (.ref x) name expr) Q E s:=by
 obtain⟨od,J,hl⟩:=I.look
 exact PySem.W.get_value X J (Ip hg).1 (JE hh ha rfl (by rw[hl,hv])) hv' h
def uQ{pl:Sem Bool}{Q:Value×List Value->Shared->Prop}(X:K.In s.heap)(I:qm s.heap x dx C mA)(hg:PySem.W.plainGet K C name=true)
  (hf:PySem.W.findIn K (.ref C) name=some (some (.ref f))) (ht:PySem.W.isFn K (.ref f)=true) (hv:mA name=none) (h:Q (.ref f,[.ref x]) s) :
  wpAny (model prog w) A (getMethod (.ref x) name pl) Q E s:=by
 obtain⟨od,J,hl⟩:=I.look
 exact PySem.W.method_fn X J (Ip hg).1 (Ip hg).2 hf (Hc.mp ht) (by show(PySem.W.lookIn name od).map (·.isSome)=some false;rw[hl,hv];rfl) h
def yx{ns:List Str}{Q:Unit->Shared->Prop}(X:K.In s.heap)(I:qm s.heap x dx C mA)
  (hs:PySem.W.findIn K (.ref C) "__setattr__"=some (some (.builtin "object.__setattr__"))) (hp:PySem.W.plainOver K C=true) (ht:PySem.W.takerIn K C name=some none) (hh:PySem.W.hasDictIn K C=true)
  (hw:PySem.Within mA ns) (hsz:ns.length<=sizeLine)
  (h:∀h',qm h' x dx C (λy=>if y=name then some v else mA y)->Heap.SameBut dx s.heap h'->Q () { s with heap:=h',toks:=s.toks+2 }) :
  wpAny (model prog w) A (setAttr (.ref x) name v) Q E s:=by
 obtain⟨od,J,hl⟩:=I.look
 refine PySem.W.set_plain X J hs (PySem.W.osa_open (s:={ s with toks:=s.toks+1 }) (r:=none) X J hp ht λb=>?_)
 obtain⟨cd,hc,hd'⟩:=GO hh
 have hx:s.heap.get? x=some ⟨.ref C,some dx,.plain,#[]⟩:=I.obj
 refine Em (Eo (Em (Em (Jq hx (Em (PySem.W.Looks.here (s:={ s with toks:=s.toks+1 }) (Iq X hc) ?_))))))
 rw[hd']
 refine Eo (a:=some dx) (Em (Eo (Em ?_)))
 refine wpAny_nsSet1 (s:={ s with toks:=s.toks+1 }) I.ns λh' hn2 hs2=>?_
 obtain⟨oD,esD,epD,hoD,hdD,hcD⟩:=hn2.count (PySem.Within.cons name v hw)
 refine Em (wpAny_lookBehind hoD (by rw[hdD];exact pastItsLine_dict (ET hcD (by rw[ER];lia))) ?_)
 exact Eo (h _ ⟨(hs2.2 _ (E2 I.ne)).trans I.obj,hn2,I.ne⟩ hs2)
def o5{R:Result->Shared->Prop}{vs:List Value}{kw:List (Str×Value)}(X:K.In s.heap)(hm:PySem.W.makesIn K C=true)
  (hi:PySem.W.findIn K (.ref C) "__init__"=some (some (.ref f))) (hf:PySem.W.typeIn K (.ref f)=some (.type "function"))
  (h:codeAny (model prog w) (A.under (.builtin "type.__call__" ⟨.ref C :: vs,kw⟩)) (.call (.ref f) ⟨.ref (s.heap.objs.size + 1) :: vs,kw⟩) (PySem.W.InitBack (s.heap.objs.size + 1) R)
   { s with heap:=(s.heap.push PySem.W.emptyDict).push (PySem.W.instObj C s.heap.objs.size) }) :
  codeAny (model prog w) A (.call (.ref C) ⟨vs,kw⟩) R s:=by
 obtain⟨hh,g,d,t,os⟩:=s
 exact PySem.W.make_core (PySem.W.makes_of X hm) (Gf X hi) (λself=>PySem.W.bind_fn X self hf) (.inl rfl) h
end
def aQ(f:Str)(v:V):List (Str×V)->List (Str×V)
 |[]=>[(f,v)]
 |(g,x)::r=>if g=f then(g,v)::r else(g,x)::aQ f v r
theorem aA(f g:Str)(v:V):∀fs:List (Str×V),(aQ f v fs).lookup g=if g=f then some v else fs.lookup g
 |[]=>by
  show List.lookup g [(f,v)]=_
  by_cases h:g=f
  ·have hb:(g==f)=true:=Hc.mpr h
   simp only[List.lookup,hb,EG h]
  ·have hb:(g==f)=false:=FC.mpr h
   simp only[List.lookup,hb,Ex h]
 |(k,x)::r=>by
  have ih:=aA f g v r
  rw[show aQ f v ((k,x)::r)=(if k=f then(k,v)::r else(k,x)::aQ f v r) from rfl]
  by_cases hk:k=f
  ·rw[EG hk]
   by_cases h:g=k
   ·have hb:(g==k)=true:=Hc.mpr h
    simp only[List.lookup,hb,EG (h.trans hk)]
   ·have hb:(g==k)=false:=FC.mpr h
    simp only[List.lookup,hb,Ex (λe:g=f=>h (e.trans hk.symm))]
  ·rw[Ex hk]
   by_cases h:g=k
   ·have hb:(g==k)=true:=Hc.mpr h
    simp only[List.lookup,hb,Ex (λe:g=f=>hk (h.symm.trans e))]
   ·have hb:(g==k)=false:=FC.mpr h
    simp only[List.lookup,hb]
    exact ih
theorem jn(f:Str)(v:V):∀fs:List (Str×V),f∈(aQ f v fs).map (·.1)/\∀g,g∈fs.map (·.1)->g∈(aQ f v fs).map (·.1)
 |[]=>⟨by simp[aQ],λg h=>by simp at h⟩
 |(k,x)::r=>by
  obtain⟨i1,i2⟩:=jn f v r
  rw[show aQ f v ((k,x)::r)=(if k=f then(k,v)::r else(k,x)::aQ f v r) from rfl]
  by_cases hk:k=f
  ·rw[EG hk]
   subst hk
   exact⟨by simp,λg h=>by simpa using h⟩
  ·rw[Ex hk]
   refine⟨?_,λg h=>?_⟩
   ·rw[Ff]
    exact EK _ i1
   ·rw[Ff]at h ⊢
    rcases EB.mp h with e|e
    ·exact EB.mpr (.inl e)
    ·exact EK _ (i2 g e)
theorem jz(f:Str)(v:V):∀fs:List (Str×V),(aQ f v fs).length<=fs.length+1
 |[]=>by simp[aQ]
 |(k,x)::r=>by
  have ih:=jz f v r
  rw[show aQ f v ((k,x)::r)=(if k=f then(k,v)::r else(k,x)::aQ f v r) from rfl]
  by_cases hk:k=f
  ·rw[EG hk,ER,ER];lia
  ·rw[Ex hk,ER,ER];lia
def gb.some_of{v:V}{o:Option Value}(r:gb (some v) o):∃u,o=some u/\RelV v u:=by
 cases o with
 |none=>exact(show False from r).elim
 |some u=>exact⟨u,rfl,r⟩
def gb.none_of{o:Option Value}(r:gb none o):o=none:=by
 cases o with
 |none=>rfl
 |some u=>exact(show False from r).elim
def sH{v:V}{u:Value}(r:RelV v u):PySem.W.handedIn u=true:=by
 cases v with
 |non=>cases (show u=Value.none from r);rfl
 |bl b=>cases (show u=Value.bool b from r);rfl
 |int i=>obtain⟨t,e⟩:=(show ∃t,u=Value.int i t from r);cases e;rfl
 |str x=>obtain⟨t,e⟩:=(show ∃t,u=Value.str x t from r);cases e;rfl
 |byt b=>obtain⟨t,e⟩:=(show ∃t,u=Value.bytes b t from r);cases e;rfl
 |flt b=>obtain⟨t,e⟩:=(show ∃t,u=Value.float b t from r);cases e;rfl
 |ref a=>cases (show u=Value.ref a from r);rfl
 |ty n=>cases (show u=Value.type n from r);rfl
section
variable {P:Program}{w:World}{H H':Hp}{h h':Heap}{a C dx:Addr}{fs fs':List (Str×V)}
def jV(hok:gF P w H h)(e:H a=some (.ins C dx fs)):∃mA,qm h a dx C mA/\(∀f,gb (fs.lookup f) (mA f))/\PySem.Within mA (fs.map (·.1))/\fs.length<=1000/\H dx=some (.own a):=by
 obtain⟨d,z,ne,ob,mA,n,r,q⟩:=(show bc P w H h a (.ins C dx fs) from hok a _ e)
 exact⟨mA,⟨ob,n,ne⟩,r,q,z,d⟩
end
structure uv(K:PySem.W.Frag)(C:Addr):Prop where
 pg:PySem.W.plainGet K C Str.empty=true
 hd:PySem.W.hasDictIn K C=true
 po:PySem.W.plainOver K C=true
 sa:PySem.W.findIn K (.ref C) "__setattr__"=some (some (.builtin "object.__setattr__"))
def uv.get{K:PySem.W.Frag}{C:Addr}(c:uv K C)(f:Str):PySem.W.plainGet K C f=true:=c.pg
def bV(K:PySem.W.Frag)(C:Addr)(f:Str):Prop:=PySem.W.findIn K (.ref C) f=some none
def bV.BZ{K:PySem.W.Frag}{C:Addr}{f:Str}(n:bV K C f):PySem.W.takerIn K C f=some none:=by
 unfold PySem.W.takerIn
 rw[show PySem.W.findIn K (.ref C) f=some none from n]
 rfl
structure Meth(K:PySem.W.Frag)(C:Addr)(m:Str)(f:Addr):Prop where
 at_:PySem.W.findIn K (.ref C) m=some (some (.ref f))
 fn:PySem.W.isFn K (.ref f)=true
 kp:PySem.W.keepIn K (.ref f)=true
section
variable {X:Cx}{pins:List (Addr×Obj)}{σ:St}{H:Hp}{s:Shared}{a C dx:Addr}{fs:List (Str×V)}{f:Str}{v:V}{A:Around}{E:Value->Shared->Prop}
def qw{b:Bool}{Q:Value->Shared->Prop}(I:Inv X pins σ H s)(e:H a=some (.ins C dx fs))(c:uv X.K C)(n:bV X.K C f)(l:fs.lookup f=some v)
  (h:∀u s',Inv X pins σ H s'->RelV v u->Q u s'):wpAny (model X.prog X.w) A (getAttr (.ref a) f b) Q E s:=by
 obtain⟨mA,O,r,_,_,_⟩:=jV I.hok e
 obtain⟨u,hu,ru⟩:=gb.some_of (v:=v) (o:=mA f) (by rw[<-l];exact r f)
 exact get_map I.eD O (c.get f) c.hd n hu (sH ru) (h u _ (I.tok _) ru)
def ko{m:Str}{g:Addr}{pl:Sem Bool}{Q:Value×List Value->Shared->Prop}(I:Inv X pins σ H s)(e:H a=some (.ins C dx fs))(c:uv X.K C)(k:Meth X.K C m g)(l:fs.lookup m=none)
  (h:Q (.ref g,[.ref a]) s):wpAny (model X.prog X.w) A (getMethod (.ref a) m pl) Q E s:=by
 obtain⟨mA,O,r,_,_,_⟩:=jV I.hok e
 have hn:mA m=none:=gb.none_of (by rw[<-l];exact r m)
 exact uQ I.eD O (c.get m) k.at_ k.fn hn h
def qx{y:V}{u:Value}{Q:Unit->Shared->Prop}(I:Inv X pins σ H s)(e:H a=some (.ins C dx fs))(c:uv X.K C)(n:bV X.K C f)(hl:fs.length<1000)(ry:RelV y u)
  (h:∀s',Inv X pins σ (upd H a (.ins C dx (aQ f y fs))) s'->Q () s'):wpAny (model X.prog X.w) A (setAttr (.ref a) f u) Q E s:=by
 obtain⟨mA,O,r,wi,_,ho⟩:=jV I.hok e
 have hz:(fs.map (·.1)).length<=sizeLine:=by rw[Et,E3];lia
 refine yx I.eD O c.sa c.po n.BZ c.hd wi hz λh' O' sb=>h _ ?_
 have hd:∃o,h'.get? dx=some o:=let ⟨o,_,_,e',_⟩:=O'.ns;⟨o,e'⟩
 refine I.write (x:=a) (e:=dx) (by rw[e];exact True.intro) (.inr ho) (λb q hb z=>(sb.2 b hb).trans z) hd ?_
 refine⟨by rw[af O.ne];exact ho,?_,O.ne,O'.obj,_,O'.ns,λg=>?_,λg hg=>?_⟩
 ·have:=jz f y fs;lia
 ·show gb ((aQ f y fs).lookup g) (if g=f then some u else mA g)
  rw[aA]
  by_cases q:g=f
  ·rw[EG q,EG q];exact ry
  ·rw[Ex q,Ex q];exact r g
 ·by_cases q:g=f
  ·rw[q];exact(jn f y fs).1
  ·refine(jn f y fs).2 g (wi g λz=>hg ?_)
   show(if g=f then some u else mA g)=none
   rw[Ex q];exact z
def Inv.made(I:Inv X pins σ H s):Inv X pins σ (upd (upd H s.heap.objs.size (.own (s.heap.objs.size+1))) (s.heap.objs.size+1) (.ins C s.heap.objs.size []))
  { s with heap:=(s.heap.push PySem.W.emptyDict).push (PySem.W.instObj C s.heap.objs.size) }:=by
 have e1:(s.heap.push PySem.W.emptyDict).get? s.heap.objs.size=some PySem.W.emptyDict:=Ew s.heap rfl
 have e2:((s.heap.push PySem.W.emptyDict).push (PySem.W.instObj C s.heap.objs.size)).get? (s.heap.objs.size+1)=some (PySem.W.instObj C s.heap.objs.size):=by
  have:=Ew (s.heap.push PySem.W.emptyDict) (o:=PySem.W.instObj C s.heap.objs.size) rfl
  rwa[Fh]at this
 have e3:(s.heap.push PySem.W.emptyDict).Ns s.heap.objs.size (λ_=>none):=⟨PySem.W.emptyDict,#[],_,e1,rfl,(λe he=>absurd he (by simp)),λ_=>rfl⟩
 have I1:=I.laid (a:=s.heap.objs.size) (o:=.own (s.heap.objs.size+1)) (h':=s.heap.push PySem.W.emptyDict) (t':=s.toks) (λb u q=>En _ q) (Ep _) ⟨_,e1⟩
 refine I1.laid (a:=s.heap.objs.size+1) (o:=.ins C s.heap.objs.size []) (t':=s.toks) (λb u q=>En _ q) (JO (Fh _ _)) ?_
 have ne:s.heap.objs.size≠s.heap.objs.size+1:=Ez (FI _)
 refine⟨by rw[af ne,ae],EV _,ne,e2,λ_=>none,(Heap.Ns1.of_empty e3).at λo q=>En _ q,λ_=>True.intro,λy hy=>absurd rfl hy⟩
def rY{prog:Program}{w:World}{env:Env}{e:Expr}{f:Str}{pos:Pos}{s:Shared}{Q:Value->Shared->Prop}(hb:attributeBase e f env (eval e env)=eval e env)
  (h:wpAny (model prog w) A (eval e env) (λo s₁=>wpAny (model prog w) A (getAttr o f true) Q E s₁) E s):wpAny (model prog w) A (eval (.Attribute e f pos) env) Q E s :=
 Attribute_any_ h (by rw[arm_eval_Attribute,hb])
end
inductive Cq(K:PySem.W.Frag)(f:Str)(Q:VK)(x:V)(H1:Hp):Prop
 |mk (a C dx:Addr) (fs:List (Str×V)) (v:V) (e:x=.ref a) (h:H1 a=some (.ins C dx fs)) (c:uv K C) (n:bV K C f) (l:fs.lookup f=some v) (k:Q v H1)
def Dm(K:PySem.W.Frag)(ta:TE)(f:Str):TE:=λσ H Q=>ta σ H (Cq K f Q)
def DZ(K:PySem.W.Frag)(ta tv:TE)(f:Str):TS:=λD σ H=>tv σ H λy H1=>ta σ H1 λx H2=>∃a C dx fs,x=.ref a/\H2 a=some (.ins C dx fs)/\uv K C/\bV K C f/\fs.length<1000 /\
 D.nx σ (upd H2 a (.ins C dx (aQ f y fs)))
section
variable {X:Cx}{o e value:Expr}{f:Str}{pos pos' tpos:Pos}{ta tv:TE}
def cM(he:PE X e ta)(hb:attributeBase e f X.env (eval e X.env)=eval e X.env):PE X (.Attribute e f pos) (Dm X.K ta f):=by
 intro pins s σ H Q I h
 refine rY hb (bo (he pins s σ H _ I h) λu s1 hZ=>?_)
 obtain⟨x,H1,I1,rx,a,C,dx,fs,v,ex,ea,c,n,l,q⟩:=hZ
 subst ex
 obtain rfl:u=Value.ref a:=rx
 exact qw I1 ea c n l λu' s2 I2 ru=>⟨v,H1,I2,ru,q⟩
def dB(ha:PE X o ta)(hv:PE X value tv)(hs:swapsWith value (some (.Attribute o f pos')) pos.line X.env=pure false):PS X (.Assign [.Attribute o f pos'] value pos) (DZ X.K ta tv f):=by
 intro pins s σ H D I h
 refine Ib (bo (hv pins s σ H _ I h) λu s1 ⟨y,H1,I1,ry,q⟩=>bo (ha pins s1 σ H1 _ I1 q) λov s2 hZ=>?_) hs
 obtain⟨x,H2,I2,rx,a,C,dx,fs,ex,ea,c,n,l,q2⟩:=hZ
 subst ex
 obtain rfl:ov=Value.ref a:=rx
 exact qx I2 ea c n l ry λs3 I3=>⟨σ,_,I3,q2⟩
end
section
variable {X:Cx}{pins:List (Addr×Obj)}{σ:St}{H:Hp}{s:Shared}{A:Around}{E:Value->Shared->Prop}{Q:Value->Shared->Prop}{c:Value}{b:Bool}
inductive iq(K:PySem.W.Frag)(H:Hp):V->Value->Prop where
 |non:iq K H .non (.type "NoneType")
 |bl (x:Bool):iq K H (.bl x) (.type "bool")
 |int (i:Int):iq K H (.int i) (.type "int")
 |str (x:Str):iq K H (.str x) (.type "str")
 |flt (x:UInt64):iq K H (.flt x) (.type "float")
 |lst {a:Addr} {xs:List V} (e:H a=some (.lst xs)):iq K H (.ref a) (.type "list")
 |frz {a:Addr} {o:Obj} {xs:List V} (e:H a=some (.frz o (.lst xs))):iq K H (.ref a) (.type "list")
 |tup {a:Addr} {xs:List V} (e:H a=some (.tup xs)):iq K H (.ref a) (.type "tuple")
 |dK {a:Addr} {kvs:List (Key×V)} (e:H a=some (.dK kvs)):iq K H (.ref a) (.type "dict")
 |dT {a:Addr} {kvs:List (List Key×V)} (e:H a=some (.dT kvs)):iq K H (.ref a) (.type "dict")
 |ins {a C dx:Addr} {fs:List (Str×V)} (e:H a=some (.ins C dx fs)) (cl:uv K C) (ha:PySem.W.findIn K (.ref C) "__class__"=some (some (.builtin "object.__class__")))
   (hn:PySem.W.specialIn K (.builtin "object.__class__") "__get__"=some (some (.builtin "getset_descriptor.__get__"))) (htk:PySem.W.takesIn K (.builtin "object.__class__")=some true)
   (hm:PySem.W.mroIn K C (.type "object")=some true):iq K H (.ref a) (.ref C)
def sJ{x:V}{u t:Value}(I:Inv X pins σ H s)(rx:RelV x u)(ty:iq X.K H x t)(e:PySem.W.kitOne X.K t c=some b)(h:∀tk,Q (.bool b) { s with toks:=tk }) :
  wpAny (model X.prog X.w) A (call (.builtin "isinstance") [u,c]) Q E s:=by
 cases ty with
 |non=>cases (show u=Value.none from rx);exact Fz PySem.W.kitx_none I.eD True.intro e (λz=>nomatch z) h
 |bl y=>cases (show u=Value.bool y from rx);exact Fz PySem.W.kitx_bool I.eD True.intro e (λz=>nomatch z) h
 |int i=>obtain⟨t,q⟩:=(show ∃t,u=Value.int i t from rx);cases q;exact Fz PySem.W.kitx_int I.eD True.intro e (λz=>nomatch z) h
 |str y=>obtain⟨t,q⟩:=(show ∃t,u=Value.str y t from rx);cases q;exact Fz PySem.W.kitx_str I.eD True.intro e (λz=>nomatch z) h
 |flt y=>obtain⟨t,q⟩:=(show ∃t,u=Value.float y t from rx);cases q;exact Fz PySem.W.kitx_float I.eD True.intro e (λz=>nomatch z) h
 |@lst a xs ea =>
  cases (show u=Value.ref a from rx)
  obtain⟨_,_,n,_,h1⟩:=(show bc X.prog X.w H s.heap a (.lst xs) from I.hok a _ ea)
  exact Fz PySem.W.kitx_list I.eD ⟨_,h1,rfl⟩ e (λz=>nomatch z) h
 |@frz a ob xs ea =>
  cases (show u=Value.ref a from rx)
  obtain⟨_,_,_,n,_,h1⟩:=(show bc X.prog X.w H s.heap a (.frz ob (.lst xs)) from I.hok a _ ea)
  exact Fz PySem.W.kitx_list I.eD ⟨_,h1,rfl⟩ e (λz=>nomatch z) h
 |@tup a xs ea =>
  cases (show u=Value.ref a from rx)
  obtain⟨_,_,_,p⟩:=(show bc X.prog X.w H s.heap a (.tup xs) from I.hok a _ ea)
  obtain⟨o,h1,h2,_⟩:=p
  exact Fz PySem.W.kitx_tuple I.eD ⟨o,h1,h2⟩ e (λz=>nomatch z) h
 |@dK a kvs ea =>
  cases (show u=Value.ref a from rx)
  obtain⟨_,_,vs,_,p⟩:=(show bc X.prog X.w H s.heap a (.dK kvs) from I.hok a _ ea)
  obtain⟨o,es,ep,h1,h2,_⟩:=p
  exact Fz PySem.W.kitx_dict I.eD ⟨o,h1,h2.1⟩ e (λz=>nomatch z) h
 |@dT a kvs ea =>
  cases (show u=Value.ref a from rx)
  obtain⟨_,_,xs,_,o,es,ep,h1,h2,_⟩:=(show bc X.prog X.w H s.heap a (.dT kvs) from I.hok a _ ea)
  exact Fz PySem.W.kitx_dict I.eD ⟨o,h1,h2.1⟩ e (λz=>nomatch z) h
 |@ins a C dx fs ea cl ha hn htk hm =>
  cases (show u=Value.ref a from rx)
  obtain⟨mA,O,_⟩:=jV I.hok ea
  obtain⟨od,J,_⟩:=O.look
  exact Fz (PySem.W.kitx_own (cl.get _) cl.hd ha hn htk hm) I.eD J e (λz=>nomatch z) h
end
end L2
namespace L2
open PySem PySem.Spec PyProof.Rows
structure bB(k:Nat)(A:Around):Prop where
 hd:A.handled=none
 dp:A.depth+3*k+5<recursionLimit
 un:A.units+16*k+200<cLine
 gd:A.guards=some []
def bB.mono{j k:Nat}{A:Around}(r:bB k A)(h:j<=k):bB j A:=⟨r.hd,by have:=r.dp;lia,by have:=r.un;lia,r.gd⟩
theorem bB.deeper{k:Nat}{A:Around}(r:bB (k+1) A)(env:Env):bB k (A.deeper env) :=
 ⟨r.hd,by have:=r.dp;show A.depth+1+3*k+5<_;lia,by have:=r.un;show A.units+3+16*k+200<_;lia,r.gd⟩
def p5{A:Around}{C:Addr}{us:List Value}{kw:List (Str×Value)}:(A.under (.builtin "type.__call__" ⟨.ref C::us,kw⟩)).depth=A.depth+1:=by
 first|rfl|simp[Around.under,Code.weight,Code.isCreation,Code.isGuard,Code.isCaller,Code.frames,Code.isFrame,guardIds]
def qS{A:Around}{C:Addr}{us:List Value}{kw:List (Str×Value)}:(A.under (.builtin "type.__call__" ⟨.ref C::us,kw⟩)).units=A.units+1:=by
 first|rfl|simp[Around.under,Code.cUnits,Code.frames,Code.isFrame]
def bB.make{k:Nat}{A:Around}(r:bB (k+1) A)(C:Addr)(us:List Value)(kw:List (Str×Value)):bB k (A.under (.builtin "type.__call__" ⟨.ref C::us,kw⟩)) :=
 ⟨r.hd,by have:=r.dp;rw[p5];lia,by have:=r.un;rw[qS];lia,by first|exact r.gd|(simp[Around.under,Code.isGuard,guardIds];exact r.gd)⟩
theorem bB.depth{k:Nat}{A:Around}(r:bB k A):A.depth<recursionLimit:=by have:=r.dp;lia
theorem bB.units{k:Nat}{A:Around}(r:bB k A):A.units+64<cLine:=by have:=r.un;lia
def bB.p9{k:Nat}{A:Around}(r:bB k A):A.units<cLine:=by have:=r.un;lia
def Af:TA:=λ_ H Q=>Q [] H
def zc(ta:TE)(tr:TA):TA:=λσ H Q=>ta σ H λx H1=>tr σ H1 λxs H2=>Q (x::xs) H2
section
variable {X:Cx}{e:Expr}{es:List Expr}{te:TE}{t:TA}{pos:Pos}
def ag:PA X [] Af:=λ_ _ _ _ H Q I h=>II ⟨[],H,I,.nil,h⟩
def aa(ha:PE X e te)(hr:PA X es t)(hs:starEach (e::es) X.env=(false,eval e X.env)::starEach es X.env:=by rfl):PA X (e::es) (zc te t):=by
 intro pos pins s σ H Q I h
 rw[hs]
 show wpAny _ _ (spliced ((false,eval e X.env)::backTo pos (starEach es X.env))) _ _ s
 refine HF (bo (ha pins s σ H _ I h) λu s1 hZ=>?_)
 obtain⟨x,H1,I1,r1,q1⟩:=hZ
 exact bo (hr pos pins s1 σ H1 _ I1 q1) λus s2 ⟨xs,H2,I2,r2,q2⟩=>⟨x::xs,H2,I2,.cons r1 r2,q2⟩
def De(t:TA):TE:=λσ H Q=>t σ H λxs H1=>xs.length<=sizeLine/\∀p,H1 p=none->Q (.ref p) (upd H1 p (.tup xs))
def Bc(t:TA):TE:=λσ H Q=>t σ H λxs H1=>xs.length<=sizeLine/\∀p,H1 p=none->Q (.ref p) (upd H1 p (.lst xs))
def dF{x1}(h:PA X es t):PE X (.Tuple es x1 pos) (De t):=by
 intro pins s σ H Q I hq
 refine wpAny_Tuple_spliced (bo (h pos pins s σ H _ I hq) λus s1 ⟨xs,H1,I1,r,z,q⟩=>⟨by rw[<-r.length];exact z,?_⟩)
 have hf:H1 s1.heap.objs.size=none:=I1.hok.fresh (Ep _)
 refine⟨.ref s1.heap.objs.size,upd H1 s1.heap.objs.size (.tup xs),I1.laid (t':=s1.toks) (λb u e=>En _ e) (Ep _) ?_,rfl,q _ hf⟩
 exact⟨z,us,r,⟨_,Ew _ rfl,rfl,_,rfl⟩⟩
def bZ(h:PA X es t):PE X (.List es pos) (Bc t):=by
 intro pins s σ H Q I hq
 refine wpAny_List_spliced (bo (h pos pins s σ H _ I hq) λus s1 ⟨xs,H1,I1,r,z,q⟩=>⟨by rw[<-r.length];exact z,?_⟩)
 have hf:H1 s1.heap.objs.size=none:=I1.hok.fresh (Ep _)
 refine⟨.ref s1.heap.objs.size,upd H1 s1.heap.objs.size (.lst xs),I1.laid (t':=s1.toks) (λb u e=>En _ e) (Ep _) ?_,rfl,q _ hf⟩
 exact⟨z,us,0,r,Ew _ rfl⟩
end
abbrev Sp:=List V->Hp->VK->XK->Prop
abbrev pX:=List Env->Hp->Shared->XK->Value->Shared->Prop
structure nF(P:Program)(w:World)(K:PySem.W.Frag)(mg:Str->Option Value)(base:Heap)(A:Around)(outer:List Env)(s:Shared)(H:Hp):Prop where
 frames:A.frames=some outer
 mod:Mod K mg base
 bs:∀b o,base.get? b=some o->s.heap.get? b=some o/\H b=none
 bsz:base.objs.size<=s.heap.objs.size
 fG:s.heap.FunFrames base outer
 frf:∀b∈fJ outer,H b=none
 hok:gF P w H s.heap
 bare:AllBare s.gens
def CE(outer:List Env)(P:Program)(w:World)(H:Hp)(s:Shared)(Q:VK)(u:Value)(s':Shared):Prop :=
 ∃v H',s'.os=s.os/\AllBare s'.gens/\Un (fJ outer) [] H H' s.heap s'.heap/\gF P w H' s'.heap/\RelV v u/\Q v H'
def CR(CX:pX)(outer:List Env)(P:Program)(w:World)(H:Hp)(s:Shared)(Q:VK)(E:XK)(r:Result)(s':Shared):Prop :=
 match r with
 |.ok (.ret u)=>CE outer P w H s Q u s'
 |.ok _=>False
 |.error e=>CX outer H s E e s'
structure aM(P:Program)(w:World)(K:PySem.W.Frag)(mg:Str->Option Value)(base:Heap)(CX:pX)(k:Nat)(f:Addr)(fd:FuncData)(ps:List Str)(sp:Sp):Prop where
 len:∀vs H Q E,sp vs H Q E->vs.length=ps.length
 run:∀(A:Around) (outer:List Env) (s:Shared) (H:Hp) (args:Args) (us:List Value) (vs:List V) (Q:VK) (E:XK),bB k A->nF P w K mg base A outer s H->BindsTo s fd args (ps.zip us)->Vals vs us->sp vs H Q E ->
  codeAny (model P w) A (.call (.ref f) args) (CR CX outer P w H s Q E) s
def aM.imp{P:Program}{w:World}{K:PySem.W.Frag}{mg:Str->Option Value}{base:Heap}{CX:pX}{k:Nat}{f:Addr}{fd:FuncData}{ps:List Str}{sp sp':Sp}(F:aM P w K mg base CX k f fd ps sp)
  (h:∀vs H Q E,sp' vs H Q E->sp vs H Q E):aM P w K mg base CX k f fd ps sp' :=
 ⟨λvs H Q E q=>F.len vs H Q E (h _ _ _ _ q),λA outer s H args us vs Q E hr he hb hv hs=>F.run A outer s H args us vs Q E hr he hb hv (h _ _ _ _ hs)⟩
def nF.make{P:Program}{w:World}{K:PySem.W.Frag}{mg:Str->Option Value}{base:Heap}{A:Around}{outer:List Env}{s:Shared}{H:Hp}(e:nF P w K mg base A outer s H)(C:Addr)(us:List Value)(kw:List (Str×Value)) :
  nF P w K mg base (A.under (.builtin "type.__call__" ⟨.ref C::us,kw⟩)) outer s H:=⟨by first|exact e.frames|(simpa[Around.under,Code.envs,Code.isFrame,pushEnvs] using e.frames),e.mod,e.bs,e.bsz,e.fG,e.frf,e.hok,e.bare⟩
section
variable {X:Cx}{pins:List (Addr×Obj)}{σ:St}{H:Hp}{s s':Shared}
def Inv.vU(I:Inv X pins σ H s):nF X.prog X.w X.K X.mg X.base X.A X.stack s H :=
 ⟨I.ok.frames,I.ok.mod,I.bs,ET I.ok.bsz I.sz,I.stack,I.jP,I.hok,I.bare⟩
def Inv.after{Q:VK}{u:Value}(I:Inv X pins σ H s)(h:CE X.stack X.prog X.w H s Q u s'):EP X pins σ Q u s':=by
 obtain⟨v,H',os,bare,un,hok,r,q⟩:=h
 obtain⟨hh,g,d,t,os'⟩:=s'
 obtain rfl:os'=s.os:=os
 exact⟨v,H',I.call (h':=hh) (g':=g) (d':=d) (t':=t) (ch:=[]) un hok bare (λb z=>absurd z (by simp)),r,q⟩
end
def zi(sp:Sp)(dvs:List V)(E:XK)(t:TA):TE:=λσ H Q=>t σ H λvs H1=>sp (vs++dvs) H1 Q E
inductive JMt(C:Addr)(m:Str)(sp:Sp)(dvs:List V)(E:XK)(t:TA)(σ:St)(Q:VK)(x:V)(H1:Hp):Prop
 |mk (a dx:Addr) (fs:List (Str×V)) (e:x=.ref a) (h:H1 a=some (.ins C dx fs)) (l:fs.lookup m=none) (k:t σ H1 λvs H2=>sp (x::(vs++dvs)) H2 Q E)
def zm(C:Addr)(m:Str)(sp:Sp)(dvs:List V)(E:XK)(ta:TE)(t:TA):TE:=λσ H Q=>ta σ H (JMt C m sp dvs E t σ Q)
def zr(C:Addr)(sp:Sp)(dvs:List V)(E:XK)(t:TA):TE:=λσ H Q=>t σ H λvs H1=>∀x dx,H1 x=none->H1 dx=none->dx≠x ->
 sp (.ref x::(vs++dvs)) (upd (upd H1 dx (.own x)) x (.ins C dx [])) (λv H2=>v=.non/\Q (.ref x) H2) E
def Binds(K:PySem.W.Frag)(fd:FuncData)(ps:List Str)(ds:List Value):Prop :=
 ∀(s:Shared) (us:List Value),K.In s.heap->(us++ds).length=ps.length->BindsTo s fd ⟨us,[]⟩ (ps.zip (us++ds))
def Binds.all{K:PySem.W.Frag}{fd:FuncData}{ps:List Str}(h:∀us:List Value,us.length=ps.length->bindArgs fd ⟨us,[]⟩=pure (ps.zip us)):Binds K fd ps []:=λs us _ hl=>by
 rw[Gu]at hl ⊢
 exact .of_eq (h us hl)
def Passes(CX:pX)(X:Cx)(E:XK):Prop:=∀(pins:List (Addr×Obj)) (σ:St) (H:Hp) (s:Shared) (e:Value) (s':Shared),Inv X pins σ H s->CX X.stack H s E e s'->X.xe e s'
section
variable {X:Cx}{CX:pX}{k:Nat}{f C:Addr}{fd:FuncData}{ps:List Str}{sp:Sp}{dvs:List V}{ds:List Value}{E:XK}{x m:Str}{p pos apos:Pos}{e o:Expr}{es:List Expr}{ta:TE}{t:TA}
def mW{pins:List (Addr×Obj)}{σ:St}{H:Hp}{s:Shared}{Q:VK}{us:List Value}{vs:List V}(F:aM X.prog X.w X.K X.mg X.base CX k f fd ps sp)(hr:bB k X.A)(hb:Binds X.K fd ps ds)(hd:Vals dvs ds)(hx:Passes CX X E)
  (I:Inv X pins σ H s) (r:Vals vs us) (h:sp (vs++dvs) H Q E):wpAny (model X.prog X.w) X.A (call (.ref f) us) (EP X pins σ Q) X.xe s:=by
 have r2:Vals (vs++dvs) (us++ds):=r.append hd
 have hl:(us++ds).length=ps.length:=by rw[<-r2.length];exact F.len _ _ _ _ h
 refine Hd (FL (F.run X.A X.stack s H ⟨us,[]⟩ (us++ds) (vs++dvs) Q E hr I.vU (hb s us I.eD hl) r2 h) λr s' hq=>?_)
 cases r with
 |error e=>exact hx pins σ H s e s' I hq
 |ok fl =>
  cases fl with
  |ret u=>exact I.after hq
  |next=>exact False.elim hq
  |brk=>exact False.elim hq
  |cont=>exact False.elim hq
def cH(F:aM X.prog X.w X.K X.mg X.base CX k f fd ps sp)(hr:bB k X.A)(hg:Gl X x)(hm:X.mg x=some (.ref f))(hk:PySem.W.keepIn X.K (.ref f)=true)(hb:Binds X.K fd ps ds)(hd:Vals dvs ds)(hx:Passes CX X E)
  (ha:PA X (e::es) t) (hdb:(x==("__debug__":Str))=false:=by decide) (he:starEach (e::es) X.env=(false,eval e X.env)::starEach es X.env:=by rfl) (hpl:(backTo pos (starEach es X.env)).any (·.1)=false:=by rfl) :
  PE X (.Call (.Name x p) (e::es) [] pos) (zi sp dvs E t):=by
 intro pins s σ H Q I h
 refine Fp (gg I hg hm ?_ hdb)
 refine Gd (h₀:=X.base) I.ok.mod.kin hk (bo (ha pos pins s σ H _ I h) λus s1 ⟨vs,H1,I1,r,q⟩=>⟨I1.eD,?_⟩) he hpl
 exact mW F hr hb hd hx I1 r q
def eU{pl:Sem Bool}(he:PE X o ta)(c:uv X.K C)(hm:Meth X.K C m f)(F:aM X.prog X.w X.K X.mg X.base CX k f fd ps sp)(hr:bB k X.A)(hb:Binds X.K fd ps ds)(hd:Vals dvs ds)(hx:Passes CX X E)(ha:PA X (e::es) t)
  (hst:starEach (e::es) X.env=(false,eval e X.env)::starEach es X.env:=by rfl) (hpl:(backTo pos (starEach es X.env)).any (·.1)=false:=by rfl)
  (ht:eval (.Call (.Attribute o m apos) (e :: es) [] pos) X.env = (do
   let ov <-eval o X.env
   standAt apos.atName
   let (f,first) <-holding [ov] (getMethod ov m pl)
   callWith pos f first (backTo pos (starEach (e::es) X.env)) (backToKw pos (keywordEach [] X.env))):=by rfl) :
  PE X (.Call (.Attribute o m apos) (e::es) [] pos) (zm C m sp dvs E ta t):=by
 intro pins s σ H Q I h
 refine HZ (pl:=pl) (bo (he pins s σ H _ I h) λu s1 hZ=>?_) ht
 obtain⟨x,H1,I1,rx,a,dx,fs,ex,ea,l,q⟩:=hZ
 subst ex
 obtain rfl:u=Value.ref a:=rx
 refine ko I1 ea c hm l ?_
 refine Gd (first:=[.ref a]) (h₀:=X.base) I.ok.mod.kin hm.kp (bo (ha pos pins s1 σ H1 _ I1 q) λus s2 ⟨vs,H2,I2,r,q2⟩=>⟨I2.eD,?_⟩) hst hpl
 exact mW (us:=.ref a::us) (vs:=.ref a::vs) F hr hb hd hx I2 (.cons rfl r) q2
def fh{pl:Sem Bool}(he:PE X o ta)(c:uv X.K C)(hm:Meth X.K C m f)(F:aM X.prog X.w X.K X.mg X.base CX k f fd ps sp)(hr:bB k X.A)(hb:Binds X.K fd ps ds)(hd:Vals dvs ds)(hx:Passes CX X E)
  (ht:eval (.Call (.Attribute o m apos) [] [] pos) X.env = (do
   let ov <-eval o X.env
   standAt apos.atName
   let (f,first) <-holding [ov] (getMethod ov m pl)
   callWith pos f first (backTo pos (starEach [] X.env)) (backToKw pos (keywordEach [] X.env))):=by rfl) :
  PE X (.Call (.Attribute o m apos) [] [] pos) (zm C m sp dvs E ta Af):=by
 intro pins s σ H Q I h
 refine HZ (pl:=pl) (bo (he pins s σ H _ I h) λu s1 hZ=>?_) ht
 obtain⟨x,H1,I1,rx,a,dx,fs,ex,ea,l,q⟩:=hZ
 subst ex
 obtain rfl:u=Value.ref a:=rx
 refine ko I1 ea c hm l ?_
 exact PySem.W.callWith_K0 (first:=[.ref a]) I1.eD hm.kp (mW (us:=[.ref a]) (vs:=[.ref a]) F hr hb hd hx I1 (.cons rfl .nil) q)
structure Mk(K:PySem.W.Frag)(C f:Addr):Prop where
 makes:PySem.W.makesIn K C=true
 init:PySem.W.findIn K (.ref C) "__init__"=some (some (.ref f))
 fn:PySem.W.isFn K (.ref f)=true
 kp:PySem.W.keepIn K (.ref C)=true
def uZ{pins:List (Addr×Obj)}{σ:St}{H:Hp}{s:Shared}{Q:VK}{us:List Value}{vs:List V}(M:Mk X.K C f)(F:aM X.prog X.w X.K X.mg X.base CX k f fd ps sp)(hr:bB (k+1) X.A)(hb:Binds X.K fd ps ds)(hd:Vals dvs ds)
  (hx:Passes CX X E) (I:Inv X pins σ H s) (r:Vals vs us)
  (h:∀x dx,H x=none->H dx=none->dx≠x->sp (.ref x::(vs++dvs)) (upd (upd H dx (.own x)) x (.ins C dx [])) (λv H2=>v=.non/\Q (.ref x) H2) E) :
  wpAny (model X.prog X.w) X.A (call (.ref C) us) (EP X pins σ Q) X.xe s:=by
 have hq:=h (s.heap.objs.size+1) s.heap.objs.size (I.hok.fresh (Fq _)) (I.hok.fresh (Ep _)) (Ez (FI _))
 have I2:=Inv.made (C:=C) I
 have r2:Vals (V.ref (s.heap.objs.size+1)::(vs++dvs)) (Value.ref (s.heap.objs.size+1)::(us++ds)):=.cons rfl (r.append hd)
 have hl:(Value.ref (s.heap.objs.size+1)::us++ds).length=ps.length:=by
  have e:=r2.length
  rw[F.len _ _ _ _ hq]at e
  exact e.symm
 refine Hd (o5 (f:=f) I.eD M.makes M.init (Hc.mp M.fn) (FL (F.run _ X.stack _ _ ⟨Value.ref (s.heap.objs.size+1)::us,[]⟩ (Value.ref (s.heap.objs.size+1)::(us++ds)) _ _ E (hr.make C us [])
  (I2.vU.make C us []) (hb _ (Value.ref (s.heap.objs.size+1)::us) I2.eD hl) r2 hq) λr s' hq'=>?_))
 cases r with
 |error e=>exact hx pins σ _ _ e s' I2 hq'
 |ok fl =>
  cases fl with
  |ret u =>
   obtain⟨v,H',I3,rv,ev,q3⟩:=I2.after hq'
   subst ev
   exact⟨rv,⟨V.ref (s.heap.objs.size+1),H',I3,rfl,q3⟩⟩
  |next=>exact False.elim hq'
  |brk=>exact False.elim hq'
  |cont=>exact False.elim hq'
def yO(M:Mk X.K C f)(F:aM X.prog X.w X.K X.mg X.base CX k f fd ps sp)(hr:bB (k+1) X.A)(hg:Gl X x)(hm:X.mg x=some (.ref C))(hb:Binds X.K fd ps ds)(hd:Vals dvs ds)(hx:Passes CX X E)
  (ha:PA X (e::es) t) (hdb:(x==("__debug__":Str))=false:=by decide) (he:starEach (e::es) X.env=(false,eval e X.env)::starEach es X.env:=by rfl) (hpl:(backTo pos (starEach es X.env)).any (·.1)=false:=by rfl) :
  PE X (.Call (.Name x p) (e::es) [] pos) (zr C sp dvs E t):=by
 intro pins s σ H Q I h
 refine Fp (gg I hg hm ?_ hdb)
 refine Gd (h₀:=X.base) I.ok.mod.kin M.kp (bo (ha pos pins s σ H _ I h) λus s1 ⟨vs,H1,I1,r,q⟩=>⟨I1.eD,?_⟩) he hpl
 exact uZ M F hr hb hd hx I1 r q
end
section
variable {X:Cx}{CX:pX}{k:Nat}{f C:Addr}{fd:FuncData}{ps ks:List Str}{sp:Sp}{E:XK}{x m:Str}{p pos apos kpos:Pos}{e o:Expr}{es:List Expr}{kws:List Keyword}{te ta:TE}{t tk:TA}{nm:Option Str}
variable {g:List Value->List Value->List Value}{gV:List V->List V->List V}
end
structure az(N P:List Str)(sc:Scope):Prop where
 kind:sc.kind=.function
 co:sc.isCoroutine=false
 gen:sc.isGenerator=false
 nd:N.Nodup
 pre:N.take P.length=P
 par:∀x∈P,sc.names.lookup x=some .local\/sc.names.lookup x=some .cell
 nofree:∀y∈sc.names,y.2≠.free
def gm{N P:List Str}{sc:Scope}(a:sc.kind=.function:=by rfl)(b:sc.isCoroutine=false:=by rfl)(c:sc.isGenerator=false:=by rfl)(d:N.Nodup:=by decide +kernel)(e:N.take P.length=P:=by rfl)(f:∀x∈P,sc.names.lookup x=some .local\/sc.names.lookup x=some .cell:=by decide +kernel)(g:∀y∈sc.names,y.2≠.free:=by decide +kernel):az N P sc:=⟨a,b,c,d,e,f,g⟩
theorem mK{kindOf:Str->Option NameKind}{x:Str}:∀{binds:List (Str×Value)} {m:Str->Option Value},(∀v,(x,v)∉binds)->bindL kindOf binds m x=m x
 |[],_,_=>rfl
 |(n,v)::r,m,h=>by
  unfold bindL
  rw[mK λw hw=>h w (EK _ hw)]
  split
  ·have:x≠n:=by rintro rfl;exact h v EY
   simp[this]
  ·rfl
theorem lU{kindOf:Str->Option NameKind}{x:Str}:∀{binds:List (Str×Value)} {m:Str->Option Value},(∀v,(x,v)∉binds)->bindC kindOf binds m x=m x
 |[],_,_=>rfl
 |(n,v)::r,m,h=>by
  unfold bindC
  rw[lU λw hw=>h w (EK _ hw)]
  split
  ·rfl
  ·have:x≠n:=by rintro rfl;exact h v EY
   simp[this]
theorem mj{kindOf:Str->Option NameKind}{x:Str}{v:Value}:∀{P:List Str} {vs:List Value} {i:Nat} {m:Str->Option Value},P.Nodup->P[i]?=some x->vs[i]?=some v->kindOf x=some .local ->
  bindL kindOf (P.zip vs) m x=some v
 |[],_,_,_,_,h,_,_=>by simp at h
 |_::_,[],_,_,_,_,h,_=>by simp at h
 |p::P,w::vs,0,m,nd,h1,h2,hk=>by
  simp at h1 h2;subst h1;subst h2
  show bindL kindOf ((p,w)::P.zip vs) m p=_
  unfold bindL
  rw[mK λv hv=>(Fi.mp nd).1 (Jh hv).1,EG hk]
  simp
 |p::P,w::vs,i+1,m,nd,h1,h2,hk=>by
  show bindL kindOf ((p,w)::P.zip vs) m x=_
  unfold bindL
  exact mj (i:=i) (Fi.mp nd).2 (by simpa using h1) (by simpa using h2) hk
theorem mf{kindOf:Str->Option NameKind}{x:Str}{v:Value}:∀{P:List Str} {vs:List Value} {i:Nat} {m:Str->Option Value},P.Nodup->P[i]?=some x->vs[i]?=some v->kindOf x≠some .local ->
  bindC kindOf (P.zip vs) m x=some v
 |[],_,_,_,_,h,_,_=>by simp at h
 |_::_,[],_,_,_,_,h,_=>by simp at h
 |p::P,w::vs,0,m,nd,h1,h2,hk=>by
  simp at h1 h2;subst h1;subst h2
  show bindC kindOf ((p,w)::P.zip vs) m p=_
  unfold bindC
  rw[lU λv hv=>(Fi.mp nd).1 (Jh hv).1,Ex hk]
  simp
 |p::P,w::vs,i+1,m,nd,h1,h2,hk=>by
  show bindC kindOf ((p,w)::P.zip vs) m x=_
  unfold bindC
  exact mf (i:=i) (Fi.mp nd).2 (by simpa using h1) (by simpa using h2) hk
def start(N:List Str)(vs:List V):St:=vs.map some++List.replicate (N.length-vs.length) none
def bz(CX:pX)(P:Program)(w:World)(K:PySem.W.Frag)(mg:Str->Option Value)(base:Heap)(N:List Str)(qual:Str)(scope:Scope)(f:Addr)(cd:Value)(A:Around)(outer:List Env)(s:Shared)(H:Hp)(E:XK):Cx where
 prog:=P
 w:=w
 K:=K
 mg:=mg
 base:=base
 A:=A.deeper (envOfC qual scope s.heap.objs.size f cd)
 N:=N
 s₀:=s
 H₀:=H
 env:=envOfC qual scope s.heap.objs.size f cd
 outer:=outer
 stack:=envOfC qual scope s.heap.objs.size f cd::outer
 ex:=[]
 calm:=true
 fn:=λ_=>true
 pn:=[]
 xe:=λe s'=>wpAny (model P w) (A.deeper (envOfC qual scope s.heap.objs.size f cd)) («leaving» (envOfC qual scope s.heap.objs.size f cd) e) (λ_ s''=>CX outer H s E e s'') (λe' s''=>CX outer H s E e' s'') s'
def n9{sc:Scope}{n:Nat}{x:Str}(h:sc.names.lookup x=some .cell):∃c,(cellsFrom n sc.names []).lookup x=some c:=by
 have q:=Jn sc.names n [] (.inl h)
 exact Option.isSome_iff_exists.mp q
def tU{CX:pX}{P:Program}{w:World}{K:PySem.W.Frag}{mg:Str->Option Value}{base:Heap}{N ps:List Str}{qual:Str}{scope:Scope}{f:Addr}{cd:Value}{A:Around}{outer:List Env}{s s1:Shared}{H:Hp}{E:XK}{us:List Value}{vs:List V}
  (S:az N ps scope) (hd:A.handled=none) (e0:nF P w K mg base A outer s H) (hl:vs.length=ps.length) (r:Vals vs us)
  (x:InCallC s s.heap.objs.size (bindL (envOfC qual scope s.heap.objs.size f cd).kindOf (ps.zip us) λ_=>none) (cellsFrom (s.heap.objs.size+1) scope.names []) (bindC (envOfC qual scope s.heap.objs.size f cd).kindOf (ps.zip us) λ_=>none) s1) :
  Inv (bz CX P w K mg base N qual scope f cd A outer s H E) [] (start N vs) H s1:=by
 have hpl:ps.length<=N.length:=by have:=Gz List.length S.pre;rw[EL]at this;lia
 obtain⟨h1,tk,rfl,hk⟩:=x.done
 have noA:∀b:Addr,b∉(bz CX P w K mg base N qual scope f cd A outer s H E).ex:=λb z=>absurd (show b∈([]:List Addr) from z) (by simp)
 refine⟨⟨e0.mod,S.kind,rfl,rfl,Ep _,λy z c h1 h2=>?_,λy hy=>?_,λy c _ h=>?_,λ_=>hd,Around.frames_deeper e0.frames,.inr ⟨rfl,rfl⟩,λb z=>absurd z (noA b),e0.bs,e0.bsz,λb _ _=>noA b,λb z=>absurd z (noA b),e0.fG,e0.frf⟩,
  rfl,e0.bare,Un.kept hk,⟨_,x.toInCall.ns,λi y v h1 h2 h3=>?_⟩,λy c h=>⟨_,x.cell y c h⟩,e0.hok.fresh (Ep _),λy c h=>?_,λp hp=>absurd (show p∈([]:List (Addr×Obj)) from hp) (by simp),e0.hok.kept hk,?_⟩
 ·exact name_of_addr x.apart (Gj h1) (Gj h2)
 ·have hy:scope.names.lookup y=some .cell\/scope.names.lookup y=some .free:=hy
  rcases hy with hy|hy
  ·exact n9 hy
  ·exact absurd rfl (S.nofree _ (Gj hy))
 ·exact Hm (x.above y c (Gj h))
 ·have hi:i<vs.length:=by
   unfold start at h2
   by_cases hi:i<vs.length
   ·exact hi
   ·rw[Hy (by simpa using hi)]at h2
    rw[Jb]at h2
    split at h2 <;> cases h2
  have ha:vs[i]?=some v:=by
   unfold start at h2
   rw[FO (by simpa using hi),E4]at h2
   cases e:vs[i]? with
   |none=>rw[e]at h2;cases h2
   |some a=>rw[e]at h2;cases h2;rfl
  obtain⟨u,hu,rv⟩:=r.get ha
  have hp:ps[i]?=some y:=by
   rw[<-S.pre,HG (by lia)];exact h1
  have ndP:ps.Nodup:=by rw[<-S.pre];exact S.nd.sublist (HP _ _)
  refine⟨u,rv,?_⟩
  rcases S.par y (EC hp) with k|k
  ·exact .inl ⟨k,mj ndP hp hu k⟩
  ·obtain⟨c,e⟩:=n9 (n:=s.heap.objs.size+1) k
   refine .inr ⟨.inl k,c,e,?_⟩
   have q:=x.cell y c e
   rw[mf ndP hp hu (by show scope.names.lookup y≠_;rw[k];decide)]at q
   exact q
 ·exact e0.hok.fresh (Hm (x.above y c (Gj h)))
 ·unfold start
  show _=N.length
  rw[Eu,Et,FQ]
  lia
def xy{CX:pX}{P:Program}{w:World}{K:PySem.W.Frag}{mg:Str->Option Value}{base:Heap}{k:Nat}{f:Addr}{name qual:Str}{params:Arguments}{body:List Stmt}{scope:Scope}{dV kV doc pm cdv ct oc:Value}{an od:Option Addr}
  {osl:Array (Option Value)} {N ps:List Str} {sp:Sp} (lk:K.lookup f=some ⟨oc,od,.func (PySem.W.fnOf name qual params body scope dV kV doc pm an cdv ct),osl⟩) (hcd:PySem.W.codeIn K cdv qual=true) (S:az N ps scope)
  (len:∀vs H Q E,sp vs H Q E->vs.length=ps.length)
  (hbody:∀(A:Around) (outer:List Env) (s:Shared) (H:Hp) (vs:List V) (Q:VK) (E:XK),bB k (A.deeper (envOfC qual scope s.heap.objs.size f cdv))->sp vs H Q E ->
   ∃t,lK (bz CX P w K mg base N qual scope f cdv A outer s H E) body t/\t { nx:=λ_ H'=>Q .non H',rt:=Q } (start N vs) H) :
  aM P w K mg base CX (k+1) f (PySem.W.fnOf name qual params body scope dV kV doc pm an cdv ct) ps sp:=by
 refine⟨len,λA outer s H args us vs Q E hr e0 hb r hsp=>?_⟩
 have hl:=len _ _ _ _ hsp
 have KX:K.In s.heap:=e0.mod.kin.keeps λb o e=>(e0.bs b o e).1
 have lim:s.heap.NoLimit:=e0.mod.nolimit.keeps λb o e=>(e0.bs b o e).1
 have hkind:∀y∈ps.zip us,scope.names.lookup y.1=some .local\/(scope.names.lookup y.1=some .cell/\((cellsFrom (s.heap.objs.size+1) scope.names []).lookup y.1).isSome=true):=λ⟨n,v⟩ hy=>by
  rcases S.par n (Jh hy).1 with q|q
  ·exact .inl q
  ·exact .inr ⟨q,Jn _ _ _ (.inl q)⟩
 refine codeAny_call_function hr.depth (KX _ _ lk) rfl S.co S.gen rfl (PySem.W.codeRec_of KX hcd) (hb _ _ _ _ ?_)
 refine wpAny_newFunctionEnv_cells S.kind hkind λenv he s1 x=>?_
 subst he
 refine⟨lim.keeps x.toInCall.keep,codeAny_func ?_⟩
 obtain⟨t,ht,hq⟩:=hbody A outer s H vs Q E (hr.deeper _) hsp
 have I:Inv (bz CX P w K mg base N qual scope f cdv A outer s H E) [] (start N vs) H s1:=tU S hr.hd e0 hl r x
 refine Fy (ht [] s1 (start N vs) H _ I hq) (λfl s' hs=>?_) λe s' hs=>hs
 have fin:∀{σ':St} {H':Hp} {v:V} {u:Value},Inv (bz CX P w K mg base N qual scope f cdv A outer s H E) [] σ' H' s'->RelV v u->Q v H'->CE outer P w H s Q u s' :=
  λ{σ' H' v u} J rv q=>⟨v,H',J.os,J.bare,J.base,J.hok,rv,q⟩
 cases fl with
 |ret u =>
  obtain⟨v,σ',H',J,rv,q⟩:=hs
  exact fin J rv q
 |next =>
  obtain⟨σ',H',J,q⟩:=hs
  exact fin (v:=V.non) (u:=Value.none) J rfl q
 |brk =>
  obtain⟨_,_,_,q⟩:=hs
  exact False.elim q
 |cont =>
  obtain⟨_,_,_,q⟩:=hs
  exact False.elim q
end L2
namespace L2
open PySem PySem.Spec PyProof.Rows
section
variable {X:Cx}{x:Str}{p pos:Pos}{e:Expr}{es:List Expr}{t:TA}{id T:String}{r:List V->Hp->VK->Prop}
def tCB(r:List V->Hp->VK->Prop)(t:TA):TE:=λσ H Q=>t σ H λvs H1=>r vs H1 Q
def aD(hc:eM X (.builtin id) r)(hg:Gl X x)(hm:X.mg x=none)(hv:bootBuiltins x=some (.builtin id))(ha:PA X (e::es) t)(hn:x≠"__name__":=by decide)(hdb:(x==("__debug__":Str))=false:=by decide)
  (he:starEach (e::es) X.env=(false,eval e X.env)::starEach es X.env:=by rfl) (hpl:(backTo pos (starEach es X.env)).any (·.1)=false:=by rfl):PE X (.Call (.Name x p) (e::es) [] pos) (tCB r t):=by
 intro pins s σ H Q I h
 refine Fp (ir I hg hm hv ?_ hn hdb)
 exact PyProof.Rows.callWith_builtin1 (bo (ha pos pins s σ H _ I h) λus s1 ⟨vs,H1,I1,r1,q1⟩=>hc pins s1 σ H1 vs us Q I1 r1 q1) he hpl
def aX(hc:eM X (.type T) r)(hg:Gl X x)(hm:X.mg x=none)(hv:bootBuiltins x=some (.type T))(ha:PA X (e::es) t)(hn:x≠"__name__":=by decide)(hdb:(x==("__debug__":Str))=false:=by decide)
  (he:starEach (e::es) X.env=(false,eval e X.env)::starEach es X.env:=by rfl) (hpl:(backTo pos (starEach es X.env)).any (·.1)=false:=by rfl):PE X (.Call (.Name x p) (e::es) [] pos) (tCB r t):=by
 intro pins s σ H Q I h
 refine Fp (ir I hg hm hv ?_ hn hdb)
 exact FZ (bo (ha pos pins s σ H _ I h) λus s1 ⟨vs,H1,I1,r1,q1⟩=>hc pins s1 σ H1 vs us Q I1 r1 q1) he hpl
end
end L2
namespace HT
open PySem PyProof.Rows
section
open PySem.SeqAt
open PySem.AutoSeq1 (wpAny_loadPart')
open PySem.MeetsSeq PySem.MeetsSeq2 PySem.MeetsSeq3
end
def lh(n d:Nat):Option Int->Nat
 |none=>d
 |some v=>if v<0 then(v+(n:Int)).toNat else min v.toNat n
def wM(n d:Nat):lh n d none=d:=rfl
def mU(n d k:Nat):lh n d (some (k:Int))=min k n:=by
 show(if (k:Int)<0 then((k:Int)+(n:Int)).toNat else min (k:Int).toNat n)=min k n
 rw[Ex (by lia),Fv]
end HT
namespace L2
open PySem PySem.Spec PyProof.Rows
abbrev TO:=St->Hp->(Option Int->Hp->Prop)->Prop
def PO(X:Cx)(e:Option Expr)(t:TO):Prop :=
 ∀(pins:List (Addr×Obj)) (s:Shared) (σ:St) (H:Hp) (Q:Option Int->Hp->Prop),Inv X pins σ H s->t σ H Q ->
  wpAny (model X.prog X.w) X.A (evalPart e X.env) (λu s'=>∃o H',Inv X pins σ H' s'/\IsPart u o/\Q o H') X.xe s
def xN:TO:=λ_ H Q=>Q none H
def BL(t:TE):TO:=λσ H Q=>t σ H λx H1=>∃i,x=.int i/\Q (some i) H1
section
variable {X:Cx}{e:Expr}{te:TE}{lo hi:Option Expr}{tl th:TO}{pos p2:Pos}
def iO:PO X none xN:=by
 intro pins s σ H Q I h
 rw[evalPart_none]
 exact Eo ⟨none,H,I,.none,h⟩
def fS(h:PE X e te):PO X (some e) (BL te):=by
 intro pins s σ H Q I hw
 rw[evalPart_some]
 refine bo (h pins s σ H _ I hw) λu s1 hZ=>?_
 obtain⟨x,H1,I1,r1,q1⟩:=hZ
 obtain⟨i,rfl,q⟩:=q1
 obtain⟨t,rfl⟩:=r1
 exact⟨some i,H1,I1,.int i t,q⟩
def Ef(X:Cx)(r:V->Option Int->Option Int->Hp->VK->Prop):Prop :=
 ∀(pins:List (Addr×Obj)) (s:Shared) (σ:St) (H:Hp) (x:V) (v vl vu:Value) (lo hi:Option Int) (sl:Addr) (Q:VK),Inv X pins σ H s->RelV x v->s.heap.IsSliceOf sl vl vu .none->IsPart vl lo->IsPart vu hi->r x lo hi H Q ->
  ∃T id,typeLookup (.type T) "__getitem__"=pure (some (.builtin id))/\s.TypeIs v T/\wpAny (model X.prog X.w) X.A (getItem v (.ref sl)) (EP X pins σ Q) X.xe s
def tSl(r:V->Option Int->Option Int->Hp->VK->Prop)(te:TE)(tl th:TO):TE:=λσ H Q=>te σ H λx H1=>tl σ H1 λl H2=>th σ H2 λu H3=>r x l u H3 Q
def fj{r:V->Option Int->Option Int->Hp->VK->Prop}(hr:Ef X r)(he:PE X e te)(hl:PO X lo tl)(hu:PO X hi th):PE X (.Subscript e (.Slice lo hi none p2) pos) (tSl r te tl th):=by
 intro pins s σ H Q I h
 refine Subscript_ (bo (he pins s σ H _ I h) λv s1 hZ=>?_)
 obtain⟨x,H1,I1,r1,q1⟩:=hZ
 refine wpAny_Slice (bo (hl pins s1 σ H1 _ I1 q1) λvl s2 ⟨l,H2,I2,pl,q2⟩=>bo (hu pins s2 σ H2 _ I2 q2) λvu s3 hZ=>?_)
 obtain⟨u,H3,I3,pu,q3⟩:=hZ
 rw[evalPart_none]
 refine Eo ?_
 have I4:Inv X pins σ H3 { s3 with heap:=s3.heap.push { cls:=.type "slice",data:=.fields #[vl,vu,.none] } }:=I3.kept (t':=s3.toks) λb ob q=>En _ q
 obtain⟨T,id,hT,ht,hg⟩:=hr pins { s3 with heap:=s3.heap.push { cls:=.type "slice",data:=.fields #[vl,vu,.none] } } σ H3 x v vl vu l u s3.heap.objs.size Q I4 r1 (Heap.IsSliceOf.new ..) pl pu q3
 show wpAny (model X.prog X.w) X.A (subscriptTail e (.Slice lo hi none p2) v (.ref s3.heap.objs.size)) (EP X pins σ Q) X.xe { s3 with heap:=s3.heap.push { cls:=.type "slice",data:=.fields #[vl,vu,.none] } }
 exact tail_any (ops:=[.ref s3.heap.objs.size,v]) ht hT hg (by with_unfolding_all rfl)
def kY(xs:List V)(lo hi:Option Int):List V:=(xs.drop (HT.lh xs.length 0 lo)).take (HT.lh xs.length xs.length hi-HT.lh xs.length 0 lo)
def o6(xs:List V)(lo hi:Option Int):(kY xs lo hi).length<=xs.length:=by
 unfold kY
 rw[EL,IQ]
 lia
end
end L2
namespace L2
open PySem PySem.Spec PyProof.Rows
def xE(n:Nat)(i:Int):Option Nat:=if 0<=i then(if i<n then some i.toNat else none) else if -(n:Int)<=i then some (i+n).toNat else none
def uA{α:Type}(xs:List α)(i:Int):Option α:=(xE xs.length i).bind λj=>xs[j]?
def rS{n:Nat}{i:Int}{j:Nat}(h:xE n i=some j):seqIndex? i n=some j/\j<n/\-(n:Int)<=i/\i<n:=by
 unfold xE at h
 by_cases h0:0<=i
 ·rw[EG h0]at h
  by_cases h1:i<n
  ·rw[EG h1]at h
   have e:i.toNat=j:=EO h
   exact⟨by rw[seqIndex_of h0 h1,e],by lia,by lia,h1⟩
  ·rw[Ex h1]at h;cases h
 ·rw[Ex h0]at h
  by_cases h1 : -(n:Int)<=i
  ·rw[EG h1]at h
   have e:(i+n).toNat=j:=EO h
   exact⟨by rw[seqIndex_neg (by lia) h1,e],by lia,h1,by lia⟩
  ·rw[Ex h1]at h;cases h
def nk{α:Type}{xs:List α}{i:Int}{v:α}(h:uA xs i=some v):∃j,seqIndex? i xs.length=some j/\xs[j]?=some v/\j<xs.length/\-(xs.length:Int)<=i/\i<xs.length:=by
 unfold uA at h
 cases e:xE xs.length i with
 |none=>rw[e]at h;cases h
 |some j =>
  rw[e]at h
  obtain⟨h1,h2,h3,h4⟩:=rS e
  exact⟨j,h1,h,h2,h3,h4⟩
def bY{α:Type}{xs:List α}{j:Nat}{v:α}(h:xs[j]?=some v):uA xs (j:Int)=some v:=by
 have hj:j<xs.length:=(EF.mp h).1
 have e:xE xs.length (j:Int)=some j:=by
  unfold xE
  rw[EG (by lia),EG (by lia)];simp
 unfold uA;rw[e];exact h
def rO(b:Expr):Prop:=∀o i,subscripted b false o i=operate [o,i] (getItem o i)
def Bu(X:Cx)(r:R2):Prop :=
 ∀(value slice:Expr) (pins:List (Addr×Obj)) (s:Shared) (σ:St) (H:Hp) (x y:V) (v u:Value) (Q:VK),Inv X pins σ H s->RelV x v->RelV y u->r x y H Q ->
  subscripted slice false v u=operate [v,u] (getItem v u)->wpAny (model X.prog X.w) X.A (subscriptTail value slice v u) (EP X pins σ Q) X.xe s
def MtR(X:Cx)(id:String)(r:V->List V->Hp->VK->Prop):Prop :=
 ∀(pins:List (Addr×Obj)) (s:Shared) (σ:St) (H:Hp) (x:V) (xs:List V) (v:Value) (us:List Value) (Q:VK),Inv X pins σ H s->RelV x v->Vals xs us->r x xs H Q ->
  wpAny (model X.prog X.w) X.A (call (.builtin id) (v::us)) (EP X pins σ Q) X.xe s
section
variable {X:Cx}{a b:Expr}{ta tb:TE}{pos:Pos}
def cN{r:R2}(hr:Bu X r)(ha:PE X a ta)(hb:PE X b tb)(hs:rO b):PE X (.Subscript a b pos) (Bf r ta tb):=by
 intro pins s σ H Q I h
 exact Subscript_ (AM ha hb I h λv u s2 x y H2 I2 rx ry q=>hr a b pins s2 σ H2 x y v u Q I2 rx ry q (hs _ _))
inductive Dp(K:PySem.W.Frag)(x y:V)(H:Hp)(Q:VK):Prop
 |mk (p:Addr) (xs:List V) (i:Int) (v:V) (e1:x=.ref p) (e2:y=.int i) (h:aR K H p xs) (a:uA xs i=some v) (k:Q v H)
inductive Df(K:PySem.W.Frag)(x y:V)(H:Hp)(Q:VK):Prop
 |mk (p:Addr) (xs:List V) (i:Int) (v:V) (e1:x=.ref p) (e2:y=.int i) (h:cT K H p xs) (a:uA xs i=some v) (k:Q v H)
def Ct(K:PySem.W.Frag):R2:=Dp K
def Ck(K:PySem.W.Frag):R2:=Df K
def CG:R2:=λx y H Q=>∃z i c,x=.str z/\y=.int i/\z.length<=sizeLine/\uA z.cps.toList i=some c/\Q (.str ⟨#[c]⟩) H
def gW:Bu X (Ct X.K):=by
 intro value slice pins s σ H x y v u Q I rx ry h hs
 obtain⟨p,xs,i,z,rfl,rfl,hq,he,q⟩:=h
 cases rx
 obtain⟨t,rfl⟩:=ry
 obtain⟨its,r,pl,hz⟩:=I.list hq
 obtain⟨j,h1,h2,h3,h4,h5⟩:=nk he
 obtain⟨w,ew,rw'⟩:=r.get h2
 have hl:=r.length
 have hn:=jj
 have fin:EP X pins σ Q w s:=⟨z,H,I,rw',q⟩
 by_cases h0:0<=i
 ·have hj:i.toNat=j:=by
   rw[seqIndex_of h0 h5]at h1
   exact EO h1
  exact item_listR pl.isList h0 (by lia) (by rw[hj];simpa using ew) fin hs
 ·have hj:(i+(its.toArray.size:Int)).toNat=j:=by
   rw[seqIndex_neg (by lia) h4]at h1
   rw[ED,<-hl]
   exact EO h1
  exact subscriptTail_builtinR (x:=w) pl.isList.typeIs slot_list_getitem.lookup
   (wpAny_getItem_list_neg (Q:=λr s'=>r=w/\EP X pins σ Q r s') pl.isList (by lia) (by rw[ED] <;> lia) (by lia) (by rw[hj];simpa using ew) ⟨rfl,fin⟩) hs
def dC:Bu X (Ck X.K):=by
 intro value slice pins s σ H x y v u Q I rx ry h hs
 obtain⟨p,xs,i,z,rfl,rfl,hq,he,q⟩:=h
 cases rx
 obtain⟨t,rfl⟩:=ry
 obtain⟨its,r,pl,hz⟩:=I.tuple hq
 obtain⟨j,h1,h2,h3,h4,h5⟩:=nk he
 obtain⟨w,ew,rw'⟩:=r.get h2
 have hl:=r.length
 have hn:=jj
 have fin:EP X pins σ Q w s:=⟨z,H,I,rw',q⟩
 exact subscriptTail_builtinR (x:=w) pl.typeIs slot_tuple_getitem.lookup
  (getItem_tuple (j:=j) (Q:=λr s'=>r=w/\EP X pins σ Q r s') pl (by lia) (by lia) (by rw[ED,<-hl];exact h1) (by simpa using ew) ⟨rfl,fin⟩) hs
def vc:Bu X CG:=by
 intro value slice pins s σ H x y v u Q I rx ry h hs
 obtain⟨z,i,c,rfl,rfl,hz,he,q⟩:=h
 obtain⟨t,rfl⟩:=rx
 obtain⟨t',rfl⟩:=ry
 obtain⟨j,h1,h2,h3,h4,h5⟩:=nk he
 have hl:z.cps.toList.length=z.length:=by simp[Str.length]
 rw[hl]at h1 h4 h5
 have hn:=jj
 exact tail_any (typeIs_str s z t) slot_str_getitem.lookup (getItem_str (c:=c) (by
  have e1:decide (i < -(2 ^ 63:Int))=false:=EZ (by lia)
  have e2:decide (i>=2 ^ 63)=false:=EZ (by lia)
  rw[e1,e2,JC]) (by rw[h1];simpa using h2) ⟨.str ⟨#[c]⟩,H,I.tok _,⟨_,rfl⟩,q⟩) hs
def qo(its:List Value)(n j:Nat)(u:Value):Obj.mapSeq (·.setIfInBounds j u) { cls:=.type "list",data:=.seq its.toArray n }={ cls:=.type "list",data:=.seq (its.set j u).toArray n }:=by
 simp[Obj.mapSeq]
theorem Inv.lst{pins:List (Addr×Obj)}{σ:St}{H:Hp}{s:Shared}{p:Addr}{xs:List V}(I:Inv X pins σ H s)(h:H p=some (.lst xs)) :
  ∃(its:List Value) (n:Nat),Vals xs its/\s.heap.get? p=some { cls:=.type "list",data:=.seq its.toArray n }/\xs.length<=sizeLine:=by
 obtain⟨z,its,n,r,e⟩:=I.hok p _ h
 exact⟨its,n,r,e,z⟩
def Inv.AN{pins:List (Addr×Obj)}{σ:St}{H:Hp}{s:Shared}{p:Addr}{xs ys:List V}{its its':List Value}{n n':Nat}{f:Obj->Obj}(I:Inv X pins σ H s)(h:H p=some (.lst xs))
  (ho:s.heap.get? p=some { cls:=.type "list",data:=.seq its.toArray n }) (hf:f { cls:=.type "list",data:=.seq its.toArray n }={ cls:=.type "list",data:=.seq its'.toArray n' }) (r:Vals ys its') (hz:ys.length<=sizeLine) (t:Nat) :
  Inv X pins σ (upd H p (.lst ys)) { s with heap:=s.heap.update p f,toks:=t }:=by
 have e:(s.heap.update p f).get? p=some { cls:=.type "list",data:=.seq its'.toArray n' }:=by
  rw[E8 f ho (by rw[hf] <;> rfl),hf]
 refine I.write (x:=p) (e:=p) (by rw[h];trivial) (.inl rfl) (λb u hb q=>(EU _ _ (E2 hb)).trans q) ⟨_,e⟩ ?_
 exact⟨hz,its',n',r,e⟩
def Bx:V->V->V->Hp->(Hp->Prop)->Prop:=λo i v H Q=>∃p xs k j,o=.ref p/\i=.int k/\H p=some (.lst xs)/\xE xs.length k=some j/\Q (upd H p (.lst (xs.set j v)))
def set_list:Bp X Bx:=by
 intro pins s σ H o i v ov iv u Q I ro ri rv h
 obtain⟨p,xs,k,j,rfl,rfl,hp,hj,q⟩:=h
 cases ro
 obtain⟨t,rfl⟩:=ri
 obtain⟨its,n,r,ho,hz⟩:=I.lst hp
 obtain⟨h1,h2,h3,h4⟩:=rS hj
 have hl:=r.length
 have hn:=jj
 have I':Inv X pins σ (upd H p (.lst (xs.set j v))) { s with heap:=s.heap.update p (Obj.mapSeq (·.setIfInBounds j u)) } :=
  I.AN hp ho (qo its n j u) (r.set rv j) (by rw[Ji];exact hz) s.toks
 by_cases h0:0<=k
 ·have hk:k.toNat=j:=by
   rw[seqIndex_of h0 h4]at h1
   exact EO h1
  exact PySem.W.ki_setAt ho h0 (by lia) (by rw[ED,<-hl];exact h4) (by rw[hk];exact⟨_,I',q⟩)
 ·have hk:(k+(its.toArray.size:Int)).toNat=j:=by
   rw[seqIndex_neg (by lia) h3]at h1
   rw[ED,<-hl]
   exact EO h1
  exact PySem.W.ki_setBack ho (by lia) (by rw[ED,<-hl];exact h3) (by lia) (by rw[hk];exact⟨_,I',q⟩)
def mR(lo hi:Option Int)(n:Nat):(sliceBounds lo hi none n).1=((HT.lh n 0 lo:Nat):Int)/\(sliceBounds lo hi none n).2.1=((HT.lh n n hi:Nat):Int)/\(sliceBounds lo hi none n).2.2=1:=by
 refine⟨?_,?_,rfl⟩
 ·cases lo with
  |none=>simp[sliceBounds,HT.lh]
  |some i =>
   simp only[sliceBounds,HT.lh,Option.getD_none,show(1:Int) > 0 by decide,Iw]
   by_cases h:i<0
   ·simp only[h,Iw] <;> lia
   ·simp only[h,IS] <;> lia
 ·cases hi with
  |none=>simp[sliceBounds,HT.lh]
  |some i =>
   simp only[sliceBounds,HT.lh,Option.getD_none,show(1:Int) > 0 by decide,Iw]
   by_cases h:i<0
   ·simp only[h,Iw] <;> lia
   ·simp only[h,IS] <;> lia
def lA(its:List Value)(lo hi:Option Int):slicePick its.toArray lo hi none=((its.drop (HT.lh its.length 0 lo)).take (HT.lh its.length its.length hi-HT.lh its.length 0 lo)).toArray:=by
 obtain⟨h1,h2,h3⟩:=mR lo hi its.toArray.size
 unfold slicePick
 rw[h1,h2,h3]
 simp only[sliceRange_one,pick_run,ED] <;> rfl
inductive Ec(K:PySem.W.Frag)(x:V)(lo hi:Option Int)(H:Hp)(Q:VK):Prop
 |mk (a:Addr) (xs:List V) (e:x=.ref a) (h:aR K H a xs) (k:∀p,H p=none->Q (.ref p) (upd H p (.lst (kY xs lo hi))))
def C9(K:PySem.W.Frag):V->Option Int->Option Int->Hp->VK->Prop:=Ec K
def nQ:Ef X (C9 X.K):=by
 intro pins s σ H x v vl vu lo hi sl Q I rx hs pl pu h
 obtain⟨a,xs,rfl,hx,q⟩:=h
 cases rx
 obtain⟨its,r,ht,hz⟩:=I.list hx
 have hlen:=r.length
 refine⟨"list",_,slot_list_getitem.lookup,ht.isList.typeIs,?_⟩
 refine wpAny_getItem_list_slice ht.isList hs pl pu .none (by simp) ?_ (by rw[ED] <;> lia)
 rw[lA,<-hlen]
 refine⟨.ref s.heap.objs.size,_,I.laid (t':=s.toks) (o:=.lst (kY xs lo hi)) (λb ob q=>En _ q) (Ep _) ?_,rfl,q _ (I.hok.fresh (Ep _))⟩
 exact⟨ET (o6 xs lo hi) hz,_,0,(r.drop (HT.lh xs.length 0 lo)).take (HT.lh xs.length xs.length hi-HT.lh xs.length 0 lo),Ew _ rfl⟩
def fi:V->Bool
 |.non=>true
 |.bl _=>true
 |.int _=>true
 |.str _=>true
 |_=>false
def rp:V->V->Bool
 |.non,.non=>true
 |.bl a,.bl b=>a==b
 |.bl a,.int b=>(if a then 1 else 0)==b
 |.int a,.bl b=>a==(if b then 1 else 0)
 |.int a,.int b=>a==b
 |.str a,.str b=>a==b
 |_,_=>false
def rf{A:Around}{s:Shared}{y x:V}{u v:Value}(ry:RelV y u)(rx:RelV x v)(fy:fi y=true)(fx:fi x=true):SeqAt.EqAt A s u v (rp y x):=by
 cases y with
 |non =>
  cases ry
  cases x with
  |non=>cases rx;exact SeqAt.EqAt.same _
  |bl b=>cases rx;exact SeqAt.EqAt.none_bool b
  |int b=>obtain⟨t,rfl⟩:=rx;exact SeqAt.EqAt.none_int b t
  |str b=>obtain⟨t,rfl⟩:=rx;exact SeqAt.EqAt.none_str b t
  |_=>exact absurd (show false=true from fx) EJ
 |bl a =>
  cases ry
  cases x with
  |non=>cases rx;exact SeqAt.EqAt.bool_none a
  |bl b=>cases rx;exact SeqAt.EqAt.bool_bool a b
  |int b=>obtain⟨t,rfl⟩:=rx;exact SeqAt.EqAt.bool_int a b t
  |str b=>obtain⟨t,rfl⟩:=rx;exact SeqAt.EqAt.bool_str a b t
  |_=>exact absurd (show false=true from fx) EJ
 |int a =>
  obtain⟨t',rfl⟩:=ry
  cases x with
  |non=>cases rx;exact SeqAt.EqAt.int_none a t'
  |bl b=>cases rx;exact SeqAt.EqAt.int_bool a t' b
  |int b=>obtain⟨t,rfl⟩:=rx;exact SeqAt.EqAt.int_int a t' b t
  |str b=>obtain⟨t,rfl⟩:=rx;exact SeqAt.EqAt.int_str a t' b t
  |_=>exact absurd (show false=true from fx) EJ
 |str a =>
  obtain⟨t',rfl⟩:=ry
  cases x with
  |non=>cases rx;exact SeqAt.EqAt.str_none a t'
  |bl b=>cases rx;exact SeqAt.EqAt.str_bool a t' b
  |int b=>obtain⟨t,rfl⟩:=rx;exact SeqAt.EqAt.str_int a t' b t
  |str b=>obtain⟨t,rfl⟩:=rx;exact SeqAt.EqAt.str_str a t' b t
  |_=>exact absurd (show false=true from fx) EJ
 |_=>exact absurd (show false=true from fy) EJ
def qV(x:V)(u:Value):Bool:=match u with
 |.none=>rp .non x
 |.bool b=>rp (.bl b) x
 |.int i _=>rp (.int i) x
 |.str z _=>rp (.str z) x
 |_=>false
def u6{x y:V}{u:Value}(r:RelV y u)(f:fi y=true):qV x u=rp y x:=by
 cases y with
 |non=>cases r;rfl
 |bl b=>cases r;rfl
 |int i=>obtain⟨t,rfl⟩:=r;rfl
 |str z=>obtain⟨t,rfl⟩:=r;rfl
 |_=>exact absurd (show false=true from f) EJ
def jO{x:V}{xs:List V}{us:List Value}(h:Vals xs us)(f:xs.all fi=true):us.any (qV x)=xs.any λy=>rp y x:=by
 induction h with
 |nil=>rfl
 |cons r t ih =>
  rw[Hz,GQ]at f
  rw[Hb,Hb,u6 r f.1,ih f.2]
theorem gp{A:Around}{s:Shared}{x:V}{v:Value}(rx:RelV x v)(fx:fi x=true):∀{xs:List V} {us:List Value},Vals xs us->xs.all fi=true->∀u∈us,SeqAt.EqAt A s u v (qV x u)
 |_,_,.nil,_=>λu hu=>by cases hu
 |y::xs,u::us,.cons r t,f=>λu' hu=>by
  rw[Hz,GQ]at f
  rcases EB.mp hu with rfl|hu
  ·rw[u6 r f.1];exact rf r rx f.1 fx
  ·exact gp rx fx t f.2 u' hu
def An(x:V)(xs:List V):Bool:=xs.any λy=>rp y x
def rIn(K:PySem.W.Frag)(neg:Bool):R2:=λx y H Q=>∃p xs,y=.ref p/\(aR K H p xs\/cT K H p xs)/\fi x=true/\xs.all fi=true/\Q (.bl (if neg then !An x xs else An x xs)) H
def my:g9 X (compareOp .In) (rIn X.K false):=by
 intro pins s σ H x y v u Q I rx ry h
 obtain⟨p,xs,rfl,hq,fx,fs,q⟩:=h
 cases ry
 rcases hq with hq|hq
 ·obtain⟨its,r,pl,hz⟩:=I.list hq
  refine SeqAt.in_listAt (qV x) pl.isList (λw hw=>gp rx fx r fs w (by simpa using hw)) ⟨.bl _,H,I,rfl,?_⟩
  rw[show its.toArray.any (qV x)=its.any (qV x) by simp,jO r fs]
  exact q
 ·obtain⟨its,r,pl,hz⟩:=I.tuple hq
  refine SeqAt.in_tupleAt (qV x) pl (λw hw=>gp rx fx r fs w (by simpa using hw)) ⟨.bl _,H,I,rfl,?_⟩
  rw[show its.toArray.any (qV x)=its.any (qV x) by simp,jO r fs]
  exact q
def d5:g9 X (compareOp .NotIn) (rIn X.K true):=by
 intro pins s σ H x y v u Q I rx ry h
 obtain⟨p,xs,rfl,hq,fx,fs,q⟩:=h
 cases ry
 rcases hq with hq|hq
 ·obtain⟨its,r,pl,hz⟩:=I.list hq
  refine SeqAt.notIn_listAt (qV x) pl.isList (λw hw=>gp rx fx r fs w (by simpa using hw)) ⟨.bl _,H,I,rfl,?_⟩
  rw[show its.toArray.any (qV x)=its.any (qV x) by simp,jO r fs]
  exact q
 ·obtain⟨its,r,pl,hz⟩:=I.tuple hq
  refine SeqAt.notIn_tupleAt (qV x) pl (λw hw=>gp rx fx r fs w (by simpa using hw)) ⟨.bl _,H,I,rfl,?_⟩
  rw[show its.toArray.any (qV x)=its.any (qV x) by simp,jO r fs]
  exact q
inductive JLo(K:PySem.W.Frag)(xs:List V)(H:Hp)(Q:VK):Prop
 |mk (p:Addr) (ys:List V) (e:xs=[.ref p]) (h:aR K H p ys\/cT K H p ys) (k:∀l,H l=none->Q (.ref l) (upd H l (.lst ys)))
def bj:eM X (.type "list") (JLo X.K):=by
 intro pins s σ H xs us Q I r h
 obtain⟨p,ys,rfl,hq,q⟩:=h
 obtain⟨u,rfl,rx⟩:=vals1 r
 cases rx
 have fin:∀(its:List Value),Vals ys its->ys.length<=sizeLine->∀(h':Heap) (c':Nat),(∀b o',s.heap.get? b=some o'->h'.get? b=some o') ->
   h'.get? s.heap.objs.size=some { cls:=.type "list",dict:=none,data:=.seq its.toArray c',slots:=#[] }->EP X pins σ Q (.ref s.heap.objs.size) { s with heap:=h' }:=λits r' hz h' c' kp e =>
  ⟨.ref s.heap.objs.size,_,I.laid (t':=s.toks) kp (Ep _) (show bc X.prog X.w _ h' _ (.lst ys) from⟨hz,its,c',r',e⟩),rfl,q _ (I.hok.fresh (Ep _))⟩
 rcases hq with hq|hq
 ·obtain⟨its,r',pl,hz⟩:=I.list hq
  have hlen:=r'.length
  obtain⟨o,ho,hc,n,hd⟩:=pl.isList
  exact call_list_seq p (.inl rfl) ho hc hd (λh' c' kp e=>fin its r' hz h' c' kp e) (by simp only[ED] <;> lia)
 ·obtain⟨its,r',pl,hz⟩:=I.tuple hq
  have hlen:=r'.length
  obtain⟨o,ho,hc,n,hd⟩:=pl
  exact call_list_seq p (.inr rfl) ho hc hd (λh' c' kp e=>fin its r' hz h' c' kp e) (by simp only[ED] <;> lia)
def bE:eM X (.type "tuple") (λxs H Q=>∃p ys,xs=[.ref p]/\((aR X.K H p ys/\∀l,H l=none->Q (.ref l) (upd H l (.tup ys)))\/(cT X.K H p ys/\Q (.ref p) H))):=by
 intro pins s σ H xs us Q I r h
 obtain⟨p,ys,rfl,h⟩:=h
 obtain⟨u,rfl,rx⟩:=vals1 r
 cases rx
 rcases h with⟨hq,q⟩|⟨hq,q⟩
 ·obtain⟨its,r',pl,hz⟩:=I.list hq
  have hlen:=r'.length
  refine call_tuple_list pl.isList (λh' kp=>?_) (by simp only[ED] <;> lia)
  have I1:Inv X pins σ H { s with heap:=h' }:=I.kept (t':=s.toks) kp
  have I2:Inv X pins σ (upd H h'.objs.size (.tup ys)) { s with heap:=h'.push { cls:=.type "tuple",data:=.seq its.toArray } } :=
   I1.laid (t':=s.toks) (λb o e=>En _ e) (Ep _) (show bc X.prog X.w _ _ _ (.tup ys) from⟨hz,its,r',IsTup.new _ _⟩)
  exact⟨.ref h'.objs.size,_,I2,rfl,q _ (I1.hok.fresh (Ep _))⟩
 ·obtain⟨its,r',pl,hz⟩:=I.tuple hq
  exact call_tuple_same pl ⟨.ref p,H,I,rfl,q⟩
def DY(K:PySem.W.Frag)(T:String)(x:V)(H:Hp):Prop:=match x with
 |.str _=>T="str"
 |.int _=>T="int"
 |.ref p=>(T="list"/\∃xs,aR K H p xs)\/(T="tuple"/\∃o,K.lookup p=some o/\o.cls=.type "tuple"/\o.dict=none) \/
   (T="dict"/\((∃kvs,H p=some (.dK kvs))\/∃kvs,H p=some (.dT kvs)))\/(T="set"/\∃S n,H p=some (.set S n))
 |_=>False
def vJ{pins:List (Addr×Obj)}{σ:St}{H:Hp}{s:Shared}{T:String}{x:V}{v:Value}(I:Inv X pins σ H s)(r:RelV x v)(ty:DY X.K T x H) :
  s.TypeIs v T/\∀a,v=.ref a->∃ob,s.heap.get? a=some ob/\ob.dict=none:=by
 cases x with
 |str z =>
  obtain⟨t,rfl⟩:=r
  cases (show T="str" from ty)
  exact⟨typeIs_str s z t,λ_ e=>nomatch e⟩
 |int i =>
  obtain⟨t,rfl⟩:=r
  cases (show T="int" from ty)
  exact⟨typeIs_int s i t,λ_ e=>nomatch e⟩
 |ref p =>
  cases r
  rcases ty with⟨rfl,xs,hq⟩|⟨rfl,o,hk,hc,hd⟩|⟨rfl,hk⟩|⟨rfl,S,n,hk⟩
  ·obtain⟨its,_,pl,_⟩:=I.list hq
   refine⟨pl.isList.typeIs,λa e=>?_⟩
   cases e
   obtain⟨o,n,e,c,hd,_⟩:=pl
   exact⟨o,e,hd⟩
  ·refine⟨⟨o,I.eD p o hk,hc⟩,λa e=>?_⟩
   cases e
   exact⟨o,I.eD _ o hk,hd⟩
  ·have z:∃o,s.heap.get? p=some o/\o.ExactDict:=by
    rcases hk with⟨kvs,hk⟩|⟨kvs,hk⟩
    ·obtain⟨_,_,_,_,o,_,_,e,ex,_⟩:=I.hok p _ hk
     exact⟨o,e,ex⟩
    ·obtain⟨_,_,_,_,o,_,_,e,ex,_⟩:=I.hok p _ hk
     exact⟨o,e,ex⟩
   obtain⟨o,e,ex⟩:=z
   refine⟨⟨o,e,ex.1⟩,λa e2=>?_⟩
   cases e2
   exact⟨o,e,ex.2.1⟩
  ·obtain⟨o,_,_,_,e,ex,_⟩:=I.hok p _ hk
   refine⟨⟨o,e,ex.1⟩,λa e2=>?_⟩
   cases e2
   exact⟨o,e,ex.2.1⟩
 |_=>exact False.elim ty
def Co(K:PySem.W.Frag)(T:String)(r:V->List V->Hp->VK->Prop)(to:TE):TE:=λσ H Q=>to σ H λx H1=>DY K T x H1/\r x [] H1 Q
def tBM(K:PySem.W.Frag)(T:String)(r:V->List V->Hp->VK->Prop)(to:TE)(t:TA):TE:=λσ H Q=>to σ H λx H1=>DY K T x H1/\t σ H1 λxs H2=>r x xs H2 Q
variable {o e:Expr}{es:List Expr}{to:TE}{t:TA}{name:Str}{apos cpos:Pos}{T id:String}{r:V->List V->Hp->VK->Prop}
def wd(pa:PlainAttrs T)(slot:Slot T name id)(hty:typeOf (.builtin id)=pure (.type "method_descriptor"))(hm:MtR X id r)(ho:PE X o to)
  (hbase:attributeBase o name X.env (eval o X.env)=eval o X.env:=by rfl) (hline:(apos.endLine==cpos.line)=true:=by rfl):PE X (.Call (.Attribute o name apos) [] [] cpos) (Co X.K T r to):=by
 intro pins s σ H Q I h
 refine Jc hbase hline (bo (ho pins s σ H _ I h) λv s1 hZ=>?_)
 obtain⟨x,H1,I1,r1,ty,q1⟩:=hZ
 obtain⟨h1,h2⟩:=vJ I1 r1 ty
 exact⟨T,id,pa,slot,hty,h1,h2,Hh rfl (JF (hm pins s1 σ H1 x [] v [] Q I1 r1 .nil q1))⟩
def gS(pa:PlainAttrs T)(slot:Slot T name id)(hty:typeOf (.builtin id)=pure (.type "method_descriptor"))(hm:MtR X id r)(ho:PE X o to)(ha:PA X (e::es) t)
  (hbase:attributeBase o name X.env (eval o X.env)=eval o X.env:=by rfl)
  (hfew:((backTo cpos (starEach (e :: es) X.env)).all (λx=>!x.1) && (backToKw cpos (keywordEach [] X.env)).all (λx=>x.1.isSome)
   && decide ((e::es).length+([]:List Keyword).length+(if ([]:List Keyword).isEmpty then 0 else 1)<30))=true:=by rfl)
  (hline:(apos.endLine==cpos.line)=true:=by rfl) (hs:starEach (e::es) X.env=(false,eval e X.env)::starEach es X.env:=by rfl) (hplain:(backTo cpos (starEach es X.env)).any (·.1)=false:=by rfl) :
  PE X (.Call (.Attribute o name apos) (e::es) [] cpos) (tBM X.K T r to t):=by
 intro pins s σ H Q I h
 refine wpAny_Call_method_late hbase hfew hline rfl (bo (ho pins s σ H _ I h) λv s1 hZ=>?_)
 obtain⟨x,H1,I1,r1,ty,q1⟩:=hZ
 obtain⟨h1,h2⟩:=vJ I1 r1 ty
 refine⟨T,id,pa,slot,hty,h1,h2,?_⟩
 have hA:=ha cpos pins s1 σ H1 _ I1 q1
 rw[hs]at hA ⊢
 refine Hh (by show(false || (backTo cpos (starEach es X.env)).any (·.1))=false;rw[hplain] <;> rfl) (Ig ?_)
 exact bo hA λus s2 ⟨vs,H2,I2,r2,q2⟩=>hm pins s2 σ H2 x vs v us Q I2 r1 r2 q2
end
end L2
namespace L2
open PySem PySem.Spec PyProof.Rows
def Dk(X:Cx)(id:String)(r:V->List V->Hp->VK->Prop):Prop :=
 ∀(pins:List (Addr×Obj)) (s:Shared) (σ:St) (H:Hp) (x:V) (xs:List V) (v:Value) (us:List Value) (Q:VK),Inv X pins σ H s->RelV x v->Vals xs us->r x xs H Q ->
  wpAny (model X.prog X.w) X.A (call (.builtin id) (v::us)) (EP X pins σ Q) X.xe s
def Vals.one{x:V}{us:List Value}(h:Vals [x] us):∃u,us=[u]/\RelV x u:=by
 cases h with
 |cons r q =>
  cases q
  exact⟨_,rfl,r⟩
def Vals.zero:∀{us:List Value},Vals [] us->us=[]
 |_,.nil=>rfl
theorem Vals.reverse{xs:List V}{us:List Value}(h:Vals xs us):Vals xs.reverse us.reverse:=by
 induction h with
 |nil=>exact .nil
 |cons r t ih=>rw[IJ,IJ];exact Vals.append ih (.cons r .nil)
theorem Vals.rep{xs:List V}{us:List Value}(h:Vals xs us):∀k:Nat,Vals (List.replicate k xs).flatten (List.replicate k us).flatten
 |0=>.nil
 |k+1=>by
  rw[Fl,Fl,Hk,Hk]
  exact Vals.append h (Vals.rep h k)
theorem foldl_rep(its:List Value):∀(k:Nat) (acc:List Value),
  List.foldl (λx1 x2=>x1++x2) acc.toArray (List.replicate k its.toArray)=(acc++(List.replicate k its).flatten).toArray
 |0,acc=>by simp
 |k+1,acc=>by
  have e:acc.toArray++its.toArray=(acc++its).toArray:=by simp
  have e2:(acc++its)++(List.replicate k its).flatten=acc++(List.replicate (k+1) its).flatten:=by
   rw[Fl,Hk,FY]
  rw[<-e2,<-foldl_rep its k (acc++its),<-e,Fl,Gg]
section
variable {X:Cx}{pins:List (Addr×Obj)}{σ:St}{H:Hp}{s:Shared}{l b:Addr}{xs ys zs:List V}
def Inv.BH{its its':List Value}{n:Nat}{f:Array Value->Array Value}{t':Nat}(I:Inv X pins σ H s)(hH:H l=some (.lst xs))
  (e:s.heap.get? l=some { cls:=.type "list",data:=.seq its.toArray n }) (hf:f its.toArray=its'.toArray) (hv:Vals ys its') (hz:ys.length<=sizeLine) :
  Inv X pins σ (upd H l (.lst ys)) { s with heap:=s.heap.update l (Obj.mapSeq f),toks:=t' }:=by
 have q:=PySem.IsL.update e f
 rw[hf]at q
 refine I.write (x:=l) (e:=l) (by rw[hH];exact trivial) (.inl rfl) (λb' u hb hu=>(EU s.heap (Obj.mapSeq f) (E2 hb)).trans hu) ⟨_,q⟩ ?_
 exact⟨hz,its',_,hv,q⟩
def Inv.xY{its:List Value}{t':Nat}(I:Inv X pins σ H s)(hv:Vals ys its)(hz:ys.length<=sizeLine) :
  Inv X pins σ (upd H s.heap.objs.size (.lst ys)) { s with heap:=s.heap.push { cls:=.type "list",data:=.seq its.toArray },toks:=t' } :=
 I.laid (λ_ _ q=>En _ q) (Ep _) ⟨hz,its,0,hv,Ew _ rfl⟩
theorem Inv.fresh(I:Inv X pins σ H s):H s.heap.objs.size=none:=I.hok.fresh (Ep _)
def Inv.qZ(I:Inv X pins σ H s)(hH:H l=some (.lst xs)):xs.length<=sizeLine/\∃(its:List Value) (n:Nat),Vals xs its/\xs.length=its.length/\s.heap.get? l=some { cls:=.type "list",data:=.seq its.toArray n }:=by
 obtain⟨z,its,n,r,e⟩:=I.hok l _ hH
 exact⟨z,its,n,r,r.length,e⟩
def xb{n:Nat}(h:n<=sizeLine):Builtin.List.listTooLong n=false:=by
 unfold Builtin.List.listTooLong
 exact EZ (by lia)
end
section
variable {X:Cx}
inductive Dn(x:V)(vs:List V)(H:Hp)(Q:VK):Prop
 |mk (l:Addr) (xs:List V) (y:V) (e1:x=.ref l) (e2:vs=[y]) (h:H l=some (.lst xs)) (z:xs.length<sizeLine) (k:Q .non (upd H l (.lst (xs++[y]))))
def xH:V->List V->Hp->VK->Prop:=Dn
def bC:Dk X "list.append" xH:=by
 intro pins s σ H x vs v us Q I rx rv h
 obtain⟨l,xs,y,rfl,rfl,hH,hz,q⟩:=h
 cases rx
 obtain⟨u,rfl,ru⟩:=rv.one
 obtain⟨z,its,n,r,hl,e⟩:=I.qZ hH
 refine IL F.slot_list_append ⟨_,e,rfl⟩ F.entry_list_append (F.args_list_append_2 _ _) (PySem.list_append l its.toArray n u (by rw[ED];lia)) ⟨e,?_⟩
 refine⟨.non,_,I.BH (its':=its++[u]) hH e (by simp) (r.append (.cons ru .nil)) ?_,rfl,q⟩
 rw[Eu,Ia]
 lia
def AG:V->List V->Hp->VK->Prop:=λx vs H Q=>∃l xs,x=.ref l/\vs=[]/\H l=some (.lst xs)/\Q .non (upd H l (.lst []))
def vC:Dk X "list.clear" AG:=by
 intro pins s σ H x vs v us Q I rx rv h
 obtain⟨l,xs,rfl,rfl,hH,q⟩:=h
 cases rx
 have hus:=rv.zero
 subst hus
 obtain⟨z,its,n,r,hl,e⟩:=I.qZ hH
 refine IL F.slot_list_clear ⟨_,e,rfl⟩ F.entry_list_clear (F.args_list_clear_1 _) (AutoSeq1.list_clear_list_0 l its.toArray n (by rw[ED];lia)) ⟨e,?_⟩
 exact⟨.non,_,I.BH (its':=[]) (ys:=[]) hH e rfl .nil (EV _),rfl,q⟩
inductive Cs(x y:V)(H:Hp)(Q:VK):Prop
 |mk (l b:Addr) (xs zs:List V) (e1:x=.ref l) (e2:y=.ref b) (h1:H l=some (.lst xs)) (h2:H b=some (.lst zs)) (z:xs.length+zs.length<=sizeLine) (k:∀p,H p=none->Q (.ref p) (upd H p (.lst (xs++zs))))
def CJ:R2:=Cs
def jl:g9 X (binaryOp .Add) CJ:=by
 intro pins s σ H x y v u Q I rx ry h
 obtain⟨l,b,xs,zs,rfl,rfl,hH,hB,hz,q⟩:=h
 cases rx
 cases ry
 obtain⟨z,its,n,r,hl,e⟩:=I.qZ hH
 obtain⟨z2,its2,n2,r2,hl2,e2⟩:=I.qZ hB
 refine PySem.P.add_list e e2 ?_ (by rw[ED,ED];lia)
 have ea:its.toArray++its2.toArray=(its++its2).toArray:=by simp
 rw[ea]
 exact⟨.ref _,_,I.xY (t':=s.toks) (r.append r2) (by rw[Eu];lia),rfl,q _ I.fresh⟩
def El:R2:=λx y H Q=>∃l k xs,x=.ref l/\y=.int k/\H l=some (.lst xs)/\-(2 ^ 63)<=k/\k<2 ^ 63/\xs.length*k.toNat<=sizeLine /\
 ∀p,H p=none->Q (.ref p) (upd H p (.lst (List.replicate k.toNat xs).flatten))
def len_rep{α:Type}(xs:List α)(k:Nat):(List.replicate k xs).flatten.length=k*xs.length:=by
 induction k with
 |zero=>simp
 |succ k ih=>rw[Fl,Hk,Eu,ih,Nat.succ_mul,Nat.add_comm]
def Ao:g9 X (binaryOp .Mult) El:=by
 intro pins s σ H x y v u Q I rx ry h
 obtain⟨l,k,xs,rfl,rfl,hH,h1,h2,hz,q⟩:=h
 cases rx
 obtain⟨t,rfl⟩:=ry
 obtain⟨z,its,n,r,hl,e⟩:=I.qZ hH
 have hlen:its.toArray.size*k.toNat<=sizeLine:=by rw[ED,<-hl];exact hz
 have hcap:¬its.toArray.size*k.toNat > (2 ^ 63-1) / 8:=by
  have:(sizeLine:Nat)<=(2 ^ 63-1) / 8:=by decide
  lia
 have hfit:¬(!Builtin.List.listFitsIndex k)=true:=by
  rw[fitsIndex_both h1 h2]
  exact EJ
 have hlong:¬Builtin.List.listTooLong (its.toArray.size*k.toNat)=true:=by
  rw[xb hlen]
  exact EJ
 have hnew:List.foldl (λx1 x2=>x1++x2) #[] (List.replicate (if its.toArray.isEmpty=true then 0 else k.toNat) its.toArray)=(List.replicate k.toNat its).flatten.toArray:=by
  have f0:∀m:Nat,List.foldl (λx1 x2=>x1++x2) #[] (List.replicate m its.toArray)=(List.replicate m its).flatten.toArray:=λm=>by
   have:=foldl_rep its m []
   rw[List.nil_append]at this
   exact this
  rw[f0]
  cases its with
  |nil=>simp
  |cons a r'=>rw[Ex (by simp)]
 refine wpAny_binaryOp_repeat_ref (T:="list") (U:="int") (by decide) ⟨_,e,rfl⟩ (λs'=>typeIs_int s' k t) noFill_list_mul F.fills_int_mul F.slot_int_rmul repeat_list F.slot_int_index.lookup
  (IL F.slot_int_rmul (typeIs_int s k t) F.entry_int_rmul (F.args_int_rmul_2 _ _) (int___rmul___int_list k t l its.toArray n)
   ⟨e,rfl,⟨_,e,rfl⟩,IL F.slot_list_mul ⟨_,e,rfl⟩ F.entry_list_mul (F.args_list_mul_2 _ _) (AutoListH.list___mul___list_int_3 l its.toArray n k t hfit hcap hlong) ⟨e,?_⟩⟩)
 rw[hnew]
 exact⟨.ref _,_,I.xY (t':=s.toks) (r.rep k.toNat) (by rw[len_rep,Nat.mul_comm];exact hz),rfl,q _ I.fresh⟩
end
section
variable {X:Cx}
end
end L2
namespace L2
open PySem PySem.Spec PyProof.Rows
section
variable {κ:Type}[DecidableEq κ]
def cA(kvs:List (κ×V))(k:κ):Option V:=(kvs.find? λkv=>decide (kv.1=k)).map (·.2)
def putK(kvs:List (κ×V))(k:κ)(v:V):List (κ×V) :=
 if (kvs.any λkv=>decide (kv.1=k))=true then kvs.map (λkv=>if kv.1=k then(kv.1,v) else kv) else kvs++[(k,v)]
def bJ{p:κ×V}{r:List (κ×V)}{k:κ}(e:p.1=k):cA (p::r) k=some p.2:=by simp[cA,Gv,e]
def bA{p:κ×V}{r:List (κ×V)}{k:κ}(e:¬p.1=k):cA (p::r) k=cA r k:=by simp[cA,Gv,e]
theorem gC(k:κ):∀kvs:List (κ×V),(kvs.any λkv=>decide (kv.1=k))=(cA kvs k).isSome
 |[]=>rfl
 |p::r=>by
  rw[Hb]
  by_cases e:p.1=k
  ·simp only[bJ e,EM e,Bool.true_or,Option.isSome_some]
  ·rw[bA e,EZ e,Bool.false_or];exact gC k r
theorem mG(k j:κ)(y:V):∀kvs:List (κ×V),cA kvs k=none->cA (kvs++[(k,y)]) j=if j=k then some y else cA kvs j
 |[],_=>by
  by_cases e:k=j
  ·rw[EG e.symm];exact bJ (p:=(k,y)) e
  ·rw[Ex (λz=>e z.symm)];exact bA (p:=(k,y)) e
 |p::r,hn=>by
  rw[List.cons_append]
  have hk:¬p.1=k:=λz=>by rw[bJ z]at hn;cases hn
  rw[bA hk]at hn
  have ih:=mG k j y r hn
  by_cases e:p.1=j
  ·rw[bJ e,bJ e,Ex (λz=>hk (e.trans z))]
  ·rw[bA e,bA e,ih]
def jD(kvs:List (κ×V))(k:κ)(v:V):(putK kvs k v).length<=kvs.length+1:=by
 unfold putK
 split
 ·rw[Et];lia
 ·rw[Eu,ER,Jj];lia
def fm{kvs:List (κ×V)}{k:κ}(v:V)(h:cA kvs k=none):putK kvs k v=kvs++[(k,v)]:=by
 unfold putK
 rw[gC,h]
 exact Ex (by decide)
def gb.jv{o:Option V}{u:Option Value}(r:gb o u):o.isSome=u.isSome:=by
 cases o with
 |none=>cases u with
  |none=>rfl
  |some _=>exact(show False from r).elim
 |some _=>cases u with
  |none=>exact(show False from r).elim
  |some _=>rfl
def KV.val{kvs:List (κ×V)}{vs:List (κ×Value)}(r:KV kvs vs)(k:κ):gb (cA kvs k) (valueAt vs k):=by
 unfold KV at r
 induction r with
 |nil=>exact True.intro
 |@cons p q ps qs h t ih =>
  obtain⟨h1,h2⟩:=h
  by_cases e:p.1=k
  ·have e':q.1=k:=h1.symm.trans e
   have b:valueAt (q::qs) k=some q.2:=by simp[valueAt,Gv,e']
   rw[bJ e,b];exact h2
  ·have e':¬q.1=k:=λz=>e (h1.trans z)
   have b:valueAt (q::qs) k=valueAt qs k:=by simp[valueAt,Gv,e']
   rw[bA e,b];exact ih
theorem KV.any{kvs:List (κ×V)}{vs:List (κ×Value)}(r:KV kvs vs)(k:κ):(kvs.any λkv=>decide (kv.1=k))=vs.any λkv=>decide (kv.1=k):=by
 unfold KV at r
 induction r with
 |nil=>rfl
 |cons h t ih=>rw[Hb,Hb,ih,h.1]
def KV.AX{kvs:List (κ×V)}{vs:List (κ×Value)}(r:KV kvs vs)(k:κ){y:V}{u:Value}(ry:RelV y u) :
  KV (kvs.map λkv=>if kv.1=k then(kv.1,y) else kv) (vs.map λkv=>if kv.1=k then(kv.1,u) else kv):=by
 unfold KV at r ⊢
 induction r with
 |nil=>exact .nil
 |@cons p q ps qs h t ih =>
  rw[Ff,Ff]
  refine .cons ?_ ih
  obtain⟨h1,h2⟩:=h
  by_cases e:p.1=k
  ·rw[EG e,EG (h1.symm.trans e)];exact⟨h1,ry⟩
  ·rw[Ex e,Ex (λz=>e (h1.trans z))];exact⟨h1,h2⟩
def KV.put{kvs:List (κ×V)}{vs:List (κ×Value)}(r:KV kvs vs)(k:κ){y:V}{u:Value}(ry:RelV y u):KV (putK kvs k y) (stored vs k u):=by
 unfold putK stored
 rw[r.any k]
 by_cases e:(vs.any λkv=>decide (kv.1=k))=true
 ·rw[EG e,EG e];exact r.AX k ry
 ·rw[Ex e,Ex e];exact FW r ⟨rfl,ry⟩
def KV.keys{kvs:List (κ×V)}{vs:List (κ×Value)}(r:KV kvs vs):kvs.map (·.1)=vs.map (·.1):=by
 unfold KV at r
 induction r with
 |nil=>rfl
 |cons h t ih=>rw[Ff,Ff,ih,h.1]
theorem KV.length{kvs:List (κ×V)}{vs:List (κ×Value)}(r:KV kvs vs):kvs.length=vs.length:=EW r
end
def rg{P:Program}{w:World}{k:Key}{u:Value}(r:RelV (kV k) u):(aU P w).is k u=true:=by
 cases k with
 |inl i=>obtain⟨t,e⟩:=(show ∃t,u=Value.int i t from r);subst e;exact pD P w i t
 |inr x=>obtain⟨t,e⟩:=(show ∃t,u=Value.str x t from r);subst e;exact oq P w x t
theorem lW{P:Program}{w:World}:∀{ks:List Key} {us:List Value},Vals (ks.map kV) us->ItemsAre (aU P w) ks us
 |[],_,r=>by rw[List.map_nil]at r;cases r;exact .nil
 |k::ks,_,r=>by
  rw[Ff]at r
  cases r with
  |cons h t=>exact .cons (rg h) (lW t)
abbrev KT(H:Hp):List (List Key×V)->List (List Key×Addr×Value)->Prop:=Paired λp q=>p.1=q.1/\H q.2.1=some (.tup (p.1.map kV))/\RelV p.2 q.2.2
def KT.val{H:Hp}{kvs:List (List Key×V)}{xs:List (List Key×Addr×Value)}(r:KT H kvs xs)(k:List Key):gb (cA kvs k) ((atKey xs k).map (·.2)):=by
 induction r with
 |nil=>exact True.intro
 |@cons p q ps qs h t ih =>
  obtain⟨h1,_,h2⟩:=h
  by_cases e:p.1=k
  ·have e':q.1=k:=h1.symm.trans e
   have b:atKey (q::qs) k=some q.2:=by simp[atKey,Gv,e']
   rw[bJ e,b];exact h2
  ·have e':¬q.1=k:=λz=>e (h1.trans z)
   have b:atKey (q::qs) k=atKey qs k:=by simp[atKey,Gv,e']
   rw[bA e,b];exact ih
def KT.AX{H:Hp}{kvs:List (List Key×V)}{xs:List (List Key×Addr×Value)}(r:KT H kvs xs)(k:List Key){y:V}{u:Value}(ry:RelV y u) :
  KT H (kvs.map λkv=>if kv.1=k then(kv.1,y) else kv) (xs.map (putAt k u)):=by
 induction r with
 |nil=>exact .nil
 |@cons p q ps qs h t ih =>
  rw[Ff,Ff]
  refine .cons ?_ ih
  obtain⟨h1,h2,h3⟩:=h
  unfold putAt
  by_cases e:p.1=k
  ·rw[EG e,EG (h1.symm.trans e)];exact⟨h1,h2,ry⟩
  ·rw[Ex e,Ex (λz=>e (h1.trans z))];exact⟨h1,h2,h3⟩
def KT.put{H:Hp}{kvs:List (List Key×V)}{xs:List (List Key×Addr×Value)}(r:KT H kvs xs)(k:List Key){b:Addr}{y:V}{u:Value}(hb:H b=some (.tup (k.map kV)))(ry:RelV y u) :
  KT H (putK kvs k y) (storedH xs k b u):=by
 have e:(kvs.any λkv=>decide (kv.1=k))=(atKey xs k).isSome:=by
  rw[gC,(r.val k).jv,Option.isSome_map]
 unfold putK storedH
 rw[e]
 by_cases q:(atKey xs k).isSome=true
 ·rw[EG q,EG q];exact r.AX k ry
 ·rw[Ex q,Ex q];exact FW r ⟨rfl,hb,ry⟩
def KT.keeps{H H':Hp}{kvs:List (List Key×V)}{xs:List (List Key×Addr×Value)}(r:KT H kvs xs)(ht:∀b ys,H b=some (.tup ys)->H' b=some (.tup ys)):KT H' kvs xs :=
 Paired.dy r λ_ _ z=>⟨z.1,ht _ _ z.2.1,z.2.2⟩
section
variable {P:Program}{w:World}{H:Hp}{h:Heap}{a:Addr}
def yU{u:HO}(ok:gF P w H h)(e:Rd H a u):bc P w H h a u:=e.ok ok
def lR{kvs:List (Key×V)}(ok:gF P w H h)(e:Rd H a (.dK kvs)):kvs.length<=sizeLine/\(a==sysModules)=false/\∃vs,KV kvs vs/\h.DictOf (aU P w) a vs :=
 show bc P w H h a (.dK kvs) from yU ok e
def zj{kvs:List (Key×V)}(ok:gF P w H h)(e:H a=some (.dK kvs)):kvs.length<=sizeLine/\(a==sysModules)=false/\∃vs,KV kvs vs/\h.DictOf (aU P w) a vs:=lR ok (.inl e)
def kP{ks:List Key}(ok:gF P w H h)(e:H a=some (.tup (ks.map kV))):(tupleKind (aU P w)).is h ks a:=by
 obtain⟨_,its,r,o,h1,h2,n,h3⟩:=(show bc P w H h a (.tup (ks.map kV)) from ok a _ e)
 exact⟨o,its.toArray,n,h1,h2,h3,by simpa using lW r⟩
def n6{kvs:List (List Key×V)}(ok:gF P w H h)(e:Rd H a (.dT kvs)):kvs.length<=sizeLine/\(a==sysModules)=false /\
  ∃xs,KT H kvs xs/\h.DictOfH (tupleKind (aU P w)) a xs:=by
 obtain⟨z,y,xs,r,o,es,ep,h1,h2,h3,h4,h5⟩:=(show bc P w H h a (.dT kvs) from yU ok e)
 refine⟨z,y,xs,r,o,es,ep,h1,h2,h3,h4,λx hx=>?_,h5⟩
 have all:∀{l:List (List Key×V)} {m:List (List Key×Addr×Value)},KT H l m->∀x∈m,(tupleKind (aU P w)).is h x.1 x.2.1:=by
  intro l m q
  induction q with
  |nil=>intro x hx;exact nomatch hx
  |@cons p q ps qs hq t ih =>
   intro x hx
   rcases EB.mp hx with e|hx
   ·subst e
    exact kP ok (by rw[<-hq.1];exact hq.2.1)
   ·exact ih x hx
 exact all r x hx
def zA{kvs:List (List Key×V)}(ok:gF P w H h)(e:H a=some (.dT kvs)):kvs.length<=sizeLine/\(a==sysModules)=false /\
  ∃xs,KT H kvs xs/\h.DictOfH (tupleKind (aU P w)) a xs:=n6 ok (.inl e)
end
def eQ(H:Hp)(a:Addr)(y:V)(r:Option V):Prop :=
 (∃kvs k,Rd H a (.dK kvs)/\y=kV k/\r=cA kvs k)\/∃kvs k b,Rd H a (.dT kvs)/\y=.ref b/\H b=some (.tup (k.map kV))/\r=cA kvs k
def jK(H:Hp)(a:Addr)(y v:V)(H':Hp):Prop :=
 (∃kvs k,H a=some (.dK kvs)/\y=kV k/\kvs.length<sizeLine/\H'=upd H a (.dK (putK kvs k v))) \/
 ∃kvs k b,H a=some (.dT kvs)/\y=.ref b/\H b=some (.tup (k.map kV))/\kvs.length<sizeLine/\H'=upd H a (.dT (putK kvs k v))
theorem eQ.k{H:Hp}{a:Addr}{kvs:List (Key×V)}{k:Key}(e:H a=some (.dK kvs)):eQ H a (kV k) (cA kvs k):=.inl ⟨kvs,k,.inl e,rfl,rfl⟩
def eQ.t{H:Hp}{a b:Addr}{kvs:List (List Key×V)}{k:List Key}(e:H a=some (.dT kvs))(eb:H b=some (.tup (k.map kV))):eQ H a (.ref b) (cA kvs k):=.inr ⟨kvs,k,b,.inl e,rfl,eb,rfl⟩
theorem jK.k{H:Hp}{a:Addr}{kvs:List (Key×V)}{k:Key}{v:V}(e:H a=some (.dK kvs))(hl:kvs.length<sizeLine):jK H a (kV k) v (upd H a (.dK (putK kvs k v))):=.inl ⟨kvs,k,e,rfl,hl,rfl⟩
def jK.t{H:Hp}{a b:Addr}{kvs:List (List Key×V)}{k:List Key}{v:V}(e:H a=some (.dT kvs))(eb:H b=some (.tup (k.map kV)))(hl:kvs.length<sizeLine) :
  jK H a (.ref b) v (upd H a (.dT (putK kvs k v))):=.inr ⟨kvs,k,b,e,rfl,eb,hl,rfl⟩
section
variable {X:Cx}{pins:List (Addr×Obj)}{σ:St}{H:Hp}{s:Shared}{a:Addr}{y v:V}{u r:Value}{o:Option V}{A:Around}{E:Value->Shared->Prop}
def Inv.big(I:Inv X pins σ H s):sysModules<s.heap.objs.size:=by
 have h:mainGlobals<s.heap.objs.size:=(I.mod.glob.keeps I.bk).lt
 exact Nat.lt_trans (by decide) h
def sD{Q:Value->Shared->Prop}(hu:A.units+1<cLine)(I:Inv X pins σ H s)(g:eQ H a y (some v))(ry:RelV y u)(h:∀w' s',Inv X pins σ H s'->RelV v w'->Q w' s') :
  wpAny (model X.prog X.w) A (getItem (.ref a) u) Q E s:=by
 rcases g with⟨kvs,k,e,ey,l⟩|⟨kvs,k,b,e,ey,eb,l⟩
 ·subst ey
  obtain⟨z,hd,vs,rel,dd⟩:=lR I.hok e
  obtain⟨w',hw,rw'⟩:=gb.some_of (v:=v) (o:=valueAt vs k) (by rw[l];exact rel.val k)
  exact wpAny_getItem_of (rg ry) dd.mapOf hw (h w' _ (I.tok _) rw')
 ·subst ey
  cases (show u=Value.ref b from ry)
  obtain⟨z,hd,xs,rel,dd⟩:=n6 I.hok e
  obtain⟨w',hw,rw'⟩:=gb.some_of (v:=v) (o:=(atKey xs k).map (·.2)) (by rw[l];exact rel.val k)
  obtain⟨p,hp,hp2⟩:=Hi.mp hw
  refine wpAny_getItem_heap (IA hu) (kP I.hok eb) dd hp ?_
  rw[hp2]
  exact h w' _ (I.tok _) rw'
def xV{Q:Value->Shared->Prop}(hu:A.units+1<cLine)(I:Inv X pins σ H s)(g:eQ H a y o)(ry:RelV y u)(h:∀s',Inv X pins σ H s'->Q (.bool (!o.isSome)) s') :
  wpAny (model X.prog X.w) A (compareOp .NotIn u (.ref a)) Q E s:=by
 rcases g with⟨kvs,k,e,ey,l⟩|⟨kvs,k,b,e,ey,eb,l⟩
 ·subst ey
  obtain⟨z,hd,vs,rel,dd⟩:=lR I.hok e
  refine wpAny_notIn_of (rg ry) hd dd.mapOf ?_
  rw[<-(rel.val k).jv,<-l]
  exact h _ (I.tok _)
 ·subst ey
  cases (show u=Value.ref b from ry)
  obtain⟨z,hd,xs,rel,dd⟩:=n6 I.hok e
  refine wpAny_notIn_heap (IA hu) (kP I.hok eb) hd dd ?_
  have q:=(rel.val k).jv
  rw[Option.isSome_map]at q
  rw[<-q,<-l]
  exact h _ (I.tok _)
def nJ{h':Heap}{t':Nat}{ob:HO}(I:Inv X pins σ H s)(mu:Br (H a))(hs:Heap.SameBut a s.heap h')(he:∃q,h'.get? a=some q)(new:bc X.prog X.w (upd H a ob) h' a ob) :
  Inv X pins σ (upd H a ob) { s with heap:=h',toks:=t' } :=
 I.write (x:=a) (e:=a) mu (.inl rfl) (λb q hb z=>(hs.2 b hb).trans z) he new
def Ag{P:Program}{w:World}{H':Hp}{h':Heap}{kvs:List (Key×V)}{vs:List (Key×Value)}(z:kvs.length<=sizeLine)(hd:(a==sysModules)=false)(rel:KV kvs vs)(dd:h'.DictOf (aU P w) a vs) :
  bc P w H' h' a (.dK kvs):=⟨z,hd,vs,rel,dd⟩
def uq{H':Hp}{Q:Unit->Shared->Prop}(hu:A.units+1<cLine)(I:Inv X pins σ H s)(g:jK H a y v H')(ry:RelV y u)(rv:RelV v r)(h:∀s',Inv X pins σ H' s'->Q () s') :
  wpAny (model X.prog X.w) A (setItem (.ref a) u r) Q E s:=by
 rcases g with⟨kvs,k,e,ey,l,eH⟩|⟨kvs,k,b,e,ey,eb,l,eH⟩
 ·subst ey eH
  obtain⟨z,hd,vs,rel,dd⟩:=zj I.hok e
  have hz:vs.length<=sizeLine:=by rw[<-rel.length];exact z
  have hl:(putK kvs k v).length<=sizeLine:=by have:=jD kvs k v;lia
  refine wpAny_setItem_pairs (hsz:=hz) (rg ry) dd λh' dd' hs=>h _ ?_
  have he:∃q,h'.get? a=some q:=let ⟨q,_,_,hq,_⟩:=dd';⟨q,hq⟩
  exact nJ I (by rw[e];exact True.intro) hs he (Ag hl hd (rel.put k rv) dd')
 ·subst ey eH
  cases (show u=Value.ref b from ry)
  obtain⟨z,hd,xs,rel,dd⟩:=zA I.hok e
  have hz:xs.length<=sizeLine:=by rw[<-EW rel];exact z
  have hl:(putK kvs k v).length<=sizeLine:=by have:=jD kvs k v;lia
  refine wpAny_setItem_heap (hsz:=hz) (IA hu) (kP I.hok eb) dd λh' dd' hs=>h _ ?_
  obtain⟨q,es,ep,hq,h2,h3,h4,_,h5⟩:=dd'
  refine nJ I (by rw[e];exact True.intro) hs ⟨q,hq⟩ ⟨hl,hd,_,(rel.put k eb rv).keeps λc ys ec=>?_,q,es,ep,hq,h2,h3,h4,h5⟩
  rw[af (aJ ec e (λz=>nomatch z))]
  exact ec
end
section
variable {X:Cx}{pins:List (Addr×Obj)}{σ:St}{H:Hp}{s:Shared}{a:Addr}{kvs:List (Key×V)}{k:Key}{u:Value}{A:Around}{E:Value->Shared->Prop}
end
def B3(i:Expr):Prop:=∀ov iv,subscripted i false ov iv=operate [ov,iv] (getItem ov iv)
def yk{prog:Program}{w:World}{A:Around}{E:Value->Shared->Prop}{s:Shared}{env:Env}{value slice:Expr}{pos:Pos}{T id:String}{Q:Value->Shared->Prop}
  (hl:typeLookup (.type T) "__getitem__"=pure (some (.builtin id))) (hs:B3 slice)
  (h:wpAny (model prog w) A (eval value env) (λo s₁=>wpAny (model prog w) A (eval slice env) (λi s₂=>s₂.TypeIs o T/\wpAny (model prog w) A (getItem o i) Q E s₂) E s₁) E s) :
  wpAny (model prog w) A (eval (.Subscript value slice pos) env) Q E s:=by
 refine Subscript_ (Fy h (λo s₁ h₁=>Fy h₁ (λi s₂ h₂=>?_) λ_ _ x=>x) λ_ _ x=>x)
 obtain⟨hT,h₂⟩:=h₂
 unfold subscriptTail
 refine Em ?_
 rw[getitemInPython_of_ne hT.not_modules]
 refine Em (Ih hT hl ?_)
 have fin:wpAny (model prog w) A (subscripted slice false o i) (λr s₃=>wpAny (model prog w) A (letTemporaryGo value o r >>= λ_=>pure r) Q E s₃) E s₂:=by
  rw[hs o i]
  exact wpAny_operating (Fy h₂ (λr s₃ h₃=>Em (wpAny_letTemporaryGo (Eo h₃))) λ_ _ x=>x)
 first
  |exact Eo (Em fin)
  |exact Em (Eo (Em fin))
  |exact Em fin
def oO{X:Cx}{pins:List (Addr×Obj)}{σ:St}{H:Hp}{s:Shared}{a:Addr}{y:V}{o:Option V}(I:Inv X pins σ H s)(g:eQ H a y o):s.TypeIs (.ref a) "dict":=by
 rcases g with⟨kvs,k,e,_,_⟩|⟨kvs,k,b,e,_,_,_⟩
 ·obtain⟨_,_,vs,_,dd⟩:=lR I.hok e
  exact dd.typeIs
 ·obtain⟨_,_,xs,_,dd⟩:=n6 I.hok e
  exact dd.typeIs
inductive JDg(Q:VK)(x y:V)(H2:Hp):Prop
 |mk (a:Addr) (v:V) (e:x=.ref a) (g:eQ H2 a y (some v)) (k:Q v H2)
def BW(td ty:TE):TE:=λσ H Q=>td σ H λx H1=>ty σ H1 λy H2=>JDg Q x y H2
def yP(ty td:TE):TE:=λσ H Q=>ty σ H λy H1=>td σ H1 λx H2=>∃a o,x=.ref a/\eQ H2 a y o/\Q (.bl (!o.isSome)) H2
def Bb(td ty tv:TE):TS:=λD σ H=>tv σ H λv H1=>td σ H1 λx H2=>ty σ H2 λy H3=>∃a H4,x=.ref a/\jK H3 a y v H4/\D.nx σ H4
section
variable {X:Cx}{o i e value:Expr}{pos pos' tpos:Pos}{td ty tv:TE}
def eX(hu:X.A.units+1<cLine)(ho:PE X o td)(hi:PE X i ty)(hs:B3 i):PE X (.Subscript o i pos) (BW td ty):=by
 intro pins s σ H Q I h
 refine yk PySem.F.slot_dict_getitem.lookup hs (bo (ho pins s σ H _ I h) λu s1 ⟨x,H1,I1,rx,q1⟩=>bo (hi pins s1 σ H1 _ I1 q1) λiv s2 hZ=>?_)
 obtain⟨y,H2,I2,ry,a,v,ex,g,q2⟩:=hZ
 subst ex
 obtain rfl:u=Value.ref a:=rx
 exact⟨oO I2 g,sD hu I2 g ry λw' s3 I3 rw'=>⟨v,H2,I3,rw',q2⟩⟩
def hV(hu:X.A.units+1<cLine)(hi:PE X i ty)(ho:PE X o td):PC X .NotIn i o (yP ty td):=by
 intro pins s σ H Q I h
 refine bo (hi pins s σ H _ I h) λiv s1 ⟨y,H1,I1,ry,q1⟩=>bo (ho pins s1 σ H1 _ I1 q1) λu s2 hZ=>?_
 obtain⟨x,H2,I2,rx,a,ov,ex,g,q2⟩:=hZ
 subst ex
 obtain rfl:u=Value.ref a:=rx
 exact xV hu I2 g ry λs3 I3=>⟨.bl (!ov.isSome),H2,I3,rfl,q2⟩
def gZ(hu:X.A.units+1<cLine)(ho:PE X o td)(hi:PE X i ty)(hv:PE X value tv)(hs:swapsWith value (some (.Subscript o i pos')) pos.line X.env=pure false) :
  PS X (.Assign [.Subscript o i pos'] value pos) (Bb td ty tv):=by
 intro pins s σ H D I h
 refine wpAny_Assign_Subscript (bo (hv pins s σ H _ I h) λr s1 ⟨v,H1,I1,rv,q1⟩=>bo (ho pins s1 σ H1 _ I1 q1) λu s2 ⟨x,H2,I2,rx,q2⟩=>bo (hi pins s2 σ H2 _ I2 q2) λiv s3 hZ=>?_) hs
 obtain⟨y,H3,I3,ry,a,H4,ex,g,q3⟩:=hZ
 subst ex
 obtain rfl:u=Value.ref a:=rx
 exact uq hu I3 g ry rv λs4 I4=>⟨σ,H4,I4,q3⟩
end
def wc{P:Program}{w:World}{H:Hp}(h:Heap)(hb:sysModules<h.objs.size):bc P w H (h.push { cls:=.type "dict",data:=.dict #[] }) h.objs.size (.dK []) :=
 ⟨EV _,FC.mpr (E2 (Ez hb)),[],.nil,Heap.DictOf.new h⟩
def vj{P:Program}{w:World}{H:Hp}(h:Heap)(hb:sysModules<h.objs.size):bc P w H (h.push { cls:=.type "dict",data:=.dict #[] }) h.objs.size (.dT []) :=
 ⟨EV _,FC.mpr (E2 (Ez hb)),[],.nil,_,#[],0,Ew _ rfl,⟨rfl,rfl,rfl⟩,rfl,rfl,List.nodup_nil⟩
def zZ:TE:=λ_ H Q=>∀p,H p=none->Q (.ref p) (upd H p (.dK []))
section
variable {X:Cx}{pos:Pos}
def iC:PE X (.Dict [] [] pos) zZ:=λpins s σ H Q I h =>
 wpAny_Dict_empty ⟨.ref s.heap.objs.size,_,I.laid (a:=s.heap.objs.size) (o:=.dK []) (t':=s.toks) (λ_ _ q=>En _ q) (Ep _) (wc s.heap I.big),rfl,h _ (I.hok.fresh (Ep _))⟩
end
def IsD(H:Hp)(a:Addr):Prop:=(∃kvs,Rd H a (.dK kvs))\/∃kvs,Rd H a (.dT kvs)
def AH{X:Cx}{pins:List (Addr×Obj)}{σ:St}{H:Hp}{s:Shared}{a:Addr}(I:Inv X pins σ H s)(d:IsD H a) :
  s.TypeIs (.ref a) "dict"/\(∀b,Value.ref a=.ref b->∃ob,s.heap.get? b=some ob/\ob.dict=none)/\(a==sysModules)=false:=by
 rcases d with⟨kvs,e⟩|⟨kvs,e⟩
 ·obtain⟨_,hd,vs,_,dd⟩:=lR I.hok e
  refine⟨dd.typeIs,λb q=>?_,hd⟩
  cases q
  obtain⟨ob,_,_,h1,h2,_⟩:=dd
  exact⟨ob,h1,h2.2.1⟩
 ·obtain⟨_,hd,xs,_,dd⟩:=n6 I.hok e
  refine⟨dd.typeIs,λb q=>?_,hd⟩
  cases q
  obtain⟨ob,_,_,h1,h2,_⟩:=dd
  exact⟨ob,h1,h2.2.1⟩
section
variable {X:Cx}{pins:List (Addr×Obj)}{σ:St}{H:Hp}{s:Shared}{a:Addr}{y d:V}{u r:Value}{o:Option V}{A:Around}{E:Value->Shared->Prop}
end
section
variable {X:Cx}{o e f:Expr}{apos cpos:Pos}{td ty tx:TE}
end
section
variable {X:Cx}{pins:List (Addr×Obj)}{σ:St}{H:Hp}{s:Shared}{a:Addr}{kvs:List (Key×V)}{A:Around}{E:Value->Shared->Prop}
end
section
variable {X:Cx}{pins:List (Addr×Obj)}{σ:St}{H:Hp}{s:Shared}{a:Addr}{y:V}{u:Value}{A:Around}{E:Value->Shared->Prop}
end
end L2
namespace Att
open PySem PySem.W PySem.Calls PyProof.Rows
def jM{P:Params}{h:Heap}:∀(ns:List Int) (vs:List Value),WellAll P h vs (ns.map WData.int)->IntsAre vs ns:=by
 intro ns
 induction ns with
 |nil =>
  intro vs w
  rw[List.map_nil]at w
  cases w
  exact .nil
 |cons n ns ih =>
  intro vs w
  rw[Ff]at w
  cases w with
  |cons a b =>
   cases a
   exact .cons _ _ (ih _ b)
def tV{l:OpenLaw}{n:Nat}(hn:l.most=some n){P:Params}{h:Heap}{args:List WData}{vals:List Value}
  (hpre:l.row.toRowW.claim.pre args=true) (hwl:WellAll P h vals args) :
  ∃a vs ns,vals=[Value.ref a]/\args=[WData.list (ns.map WData.int)]/\h.get? a=some { cls:=.type "list",data:=.seq vs.toArray }/\IntsAre vs ns/\ns.length<=n:=by
 have hsh:WShape.hasAll [] args [.list .int]=true:=(pre_splitW hpre).1
 have hc:l.pre.holds [] { args:=args }=true:=(pre_splitW hpre).2
 obtain⟨d,r,rfl,h1,h2⟩:=hasAllW_cons hsh
 obtain rfl:=hasAllW_nil h2
 obtain⟨xs,rfl,h3⟩:=hasW_list h1
 obtain⟨ns,rfl⟩:=items_int h3
 have hlen:ns.length<=n:=by
  unfold OpenLaw.pre at hc
  have h4:(WTm.not (.lt (.lit (.int (n:Int))) (.len (.arg 0)))).holds [] { args:=[.list (ns.map .int)] }=true:=by
   have h4:=(holds_andW hc).1
   rw[hn]at h4
   exact h4
  have h5:=condW_of h4 (w_not (w_lt w_lit (w_len_list (w_arg rfl))))
  rw[Et]at h5
  refine Nat.le_of_not_lt λq=>?_
  have q':(n:Int)<((ns.length:Nat):Int):=by lia
  first
   |(rw[EM q']at h5;exact absurd h5 (by decide))
   |(simp at h5;lia)
 cases hwl with
 |cons w1 w2 =>
  cases w2
  cases w1 with
  |list ho hall=>exact⟨_,_,ns,rfl,rfl,ho,jM ns _ hall,hlen⟩
def sE(l:OpenLaw)(args:List WData):l.row.toRowW.claim.post args (.bool true) args=true :=
 postW_of (r:=l.row.toRowW) (X:=(true==true))
  (show WShape.has [] (.bool true) .bool=true by first|rfl|decide|simp[WShape.has,WShape.arms,WShape.armsAll])
  (show(WTm.eq .res (.lit (.bool true))).value [] { args:=args,res:=some (.bool true),after:=args }=some (.bool (true==true)) from w_eq_bool (w_res rfl) w_lit) rfl
section
variable {prog:Program}{w:World}{A:Around}{E:Value->Shared->Prop}{s:Shared}{K:Frag}
end
end Att
namespace L2
open PySem PySem.Spec PyProof.Rows
theorem mn:∀{vs:List Value} {ns:List Int},IntsAre vs ns->Vals (ns.map V.int) vs
 |_,_,.nil=>.nil
 |_,_,.cons n t h=>.cons ⟨t,rfl⟩ (mn h)
end L2
namespace L2
open PySem PySem.Spec PyProof.Rows
end L2
namespace L2
open PySem PySem.Spec PyProof.Rows
def inClass(s:Stmt)(j:Nat):Stmt:=match s with
 |.ClassDef _ _ _ body _ _ _ _ _ _ _=>body.getD j (.Pass ⟨0,0,0,0⟩)
 |_=>.Pass ⟨0,0,0,0⟩
def aE(s:Stmt):Arguments:=match s with
 |.FunctionDef _ a _ _ _ _ _ _ _ _=>a
 |_=>{ posonlyargs:=[],args:=[],vararg:=none,kwonlyargs:=[],kw_defaults:=[],kwarg:=none,defaults:=[] }
def ay(s:Stmt):List Stmt:=match s with
 |.FunctionDef _ _ b _ _ _ _ _ _ _=>b
 |_=>[]
def aj(s:Stmt):Scope:=match s with
 |.FunctionDef _ _ _ _ _ _ sc _ _ _=>sc
 |_=>{ kind:=.function,names:=[],isGenerator:=false,isCoroutine:=false }
abbrev cW:pX:=λ_ _ _ _ _ _=>False
abbrev E0:XK:=λ_ _ _=>False
def bF{X:Cx}:Passes cW X E0:=λ_ _ _ _ _ _ _ h=>h.elim
structure d3(K:PySem.W.Frag)(x qual:Str)(st:Stmt)(f:Addr)(fd:FuncData):Prop where
 ex:∃(oc:Value) (od:Option Addr) (kV doc pm:Value) (an:Option Addr) (cdv ct:Value) (osl:Array (Option Value)),
  fd=PySem.W.fnOf x qual (aE st) (ay st) (aj st) .none kV doc pm an cdv ct/\K.lookup f=some ⟨oc,od,.func fd,osl⟩/\PySem.W.codeIn K cdv qual=true
 kp:PySem.W.keepIn K (.ref f)=true
def d3.ok{x qual:Str}{st:Stmt}{f:Addr}{fd:FuncData}{N ps:List Str}{k:Nat}{sp:Sp}(F:d3 K x qual st f fd)(S:az N ps (aj st))(len:∀vs H Q E,sp vs H Q E->vs.length=ps.length)
  (hbody:∀(cdv:Value) (A:Around) (outer:List Env) (s:Shared) (H:Hp) (vs:List V) (Q:VK) (E:XK),bB k (A.deeper (envOfC qual (aj st) s.heap.objs.size f cdv))->sp vs H Q E ->
   ∃t,lK (bz cW P w K mg base N qual (aj st) f cdv A outer s H E).ff (ay st) t/\t { nx:=λ_ H'=>Q .non H',rt:=Q } (start N vs) H):aM P w K mg base cW (k+1) f fd ps sp:=by
 obtain⟨oc,od,kV,doc,pm,an,cdv,ct,osl,rfl,lk,hcd⟩:=F.ex
 refine xy lk hcd S len λA outer s H vs Q E hr hsp=>?_
 obtain⟨t,h,q⟩:=hbody cdv A outer s H vs Q E hr hsp
 exact⟨t,h.ff,q⟩
def d3.oK{x qual:Str}{st:Stmt}{f:Addr}{fd:FuncData}{N ps:List Str}{k:Nat}{sp:Sp}(F:d3 K x qual st f fd)(S:az N ps (aj st))
  (hbody:∀(cdv:Value) (A:Around) (outer:List Env) (s:Shared) (H:Hp) (vs:List V) (Q:VK) (E:XK),bB k (A.deeper (envOfC qual (aj st) s.heap.objs.size f cdv))->sp vs H Q E ->
   ∃t,lK (bz cW P w K mg base N qual (aj st) f cdv A outer s H E).ff (ay st) t/\t { nx:=λ_ H'=>Q .non H',rt:=Q } (start N vs) H) (len:∀vs H Q E,sp vs H Q E->vs.length=ps.length:=by intro vs H Q E h;first|(cases h;subst_vars;rfl)|((repeat obtain⟨_,h⟩:=h);subst_vars;rfl)):aM P w K mg base cW (k+1) f fd ps sp:=F.ok S len hbody
def d3.binds{x qual:Str}{st:Stmt}{f:Addr}{fd:FuncData}{ps:List Str}(F:d3 K x qual st f fd)
  (h:∀(kV doc pm:Value) (an:Option Addr) (cdv ct:Value) (us:List Value),us.length=ps.length->bindArgs (PySem.W.fnOf x qual (aE st) (ay st) (aj st) .none kV doc pm an cdv ct) ⟨us,[]⟩=pure (ps.zip us)):Binds K fd ps []:=by
 obtain⟨oc,od,kV,doc,pm,an,cdv,ct,osl,rfl,lk,hcd⟩:=F.ex
 exact .all (h kV doc pm an cdv ct)
def aV{x qual:Str}{st:Stmt}{f:Addr}{oc:Value}{od an:Option Addr}{osl:Array (Option Value)}{kV doc pm cdv ct:Value}(l:K.lookup f=some ⟨oc,od,.func (PySem.W.fnOf x qual (aE st) (ay st) (aj st) .none kV doc pm an cdv ct),osl⟩)
  (c:PySem.W.codeIn K cdv qual=true) (k:PySem.W.keepIn K (.ref f)=true):d3 K x qual st f (PySem.W.fnOf x qual (aE st) (ay st) (aj st) .none kV doc pm an cdv ct):=⟨⟨oc,od,kV,doc,pm,an,cdv,ct,osl,rfl,l,c⟩,k⟩
def gh{A:Around}{k:Nat}(hr:bB k A):A.units+1<cLine:=Fs (Nat.add_le_add_left (by decide:1<=64) _) hr.units
def jt{n:Nat}(h:n<=1000):n<sizeLine:=Fs h (by decide)
section
variable {X:Cx}
def pv(i:Nat){x:Str}{pos:Pos}(hN:X.N[i]?=some x:=by rfl)(hv:Bh X.env.scope x:=by first|exact Or.inl rfl|exact Or.inr (Or.inl rfl)|exact Or.inr (Or.inr rfl))(hd:(x==("__debug__":Str))=false:=by decide)
  (hcd:(x==("__classdict__":Str))=false:=by decide):PE X (.Name x pos) (BY i):=uB hN hv hd hcd
end
def br{A B:Prop}(h:B):if false=true then A else B:=by
 rw[Ex EJ]
 exact h
def bM{A B:Prop}(h:A):if true=true then A else B:=by
 rw[EG rfl]
 exact h
def xh{c A B:Prop}[Decidable c](h1:c->A)(h2:¬c->B):if c then A else B:=by
 by_cases h:c
 ·rw[EG h]
  exact h1 h
 ·rw[Ex h]
  exact h2 h
def Bm{c A B:Prop}[Decidable c](hc:c)(h:B):if (!decide c)=true then A else B:=by
 rw[EM hc]
 exact br h
def au(H H':Hp):Prop:=∀b o,H b=some o->H' b=some o
def au.refl(H:Hp):au H H:=λ_ _ h=>h
def au.trans{H H1 H2:Hp}(a:au H H1)(b:au H1 H2):au H H2:=λc o h=>b c o (a c o h)
def au.free{H H':Hp}(e:au H H'){l:Addr}(h:H' l=Option.none):H l=Option.none:=by
 cases q:H l with
 |none=>rfl
 |some o =>
  rw[e l o q]at h
  cases h
def au.seq{K:PySem.W.Frag}{H H':Hp}{a:Addr}{xs:List V}(e:au H H')(h:aR K H a xs):aR K H' a xs:=by
 rcases h with(h|⟨o,h⟩)|h
 ·exact .inl (.inl (e _ _ h))
 ·exact .inl (.inr ⟨o,e _ _ h⟩)
 ·exact .inr h
end L2
namespace L2
open PySem PySem.Spec PyProof.Rows
section
variable {X:Cx}
end
section
variable {κ:Type}[DecidableEq κ]
def rV{kvs:List (κ×V)}{k:κ}{v:V}(h:cA kvs k=some v):k∈kvs.map (·.1):=by
 have q:(kvs.any λkv=>decide (kv.1=k))=true:=by
  rw[gC,h]
  all_goals rfl
 obtain⟨p,hp,e⟩:=GV.mp q
 exact EH.mpr ⟨p,hp,FE e⟩
end
def eR(i:Nat){X:Cx}{N M:List Str}{so:Scope}{x:Str}{e:Expr}{te:TE}{pos pos':Pos}(S:az N M so)(he:PE X e te)(hN:X.N=N:=by rfl)(hi:X.N[i]?=some x:=by rfl)(hx:Loc X.env.scope x:=by first|exact Or.inl rfl|exact Or.inr rfl)(hs:swapsWith e (some (.Name x pos')) pos.line X.env=pure false:=by rfl)(hf:X.fn x=true\/X.env.scope.names.lookup x=some .local:=by first|exact .inl rfl|exact .inr rfl|assumption) :
  PS X (.Assign [.Name x pos'] e pos) (wF te (fg i)):=xA (by rw[hN];exact S.nd) hi hx he hs hf
def la(i:Nat){X:Cx}{N M:List Str}{so:Scope}{x:Str}{p:Pos}(S:az N M so)(hN:X.N=N:=by rfl)(hi:X.N[i]?=some x:=by rfl)(hx:Loc X.env.scope x:=by first|exact Or.inl rfl|exact Or.inr rfl)(hf:X.fn x=true\/X.env.scope.names.lookup x=some .local:=by first|exact .inl rfl|exact .inr rfl|assumption):PG X (.Name x p) (fg i):=sh (by rw[hN];exact S.nd) hi hx hf
end L2
end
section
namespace L2
open PySem PySem.Spec PyProof.Rows
def ia(env:Env):List (Str×NameKind)->List (Str×Addr)->List (Str×Addr)
 |[],cs=>cs
 |(n,k)::r,cs=>ia env r (if k==.free then(n,(env.cells.lookup n).getD 0)::cs else cs)
theorem kR{env:Env}:∀(names:List (Str×NameKind)) (cs:List (Str×Addr)),(∀x∈names,x.2=.free->∃c,env.cells.lookup x.1=some c) ->
  (forIn (m:=Sem) names cs λx r=>if (x.2==NameKind.free)=true then do let a <-cellOf env x.1;pure (ForInStep.yield ((x.1,a)::r)) else pure (ForInStep.yield r))=pure (ia env names cs)
 |[],cs,_=>rfl
 |(n,k)::r,cs,h=>by
  have hr:=λcs'=>kR (env:=env) r cs' λx hx=>h x (EK _ hx)
  rw[List.forIn_cons]
  by_cases hk:k=.free
  ·subst hk
   obtain⟨c,hc⟩:=h (n,.free) EY rfl
   have e1:cellOf env n=pure c:=by unfold cellOf;rw[hc]
   simp only[IT,Iw,e1,pure_bind,hr,ia,hc,Option.getD_some]
  ·have hb:(k==NameKind.free)=false:=by simpa using hk
   simp only[hb,HH,IS,pure_bind,hr,ia]
def km{env:Env}{sc:Scope}(h:∀x∈sc.names,x.2=.free->∃c,env.cells.lookup x.1=some c):closureFor sc env=pure (ia env sc.names []):=by
 unfold closureFor
 have e:=kR (env:=env) sc.names [] h
 simp only[bind_pure]
 exact e
theorem bR{env:Env}:∀(names:List (Str×NameKind)) (cs:List (Str×Addr)),(∀x∈names,x.2=.free->∃c,env.cells.lookup x.1=some c) ->
  (∀x c,cs.lookup x=some c->env.cells.lookup x=some c)->∀x c,(ia env names cs).lookup x=some c->env.cells.lookup x=some c
 |[],cs,_,h=>h
 |(n,k)::r,cs,hf,h=>by
  intro x c e
  unfold ia at e
  refine bR r _ (λy hy=>hf y (EK _ hy)) ?_ x c e
  intro y d q
  by_cases hk:(k==NameKind.free)=true
  ·rw[EG hk]at q
   obtain⟨c',hc'⟩:=hf (n,k) EY (by simpa using hk)
   have hc':env.cells.lookup n=some c':=hc'
   rw[FU]at q
   by_cases hy:y=n
   ·subst hy
    simp only[IT]at q
    rw[hc']at q ⊢
    exact q
   ·have:(y==n)=false:=by simpa using hy
    rw[this]at q
    exact h y d q
  ·rw[Ex hk]at q
   exact h y d q
theorem kj{env:Env}{x:Str}:∀(names:List (Str×NameKind)) (cs:List (Str×Addr)),(∃c,cs.lookup x=some c)->∃c,(ia env names cs).lookup x=some c
 |[],cs,h=>h
 |(n,k)::r,cs,h=>by
  unfold ia
  refine kj r _ ?_
  by_cases hk:(k==NameKind.free)=true
  ·rw[EG hk,FU]
   cases hy:x==n with
   |true=>exact⟨_,rfl⟩
   |false=>exact h
  ·rw[Ex hk];exact h
theorem j8{env:Env}{x:Str}:∀(names:List (Str×NameKind)) (cs:List (Str×Addr)),(x,NameKind.free)∈names->∃c,(ia env names cs).lookup x=some c
 |[],cs,h=>by simp at h
 |(n,k)::r,cs,h=>by
  unfold ia
  rcases EB.mp h with e|h
  ·cases e
   refine kj r _ ?_
   rw[EG (by rfl),FU]
   simp
  ·exact j8 r _ h
theorem eI{env:Env}:∀{names:List (Str×NameKind)} {x:Str} {k:NameKind},
  (names.map λ(n,k)=>if (k == NameKind.free && env.scope.kind == .function && env.kindOf n == some .cell) then (n,NameKind.cell) else (n,k)).lookup x = some k ->
   ∃k',(x,k')∈names/\(k=k'\/(k=.cell/\k'=.free))
 |[],_,_,h=>by simp at h
 |(n,k₀)::r,x,k,h=>by
  rw[Ff]at h
  by_cases hc:(k₀==NameKind.free&&env.scope.kind==.function&&env.kindOf n==some .cell)=true
  ·simp only[hc,Iw,FU]at h
   cases hx:x==n with
   |true =>
    rw[hx]at h
    have:x=n:=by simpa using hx
    subst this
    have hf:k₀=.free:=by
     have h1:=(ES.mp (ES.mp hc).1).1
     simpa using h1
    subst hf
    cases h
    exact⟨_,EY,.inr ⟨rfl,rfl⟩⟩
   |false =>
    rw[hx]at h
    obtain⟨k',m,q⟩:=eI (env:=env) h
    exact⟨k',EK _ m,q⟩
  ·simp only[Ex hc,FU]at h
   cases hx:x==n with
   |true =>
    rw[hx]at h
    have:x=n:=by simpa using hx
    subst this
    cases h
    exact⟨_,EY,.inl rfl⟩
   |false =>
    rw[hx]at h
    obtain⟨k',m,q⟩:=eI (env:=env) h
    exact⟨k',EK _ m,q⟩
theorem cL{env:Env}:∀{names:List (Str×NameKind)} {x:Str},names.lookup x=some .free ->
  (names.map λ(n,k)=>if (k==NameKind.free&&env.scope.kind==.function&&env.kindOf n==some .cell) then(n,NameKind.cell) else(n,k)).lookup x=some .cell \/
  (names.map λ(n,k)=>if (k==NameKind.free&&env.scope.kind==.function&&env.kindOf n==some .cell) then(n,NameKind.cell) else(n,k)).lookup x=some .free
 |[],_,h=>by simp at h
 |(n,k₀)::r,x,h=>by
  rw[Ff]
  rw[FU]at h
  by_cases hc:(k₀==NameKind.free&&env.scope.kind==.function&&env.kindOf n==some .cell)=true
  ·simp only[hc,Iw,FU]
   cases hx:x==n with
   |true=>exact .inl rfl
   |false=>rw[hx]at h;exact cL (env:=env) h
  ·simp only[Ex hc,FU]
   cases hx:x==n with
   |true=>rw[hx]at h;exact .inr h
   |false=>rw[hx]at h;exact cL (env:=env) h
structure BX where
 C:Addr
 s:Shared
 H:Hp
 fp:List Addr
abbrev hX(X:Cx)(sc:Scope)(N:List Str)(z:BX):Cx :=
  { prog:=X.prog,w:=X.w,K:=X.K,mg:=X.mg,base:=X.base,A:=X.A,N:=N,s₀:=z.s,H₀:=z.H,env:=compEnvC sc (ia X.env sc.names []) z.C X.env,outer:=X.stack,stack:=X.stack,ex:=z.fp,fn:=λ_=>false,
    calm:=X.calm,pn:=[],xe:=λ_ _=>False }
structure ck(X:Cx)(N:List Str)(n:Nat)(ci:List Nat)(sc:Scope):Prop where
 kind:sc.kind=.function
 nocell:∀y∈sc.names,y.2≠.cell
 loc:∀y∈sc.names,y.2=.local->sc.names.lookup y.1=some .local
 fr:∀y∈sc.names,y.2=.free->X.env.scope.names.lookup y.1=some .cell\/X.env.scope.names.lookup y.1=some .free
 len:N.length=n+ci.length
 caps:∀(j i:Nat),ci[j]?=some i->∃x,N[n+j]?=some x/\X.N[i]?=some x/\sc.names.lookup x=some NameKind.free
def oJ(n:Nat)(ci:List Nat)(σ:St):St:=List.replicate n none++ci.map λi=>(σ[i]?).getD none
def rD(n:Nat)(ci:List Nat)(σ:St):(oJ n ci σ).length=n+ci.length:=by simp[oJ]
section
variable {X:Cx}{N:List Str}{n:Nat}{ci:List Nat}{sc:Scope}{pins:List (Addr×Obj)}{σ:St}{H:Hp}{s:Shared}{fp:List Addr}
def ck.lF(S:ck X N n ci sc)(ok:X.Ok):∀x∈sc.names,x.2=.free->∃c,X.env.cells.lookup x.1=some c:=λx hx hf=>ok.has x.1 (S.fr x hx hf)
def qd(S:ck X N n ci sc)(I:Inv X pins σ H s)(hf:∀b∈fp,gJ X pins H b)(ho:∀b∈fp,∃o,s.heap.get? b=some o):(hX X sc N ⟨s.heap.objs.size,s,H,fp⟩).Ok where
 mod:=I.ok.mod
 kind:=S.kind
 glob:=I.ok.glob
 blt:=I.ok.blt
 above:=Ep _
 inj:=λx y c h1 h2=>I.ok.inj x y c (bR _ _ (S.lF I.ok) (by simp) x c h1) (bR _ _ (S.lF I.ok) (by simp) y c h2)
 has:=λx hx=>by
  have key:∀k,(relabel sc X.env).names.lookup x=some k->(k=.cell\/k=.free)->∃c,(ia X.env sc.names []).lookup x=some c:=λk hk hkk=>by
   obtain⟨k',m,q⟩:=eI hk
   have hfree:k'=.free:=by
    rcases q with rfl|⟨_,q⟩
    ·rcases hkk with e|e
     ·exact absurd e (S.nocell _ m)
     ·exact e
    ·exact q
   subst hfree
   exact j8 _ _ m
  rcases hx with hx|hx
  ·exact key _ hx (.inl rfl)
  ·exact key _ hx (.inr rfl)
 cab:=λx c h=>by cases h
 hd:=λh=>I.ok.hd h
 frames:=I.ok.frames
 stk:=.inl rfl
 exf:=λb hb=>by
  obtain⟨o,e⟩:=ho b hb
  refine⟨Ez (Er e),λx c h=>?_⟩
  exact(hf b hb).2.2.2.2.1 x c (bR _ _ (S.lF I.ok) (by simp) x c h)
 bs:=I.bs
 bsz:=ET I.ok.bsz I.sz
 noex:=λb o e hb=>by
  rcases(hf b hb).2.2.2.1 with z|z
  ·exact I.ok.noex b o e z
  ·exact absurd (EE (Er e) (ET I.ok.bsz z)) (Fe _)
 exfs:=λb hb z=>by
  obtain⟨_,f1,f2,_⟩:=hf b hb
  rcases EB.mp (I.ji b z) with e|e
  ·exact f1 e
  ·exact f2 e
 fG:=I.stack
 frf:=I.jP
def o3{h':Heap}{m:Str->Option Value}{C:Addr}(S:ck X N n ci sc)(I:Inv X pins σ H s)(hk:∀x c v,X.env.cells.lookup x=some c->s.heap.IsCell c v->h'.IsCell c v)
  (i:Nat) (x:Str) (v:V) (e1:N[i]?=some x) (e2:(oJ n ci σ)[i]?=some (some v)):∃u,RelV v u/\Look (compEnvC sc (ia X.env sc.names []) C X.env) h' m x u:=by
 have hi:n<=i:=by
  by_cases hi:i<n
  ·unfold oJ at e2
   rw[FO (by simpa using hi),Jb,EG hi]at e2
   cases e2
  ·omega
 obtain⟨j,rfl⟩:=Nat.exists_eq_add_of_le hi
 have e2':(ci.map λi=>(σ[i]?).getD none)[j]?=some (some v):=by
  unfold oJ at e2
  rw[Hy (by simp)]at e2
  simpa using e2
 rw[E4]at e2'
 cases ej:ci[j]? with
 |none=>rw[ej]at e2';cases e2'
 |some k =>
  rw[ej]at e2'
  obtain⟨y,c1,c2,c3⟩:=S.caps j k ej
  rw[c1]at e1
  cases e1
  have ev:σ[k]?=some (some v):=by
   cases q:σ[k]? with
   |none=>simp[q]at e2'
   |some w=>simp[q]at e2';rw[e2']
  obtain⟨m0,_,hl⟩:=I.loc
  have c4:(x,NameKind.free)∈sc.names:=Gj c3
  have kf:=S.fr _ c4 rfl
  have vis:Bh X.env.scope x:=.inr kf
  obtain⟨u,ru,lk⟩:=hl k x v c2 ev vis
  refine⟨u,ru,.inr ⟨cL (env:=X.env) c3,?_⟩⟩
  rcases lk with⟨l1,_⟩|⟨_,c,hc,hcell⟩
  ·rcases kf with kf|kf <;> (rw[show X.env.kindOf x=_ from kf]at l1;cases l1)
  ·obtain⟨c',hc'⟩:=j8 (env:=X.env) sc.names [] c4
   have:=bR _ _ (S.lF I.ok) (by simp) x c' hc'
   rw[hc]at this
   cases this
   exact⟨c,hc',hk x c _ hc hcell⟩
def lJ{h':Heap}{t':Nat}{m:Str->Option Value}(S:ck X N n ci sc)(I:Inv X pins σ H s)(hf:∀b∈fp,gJ X pins H b)(ho:∀b∈fp,∃o,s.heap.get? b=some o)
  (hk:∀b o,s.heap.get? b=some o->h'.get? b=some o) (hn:h'.Ns s.heap.objs.size m):Inv (hX X sc N ⟨s.heap.objs.size,s,H,fp⟩) [] (oJ n ci σ) H { s with heap:=h',toks:=t' } where
 ok:=qd S I hf ho
 os:=rfl
 bare:=I.bare
 base:=Un.kept hk
 loc:=⟨m,hn,λi x v e1 e2 _=>o3 S I (λx c v _ ⟨o,e,d⟩=>⟨o,hk _ _ e,d⟩) i x v e1 e2⟩
 cell:=λx c e=>by
  obtain⟨v,o,e1,d⟩:=I.cell x c (bR _ _ (S.lF I.ok) (by simp) x c e)
  exact⟨v,o,hk _ _ e1,d⟩
 free:=I.hok.fresh (Ep _)
 freeC:=λx c e=>I.freeC x c (bR _ _ (S.lF I.ok) (by simp) x c e)
 pin:=λp hp=>absurd hp (by simp)
 hok:=I.hok.kept hk
 len:=by rw[rD];exact S.len.symm
def oR{H':Hp}{s':Shared}{σ':St}{pins':List (Addr×Obj)}(S:ck X N n ci sc)(I:Inv X pins σ H s)(hf:∀b∈fp,gJ X pins H b)
  (J:Inv (hX X sc N ⟨s.heap.objs.size,s,H,fp⟩) pins' σ' H' s'):Inv (hX X sc N ⟨s.heap.objs.size,s,H,fp⟩) pins' (oJ n ci σ) H' s' where
 ok:=J.ok
 os:=J.os
 bare:=J.bare
 base:=J.base
 loc:=by
  obtain⟨m,hn,_⟩:=J.loc
  refine⟨m,hn,λi x v e1 e2 _=>o3 S I (λx c v e ⟨o,ho,d⟩=>?_) i x v e1 e2⟩
  have nf:c∉fp:=λz=>(hf c z).2.2.2.2.1 x c e rfl
  obtain⟨sl,q⟩:=J.base.any ho (I.freeC x c e) nf
  exact⟨_,q,d⟩
 cell:=J.cell
 free:=J.free
 freeC:=J.freeC
 pin:=J.pin
 hok:=J.hok
 len:=by rw[rD];exact S.len.symm
end
section
variable {prog:Program}{w:World}{A:Around}{R:Result->Shared->Prop}{s:Shared}
def ll{elt target iter:Expr}{ifs:List Expr}{scope:Scope}{pos:Pos}{it acc:Value}{env:Env}(I:Nat->Shared->Prop)
  (turn:∀n s,I n s->wpAny (model prog w) A (pyNext it) (λr s₁=>match r with
   |none=>R (.ok .next) s₁
   |some v=>wpAny (model prog w) A (letOwnedTupleGo target it v) (λ_ s₀=>wpAny (model prog w) A (assign target env v) (λ_ s₂ =>
     wpAny (model prog w) A (forIn ifs true λc r=>if r=true then do let ok <-isTrue c env (eval c env);pure (ForInStep.yield ok) else pure (ForInStep.yield r)) (λok s₃ =>
      if ok=true then wpAny (model prog w) A (eval elt env) (λx s₄ =>
       wpAny (model prog w) A (call (.builtin "list.append") [acc,x]) (λ_ s₅=>∃m,m<n/\I m s₅) (λ_ _=>False) s₄) (λ_ _=>False) s₃
      else ∃m,m<n/\I m s₃) (λ_ _=>False) s₂) (λ_ _=>False) s₀) (λ_ _=>False) s₁) (λ_ _=>False) s)
  (n:Nat) (h:I n s) :
  codeAny (model prog w) A (.compLoop (.ListComp elt [⟨target,iter,ifs,0⟩] scope pos) 0 it acc env) R s:=by
 refine codeAny_loop rfl I (λn s hI=>?_) n h
 show wpAny _ A ((compTurn (.ListComp elt [⟨target,iter,ifs,0⟩] scope pos) 0 it acc env).onRaise (λx=>do noteFrame x env;theTreesLotGoes x)) _ _ s
 refine wpAny_noted ?_
 rw[compTurn_list]
 refine Em (Hx (Em (Fy (turn n s hI) (λr s₁ h₁=>?_) λ_ _ h'=>h'.elim)))
 cases r with
 |none=>exact Eo h₁
 |some v =>
  refine Em (Fy h₁ (λ_ s₀ h₀=>?_) λ_ _ h'=>h'.elim)
  refine Em (Fy h₀ (λ_ s₂ h₂=>Em (Fy h₂ (λok s₃ h₃=>?_) λ_ _ h'=>h'.elim)) λ_ _ h'=>h'.elim)
  cases ok with
  |false=>exact Eo ⟨rfl,h₃⟩
  |true =>
   exact Em (Em (Fy h₃ (λx s₄ h₄=>Em (Fy h₄ (λ_ s₅ h₅=>Eo (Eo ⟨rfl,h₅⟩)) λ_ _ h'=>h'.elim)) λ_ _ h'=>h'.elim))
end
def Bw(X:Cx)(ifs:List Expr)(t:TT):Prop :=
 ∀(pins:List (Addr×Obj)) (s:Shared) (σ:St) (H:Hp) (Q:Bool->Hp->Prop),Inv X pins σ H s->t σ H Q ->
  wpAny (model X.prog X.w) X.A (forIn ifs true λc r=>if r=true then do let ok <-isTrue c X.env (eval c X.env);pure (ForInStep.yield ok) else pure (ForInStep.yield r)) (TP X pins σ Q) X.xe s
def C4:TT:=λ_ H Q=>Q true H
def cR{X:Cx}:Bw X [] C4:=λpins s σ H Q I h=>wpAny_tests_nil ⟨H,I,h⟩
def iD{X:Cx}{c:Expr}{t:TT}(h:PT X c t):Bw X [c] t:=λpins s σ H Q I hq=>wpAny_tests_one (h pins s σ H Q I hq)
def gq(n:Nat)(ci:List Nat)(J:It)(g:TG)(tt:TT)(te:TE)(σ:St)(H1:Hp)(D:Addr)(Q:VK):Prop :=
 ∃(M:Nat) (W:Nat->List V->Hp->Prop),W 0 [] (upd H1 D (.lst []))/\∀i ys H,i<=M->W i ys H ->
  (J.stop i H/\Q (.ref D) H)\/(i < M/\J.go i H/\∀x H',J.yld i H x H'->g x (oJ n ci σ) H' λσ2 H2=>tt σ2 H2 λb H3 =>
   if b=true then te σ2 H3 λy H4=>H4 D=some (.lst ys)/\ys.length<sizeLine/\W (i+1) (ys++[y]) (upd H4 D (.lst (ys++[y])))
   else W (i+1) ys H3)
def y8(n:Nat)(ci:List Nat)(wi:TI)(g:BX->TG)(tt:BX->TT)(te:BX->TE):TE:=λσ H Q=>wi σ H λJ H1=>∀(z:BX) (D:Addr),H1 D=none->gq n ci J (g z) (tt z) (te z) σ H1 D Q
section
variable {X:Cx}{N:List Str}{n:Nat}{ci:List Nat}{sc:Scope}
def j7{pins:List (Addr×Obj)}{σ σ':St}{H H':Hp}{s s':Shared}{fp:List Addr}{h':Heap}(I:Inv X pins σ H s)(hf:∀b∈fp,gJ X pins H b)
  (J:Inv (hX X sc N ⟨s.heap.objs.size,s,H,fp⟩) [] σ' H' s') (hs:Heap.SameBut s.heap.objs.size s'.heap h'):Inv X pins σ H' { s' with heap:=h' }:=by
 have up:∀b o,b≠s.heap.objs.size->s'.heap.get? b=some o->h'.get? b=some o:=λb o hb e=>(hs.2 b hb).trans e
 have lt:∀b o,s.heap.get? b=some o->b≠s.heap.objs.size:=λb o e=>Ez (Er e)
 have u0:=J.base
 have un:Un (fJ X.stack) fp H H' s.heap h':=by
  refine⟨λb o e n hb hx=>up b o (lt b o e) (u0.keep b o e n hb hx),λb o e n hb hx=>?_,λb o e n hx=>u0.free b o e n hx,λb o e hx=>?_,u0.bQ,u0.frzs,u0.tbls⟩
  ·obtain⟨sl,q⟩:=u0.slot b o e n hb hx
   exact⟨sl,up b _ (lt b o e) q⟩
  ·obtain⟨o',q⟩:=u0.there b o e hx
   exact⟨o',up b _ (lt b o e) q⟩
 have fr:H' s.heap.objs.size=none:=J.free
 have hok:gF X.prog X.w H' h':=λb u e=>by
  refine(J.hok b u e).ib (λc v hc q=>up c v ?_ q) (λ_ q=>q) λ_ _ q=>q
  rintro rfl
  rcases hc with hc|hc
  ·rw[<-hc,fr]at e;cases e
  ·rw[fr]at hc;cases hc
 refine I.wX (s':={ s' with heap:=h' }) (ch:=fp) J.os un hok J.bare λb hb=>?_
 obtain⟨_,f1,_,f3,f4,f5⟩:=hf b hb
 exact⟨f3,f1,f4,f5⟩
def ou{elt tg iter:Expr}{ifs:List Expr}{pos:Pos}{g:BX->TG}{tt:BX->TT}{te:BX->TE}{z:BX}{it D:Addr}{fp:List Addr}{tn:Nat->Heap->Prop}{J:It}{σ0:St}{H4:Hp}{s4:Shared}{Q:VK}{R:Result->Shared->Prop}{W:Nat->List V->Hp->Prop}{M:Nat}
  (hc:X.calm=true) (T:Turn X.prog X.w X.K tg J fp it tn) (bg:PG (hX X sc N z) tg (g z)) (bt:Bw (hX X sc N z) ifs (tt z)) (be:PE (hX X sc N z) elt (te z))
  (keep:∀{pins:List (Addr×Obj)} {σ':St} {H':Hp} {s':Shared},Inv (hX X sc N z) pins σ' H' s'->Inv (hX X sc N z) pins σ0 H' s')
  (stat:∀{H':Hp},(∀b∈fp,H' b=none)->∀b∈fp,gJ (hX X sc N z) [] H' b)
  (I4:Inv (hX X sc N z) [] σ0 H4 s4) (st4:tn 0 s4.heap) (fr4:∀b∈fp,H4 b=none) (w0:W 0 [] H4)
  (turn:∀i ys H,i<=M->W i ys H->(J.stop i H/\Q (.ref D) H)\/(i < M/\J.go i H/\∀x H',J.yld i H x H'->g z x σ0 H' λσ2 H2=>tt z σ2 H2 λb H3 =>
   if b=true then te z σ2 H3 λy H4=>H4 D=some (.lst ys)/\ys.length<sizeLine/\W (i+1) (ys++[y]) (upd H4 D (.lst (ys++[y])))
   else W (i+1) ys H3))
  (hR:∀σ' H' s',Inv (hX X sc N z) [] σ' H' s'->Q (.ref D) H'->R (.ok .next) s') :
  codeAny (model X.prog X.w) X.A (.compLoop (.ListComp elt [⟨tg,iter,ifs,0⟩] sc pos) 0 (.ref it) (.ref D) (hX X sc N z).env) R s4:=by
 refine ll (λn s'=>∃i ys H',n=M-i/\i<=M/\Inv (hX X sc N z) [] σ0 H' s'/\tn i s'.heap/\(∀b∈fp,H' b=none)/\W i ys H') ?_ M ⟨0,[],H4,rfl,EV _,I4,st4,fr4,w0⟩
 rintro n s3 ⟨i,ys,H3,rfl,hiM,I3,st3,fr3,w3⟩
 rcases turn i ys H3 hiM w3 with⟨stop,qn⟩|⟨hlt,go,step⟩
 ·refine bo (T.done (hX X sc N z) rfl rfl rfl hc i [] s3 σ0 H3 (λ_ _=>False) I3 (stat fr3) st3 stop) λr s4 hZ=>?_
  obtain⟨hr,I4⟩:=hZ
  subst hr
  exact hR σ0 H3 s4 I4 qn
 ·refine bo (T.item (hX X sc N z) rfl rfl rfl hc i [] s3 σ0 H3 (λ_ _=>False) I3 (stat fr3) st3 go) λr s4 hZ=>?_
  obtain⟨u,hr,h4⟩:=hZ
  subst hr
  refine bo h4 λ_ s5 hZ=>?_
  obtain⟨x,H5,I5,r5,y5,st5,fr5⟩:=hZ
  have I5':=I5.pinned (stat fr5) (T.obj _ _ st5)
  refine bo (bg _ s5 σ0 H5 x u _ I5' r5 (step x H5 y5)) λ_ s6 hZ=>?_
  obtain⟨σ6,H6,I6,q6⟩:=hZ
  refine bo (bt _ s6 σ6 H6 _ I6 q6) λb s7 hZ=>?_
  obtain⟨H7,I7,q7⟩:=hZ
  have again:∀{ys':List V} {H8:Hp} {s8:Shared},Inv (hX X sc N z) ([]++kq fp s5.heap) σ6 H8 s8->W (i+1) ys' H8->∃m,m<M-i/\∃i ys H',m=M-i/\i<=M/\Inv (hX X sc N z) [] σ0 H' s8/\tn i s8.heap/\(∀b∈fp,H' b=none)/\W i ys H':=λ{ys' H8 s8} I8 w8=>by
   refine⟨M-(i+1),by omega,i+1,ys',H8,rfl,hlt,keep I8.iX,T.keep _ _ _ st5 λb hb o e=>(I8.pin (b,o) (E7 _ (E7 _ (fX hb e)))).1,λb hb=>?_,w8⟩
   obtain⟨o,e,d⟩:=T.obj _ _ st5 b hb
   exact(I8.pin (b,o) (E7 _ (E7 _ (fX hb e)))).2.1
  cases b with
  |false =>
   rw[Ex (by decide)]
   rw[Ex (by decide)]at q7
   exact again I7 q7
  |true =>
   rw[EG rfl]
   rw[EG rfl]at q7
   refine bo (be _ s7 σ6 H7 _ I7 q7) λyu s8 hZ=>?_
   obtain⟨y,H8,I8,r8,hD,hz,q8⟩:=hZ
   exact bo (bC _ s8 σ6 H8 (.ref D) [y] (.ref D) [yu] (λ_ H9=>H9=upd H8 D (.lst (ys++[y]))) I8 rfl (.cons r8 .nil) ⟨D,ys,y,rfl,rfl,hD,hz,rfl⟩) λ_ s9 ⟨_,H9,I9,_,e9⟩=>by
    subst e9
    exact again I9 q8
def cE{elt tg iter:Expr}{ifs:List Expr}{pos:Pos}{wi:TI}{g:BX->TG}{tt:BX->TT}{te:BX->TE}(hc:X.calm=true)(hi:PI X tg iter wi)(S:ck X N n ci sc)
  (hb:∀z:BX,PG (hX X sc N z) tg (g z)/\Bw (hX X sc N z) ifs (tt z)/\PE (hX X sc N z) elt (te z))
  (hs:∀x,foldedSetIterable iter X.env x=pure x:=by intro _;rfl):PE X (.ListComp elt [⟨tg,iter,ifs,0⟩] sc pos) (y8 n ci wi g tt te):=by
 intro pins s σ H Q I h
 rw[eval_ListComp]
 refine IU (use:=none) rfl hs (km (S.lF I.ok)) S.kind S.loc (bo (hi pins s σ H _ I h) λv s1 h1=>bo h1 λitv s2 h2=>?_)
 obtain⟨it,fp,tn,J,H2,e,I2,T,st2,f2,rd⟩:=h2
 subst e
 refine FF (Ii S.nocell (by intro y hy;simp at hy) (λh₁ hns₁ hsb₁=>?_) S.kind)
 dsimp only at hns₁ hsb₁ ⊢
 have hD:H2 s2.heap.objs.size=none:=I2.hok.fresh (Ep _)
 have I3:Inv X pins σ (upd H2 s2.heap.objs.size (.lst [])) { s2 with heap:=s2.heap.push { cls:=.type "list",data:=.seq ([]:List Value).toArray } }:=I2.xY (t':=s2.toks) (ys:=[]) (its:=[]) .nil (EV _)
 have ob2:∀b∈fp,∃o,s2.heap.get? b=some o:=λb hb=>let ⟨o,e,_⟩:=T.obj _ _ st2 b hb;⟨o,e⟩
 have neD:∀b∈fp,b≠s2.heap.objs.size:=λb hb=>let ⟨o,e⟩:=ob2 b hb;Ez (Er e)
 have f3:∀b∈fp,gJ X pins (upd H2 s2.heap.objs.size (.lst [])) b:=λb hb=>⟨by rw[af (neD b hb)];exact(f2 b hb).1,(f2 b hb).2⟩
 have ob3:∀b∈fp,∃o,(s2.heap.push { cls:=.type "list",data:=.seq ([]:List Value).toArray }).get? b=some o:=λb hb=>let ⟨o,e⟩:=ob2 b hb;⟨o,En _ e⟩
 have k3:∀b o,(s2.heap.push { cls:=.type "list",data:=.seq ([]:List Value).toArray }).get? b=some o->h₁.get? b=some o:=λb o e =>
  hsb₁.extBut b o (Ez (Er e)) (En _ e)
 have I4:Inv (hX X sc N ⟨_,{ s2 with heap:=s2.heap.push { cls:=.type "list",data:=.seq ([]:List Value).toArray } },upd H2 s2.heap.objs.size (.lst []),fp⟩) [] (oJ n ci σ) (upd H2 s2.heap.objs.size (.lst []))
   { s2 with heap:=h₁,toks:=s2.toks+([]:List (Str×Value)).length }:=lJ (s:={ s2 with heap:=s2.heap.push { cls:=.type "list",data:=.seq ([]:List Value).toArray } }) S I3 f3 ob3 k3 hns₁
 have st4:tn 0 h₁:=T.keep _ _ _ st2 λb hb o e=>k3 b o (En _ e)
 obtain⟨M,W,w0,turn⟩:=rd ⟨_,{ s2 with heap:=s2.heap.push { cls:=.type "list",data:=.seq ([]:List Value).toArray } },upd H2 s2.heap.objs.size (.lst []),fp⟩ s2.heap.objs.size hD
 obtain⟨bg,bt,be⟩:=hb ⟨_,{ s2 with heap:=s2.heap.push { cls:=.type "list",data:=.seq ([]:List Value).toArray } },upd H2 s2.heap.objs.size (.lst []),fp⟩
 have ok3:=qd S I3 f3 ob3
 have stat:∀{H':Hp},(∀b∈fp,H' b=none)->∀b∈fp,gJ (hX X sc N ⟨_,{ s2 with heap:=s2.heap.push { cls:=.type "list",data:=.seq ([]:List Value).toArray } },upd H2 s2.heap.objs.size (.lst []),fp⟩) [] H' b:=λhn b hb=>by
  obtain⟨_,f1,f2',_,f4,_⟩:=f3 b hb
  refine⟨hn b hb,?_,ok3.exfs b hb,.inl hb,λx c e=>?_,λp hp=>absurd hp (by simp)⟩
  ·exact Ez (let ⟨o,e⟩:=ob3 b hb;Er e)
  ·exact f4 x c (bR _ _ (S.lF I3.ok) (by simp) x c e)
 have loop:codeAny (model X.prog X.w) X.A (.compLoop (.ListComp elt [⟨tg,iter,ifs,0⟩] sc pos) 0 (.ref it) (.ref s2.heap.objs.size) (compEnvC sc (ia X.env sc.names []) (s2.heap.push { cls:=.type "list",data:=.seq ([]:List Value).toArray }).objs.size X.env))
   (compPost (model X.prog X.w) X.A X.xe none (EP X pins σ Q) (.ref s2.heap.objs.size) (s2.heap.push { cls:=.type "list",data:=.seq ([]:List Value).toArray }).objs.size) { s2 with heap:=h₁,toks:=s2.toks+([]:List (Str×Value)).length }:=by
  refine ou (W:=W) (M:=M) (σ0:=oJ n ci σ) (Q:=Q) hc T bg bt be (λ{pins' σ' H' s'} J'=>?_) stat I4 st4 (λb hb=>(f3 b hb).1) w0 turn λσ' H' s' J' q=>?_
  ·exact oR S I3 f3 J'
  ·obtain⟨m',hn',_⟩:=J'.loc
   refine⟨m',hn',λh' hs'=>?_⟩
   exact⟨.ref s2.heap.objs.size,H',j7 (s:={ s2 with heap:=s2.heap.push { cls:=.type "list",data:=.seq ([]:List Value).toArray } }) I3 f3 J' hs',rfl,q⟩
 exact codeAny_compStart_list loop (T.self _ 0 _ _ _ st4 loop)
end
structure Dw(so:Scope)(N0 N:List Str)(n:Nat)(ci:List Nat)(sc:Scope):Prop where
 kind:sc.kind=.function
 nocell:∀y∈sc.names,y.2≠.cell
 loc:∀y∈sc.names,y.2=.local->sc.names.lookup y.1=some .local
 fr:∀y∈sc.names,y.2=.free->so.names.lookup y.1=some .cell\/so.names.lookup y.1=some .free
 len:N.length=n+ci.length
 caps:N.drop n=ci.map λi=>N0.getD i ⟨#[]⟩
 ins:∀i∈ci,i<N0.length
 fJ:∀x∈N.drop n,sc.names.lookup x=some .free
def Dw.of{X:Cx}{so sc:Scope}{N0 N:List Str}{n:Nat}{ci:List Nat}(h:Dw so N0 N n ci sc)(e1:X.env.scope=so:=by rfl)(e2:X.N=N0:=by rfl):ck X N n ci sc where
 kind:=h.kind
 nocell:=h.nocell
 loc:=h.loc
 fr:=λy hy hf=>by rw[e1];exact h.fr y hy hf
 len:=h.len
 caps:=λj i e=>by
  have hm:i∈ci:=EC e
  have hi:=h.ins i hm
  have q:(N.drop n)[j]?=some (N0.getD i ⟨#[]⟩):=by rw[h.caps,E4,e];rfl
  refine⟨N0.getD i ⟨#[]⟩,?_,?_,?_⟩
  ·rw[IB]at q;exact q
  ·rw[e2,E5,EA hi];rfl
  ·exact h.fJ _ (EC q)
def o9{X:Cx}{so sc:Scope}{N0 N M:List Str}{n:Nat}{ci:List Nat}(S:az N0 M so)(h:Dw so N0 N n ci sc:=by exact⟨rfl,by decide +kernel,by decide +kernel,by decide +kernel,rfl,rfl,by decide +kernel,by decide +kernel⟩)(e1:X.env.scope=so:=by rfl)(e2:X.N=N0:=by rfl):ck X N n ci sc:=h.of e1 e2
def kZ(i:Nat){X:Cx}{sc:Scope}{N:List Str}{z:BX}{x:Str}{p:Pos}(hn:N.Nodup:=by decide +kernel)(hi:N[i]?=some x:=by rfl)(hx:Loc (hX X sc N z).env.scope x:=by exact Or.inl rfl)(hf:(hX X sc N z).fn x=true\/(hX X sc N z).env.scope.names.lookup x=some .local:=by first|exact .inl rfl|exact .inr rfl|assumption):PG (hX X sc N z) (.Name x p) (fg i):=sh (X:=hX X sc N z) (i:=i) hn hi hx hf
end L2
end
section
namespace UfSet
open PySem
def dw(w:World):Bool:=w.params.followText "set-order"
abbrev dW(w:World):List Str->List (Int×Value)->Prop:=Paired λk e=>e.1=hashStr w k/\∃tk,e.2=.str k tk
def cJ(w:World)(h:Heap)(a:Addr)(ks:List Str):Prop :=
 ∃o es ep t ks',h.get? a=some o/\o.ExactSet/\o.data=.set es ep t/\dW w ks' es.toList/\ks'.Perm ks/\ks.Nodup /\
  es.size<scanBound/\t.fits es.size=true/\(t.plain=true->es.size=0)/\t.led = !dw w
theorem dW.elems{prog:Program}{w:World}:∀{ks:List Str} {es:List (Int×Value)},dW w ks es->ElemsOf (strKind prog w) es
 |_,_,.nil=>λe he=>by simp at he
 |_,_,.cons (a:=k) (b:=e) h t=>λx hx=>by
  rcases EB.mp hx with rfl|hx
  ·obtain⟨h1,tk,h2⟩:=h
   refine⟨⟨k,?_,h1⟩,?_⟩
   ·show Value.isStrOf k x.2=true
    rw[h2];simp[Value.isStrOf]
   ·rw[h2];rfl
  ·exact dW.elems (prog:=prog) t x hx
theorem dW.mem{w:World}{k:Str}:∀{ks:List Str} {es:List (Int×Value)},dW w ks es->(k∈ks↔∃e∈es,Value.isStrOf k e.2=true)
 |_,_,.nil=>by simp
 |_,_,.cons (a:=j) (b:=e) h t=>by
  obtain⟨h1,tk,h2⟩:=h
  have ih:=dW.mem (k:=k) t
  have hd:Value.isStrOf k e.2=true↔k=j:=by
   rw[h2]
   constructor
   ·intro q
    obtain⟨u,hu⟩:=Value.isStrOf_shape q
    injection hu with hx _
    exact hx.symm
   ·rintro rfl;simp[Value.isStrOf]
  rw[EB,ih]
  constructor
  ·rintro(q|⟨x,hx,q⟩)
   ·exact⟨e,EY,hd.mpr q⟩
   ·exact⟨x,EK _ hx,q⟩
  ·rintro⟨x,hx,q⟩
   rcases EB.mp hx with rfl|hx
   ·exact .inl (hd.mp q)
   ·exact .inr ⟨x,hx,q⟩
def dW.perm{w:World}{es es':List (Int×Value)}(p:List.Perm es' es):∀{ks:List Str},dW w ks es->∃ks',dW w ks' es'/\ks'.Perm ks:=by
 have back:∀{es es':List (Int×Value)},List.Perm es es'->∀{ks:List Str},dW w ks es->∃ks',dW w ks' es'/\ks'.Perm ks:=by
  intro es es' p
  induction p with
  |nil=>intro ks h;exact⟨ks,h,.refl _⟩
  |cons x _ ih =>
   intro ks h
   cases h with
   |cons h t =>
    obtain⟨ks',h',q⟩:=ih t
    exact⟨_::ks',.cons h h',q.cons _⟩
  |swap x y l =>
   intro ks h
   cases h with
   |cons h t =>
    cases t with
    |cons h2 t=>exact⟨_,.cons h2 (.cons h t),.swap _ _ _⟩
  |trans _ _ ih1 ih2 =>
   intro ks h
   obtain⟨k1,h1,q1⟩:=ih1 h
   obtain⟨k2,h2,q2⟩:=ih2 h1
   exact⟨k2,h2,q2.trans q1⟩
 intro ks h
 exact back p.symm h
theorem dW.snoc{w:World}{k:Str}{tk:Tok}:∀{ks:List Str} {es:List (Int×Value)},dW w ks es->dW w (ks++[k]) (es++[(hashStr w k,Value.str k tk)])
 |_,_,.nil=>.cons ⟨rfl,tk,rfl⟩ .nil
 |_,_,.cons h t=>.cons h (dW.snoc t)
def dW.len{w:World}{ks:List Str}{es:List (Int×Value)}(h:dW w ks es):ks.length=es.length:=EW h
def qT(t:SetTable)(es:Array (Int×Value))(h:Int)(x:Value):(layNew t es h x).2.1.led=t.led:=by
 unfold layNew
 split
 ·show(SetTable.orStandIn _ _).led=_
  unfold SetTable.orStandIn
  split <;> rfl
 ·rfl
def mO(t:SetTable)(es:Array (Int×Value))(h:Int)(x:Value):(layNew t es h x).2.1.plain=true->t.plain=true:=by
 unfold layNew
 split
 ·show(SetTable.orStandIn _ _).plain=true->_
  unfold SetTable.orStandIn
  split
  ·exact id
  ·intro q;cases q
 ·intro q;cases q
def nv(t:SetTable)(es:Array (Int×Value))(n:Nat):(relayAll t es n).2.1.led=t.led:=by
 unfold relayAll
 split
 ·rename_i t' order hr
  dsimp only
  split
  ·unfold SetTable.relaid SetTable.laid at hr
   simp only[JG,HN]at hr
   obtain⟨ow,_,hr⟩:=hr
   cases hr
   rfl
  ·rfl
 ·rfl
def kC(t:SetTable)(es:Array (Int×Value))(n:Nat):(relayAll t es n).2.1.plain=true->t.plain=true:=by
 unfold relayAll
 split
 ·rename_i t' order hr
  dsimp only
  split
  ·unfold SetTable.relaid SetTable.laid at hr
   simp only[JG,HN]at hr
   obtain⟨ow,_,hr⟩:=hr
   cases hr
   exact id
  ·intro q;cases q
 ·intro q;cases q
def wV{h:Heap}{a:Addr}{o:Obj}{es es':Array (Int×Value)}{ep:Nat}{t t':SetTable}(ho:h.get? a=some o)(hd:o.data=.set es ep t) :
  (h.update a (Obj.putSet es' t')).get? a=some { o with data:=.set es' (ep+1) t' }:=by
 have q:=E8 (Obj.putSet es' t') ho (by rw[putSet_of es' t' hd];rfl)
 rw[putSet_of es' t' hd]at q
 exact q
def sg{g:Bool->Sem Unit}(hg:∀(b:Bool) (s₁:Shared) (Q':Unit->Shared->Prop),Q' () s₁->wpAny (model prog w) A (g b) Q' E s₁){a:Addr}{o:Obj}{es es1:Array (Int×Value)}{ep:Nat}{t t2:SetTable}
  {ks ks1:List Str} {dm:Bool} {R:Option Bool->Shared->Prop} (ho:s.heap.get? a=some o) (hex:o.ExactSet) (hd:o.data=.set es ep t) (he:dW w ks1 es1.toList) (hp:ks1.Perm ks) (hn:ks.Nodup)
  (hb:es1.size<scanBound) (hf:t2.fits es1.size=true) (hpl:t2.plain=false) (hle:t2.led = !dw w)
  (h:∀h',Heap.SameBut a s.heap h'->cJ w h' a ks->R (some true) { s with heap:=h' }) :
  wpAny (model prog w) A (do
    storeSet a es1 t2
    if (!dm&&t2.tooFull)=true then do
      g (relayAll t2 es1 (SetTable.grown es1.size)).2.2
      storeSet a (relayAll t2 es1 (SetTable.grown es1.size)).1 (relayAll t2 es1 (SetTable.grown es1.size)).2.1
      pure (some true)
     else pure (some true)) R E s:=by
 refine Em (wpAny_storeSet_of ho hd ?_ (HQ hb))
 have ho1:=wV (es':=es1) (t':=t2) ho hd
 have sb1:=Fm s.heap a (Obj.putSet es1 t2)
 by_cases hc:(!dm&&t2.tooFull)=true
 ·rw[EG hc]
  have q1:=relayAll_perm t2 es1 (SetTable.grown es1.size)
  have q2:=relayAll_fits t2 es1 (SetTable.grown es1.size)
  have q3:=nv t2 es1 (SetTable.grown es1.size)
  have q4:=kC t2 es1 (SetTable.grown es1.size)
  generalize relayAll t2 es1 (SetTable.grown es1.size)=L at q1 q2 q3 q4 ⊢
  obtain⟨es2,t3,gave⟩:=L
  dsimp only at q1 q2 q3 q4 ⊢
  have zs:es2.size=es1.size:=by rw[<-F0,q1.length_eq,F0]
  refine Em (hg _ _ _ ?_)
  refine Em (wpAny_storeSet_of ho1 rfl ?_ (HQ (by rw[zs];exact hb)))
  have ho2:=wV (es':=es2) (t':=t3) ho1 rfl
  obtain⟨ks2,e2,p2⟩:=he.perm q1
  refine Eo (h _ (sb1.trans (Fm _ a _)) ⟨_,es2,ep+1+1,t3,ks2,ho2,hex,rfl,e2,p2.trans hp,hn,by rw[zs];exact hb,q2,λz=>?_,q3.trans hle⟩)
  rw[hpl]at q4
  exact absurd (q4 z) EJ
 ·rw[Ex hc]
  exact Eo (h _ sb1 ⟨_,es1,ep+1,t2,ks1,ho1,hex,rfl,he,hp,hn,hb,hf,λz=>(by rw[hpl]at z;cases z),hle⟩)
def dA(ks:List Str)(k:Str):List Str:=if k∈ks then ks else ks++[k]
def fZ{ks:List Str}{k:Str}(h:ks.Nodup):(dA ks k).Nodup:=by
 unfold dA
 split
 ·exact h
 ·rename_i q
  refine Fw.mpr ⟨h,by simp,λa ha b hb=>?_⟩
  have:b=k:=by simpa using hb
  subst this
  rintro rfl
  exact q ha
def jE(ks:List Str)(k:Str):(dA ks k).length<=ks.length+1:=by
 unfold dA
 split
 ·lia
 ·simp
def qU{a:Addr}{ks:List Str}{k:Str}{tk:Tok}{Q:Bool->Shared->Prop}(hS:cJ w s.heap a ks)(hroom:ks.length+1<scanBound)
  (h:∀(h':Heap) (b:Bool),Heap.SameBut a s.heap h'->cJ w h' a (dA ks k)->Q b { s with heap:=h' }):wpAny (model prog w) A (setAddHashed a (.str k tk) (hashStr w k)) Q E s:=by
 obtain⟨o,es,ep,t,ks',ho,hex,hd,he,hp,hn,hb,hf,hpl,hle⟩:=hS
 have hel:ElemsOf (strKind prog w) es.toList:=he.elems
 have hkey:(strKind prog w).is k (.str k tk)=true:=by simp[strKind,Value.isStrOf]
 have hsc:(Value.str k tk).scannable=true:=rfl
 have szl:es.size=ks.length:=by rw[<-hp.length_eq,he.len,F0]
 unfold setAddHashed setAddHashedIn
 refine FJ (Em (GC ho hd hf ?_))
 dsimp only
 rw[byScan_of hsc hb hel]
 simp only[↓reduceIte]
 unfold setAddByScan
 refine Em ?_
 refine Em (Jx ?_)
 refine Em (wpAny_setScan_of (knd:=strKind prog w) hkey ho hd hf hel ?_)
 cases hr:List.findIdx? (λe=>(strKind prog w).is k e.2) es.toList with
 |some j =>
  dsimp only
  obtain⟨hj,hpj,_⟩:=List.findIdx?_eq_some_iff_getElem.mp hr
  have hin:k∈ks:=hp.mem_iff.mp (he.mem.mpr ⟨es.toList[j],IV hj,hpj⟩)
  refine Eo (Eo ?_)
  have e:s={ s with heap:=s.heap }:=by cases s;rfl
  rw[e]
  refine h s.heap _ (Heap.SameBut.refl a s.heap) ?_
  unfold dA
  rw[EG hin]
  exact⟨o,es,ep,t,ks',ho,hex,hd,he,hp,hn,hb,hf,hpl,hle⟩
 |none =>
  dsimp only
  have hout:¬k∈ks:=λz=>by
   obtain⟨e,he',q⟩:=he.mem.mp (hp.mem_iff.mpr z)
   have:=List.findIdx?_eq_none_iff.mp hr e he'
   rw[show(strKind prog w).is k e.2=Value.isStrOf k e.2 from rfl,q]at this
   cases this
  have gw:∀(b:Bool) {s₁:Shared} {Q':Unit->Shared->Prop},Q' () s₁->wpAny (model prog w) A (match b with|true=>rule "set.scan.the-table-gave-way" | false=>pure ()) Q' E s₁:=λb s₁ Q' hq=>by
   cases b with
   |true=>exact Jx hq
   |false=>exact Eo hq
  have q1:=layNew_perm t es (hashStr w k) (.str k tk)
  have q2:=layNew_fits t es (hashStr w k) (.str k tk)
  have q3:=qT t es (hashStr w k) (.str k tk)
  have q4:=mO t es (hashStr w k) (.str k tk)
  have hsame:(strKind prog w).hash k=hashStr w k:=rfl
  generalize layNew t es (hashStr w k) (.str k tk)=L at q1 q2 q3 q4 ⊢
  obtain⟨es1,t1,dm,gave⟩:=L
  dsimp only at q1 q2 q3 q4 ⊢
  rw[Array.toList_push]at q1
  obtain⟨ks1,e1,p1⟩:=(he.snoc (k:=k) (tk:=tk)).perm q1
  have p2:ks1.Perm (dA ks k):=by
   unfold dA
   rw[Ex hout]
   exact p1.trans (hp.append_right _)
  have z1:es1.size=ks.length+1:=by rw[<-F0,<-e1.len,p1.length_eq,Eu,hp.length_eq];rfl
  have b1:es1.size<scanBound:=by rw[z1];exact hroom
  refine Em (gw _ ?_)
  by_cases hpt:t1.plain=true
  ·rw[EG hpt]
   refine Em ?_
   rw[hashByValue_scannable 8 hsc]
   refine Eo ?_
   refine sg (o:=o) (ks:=dA ks k) ?_ ho hex hd e1 p2 (fZ hn) b1 ?_ ?_ ?_ ?_
   ·intro b s₁ Q' hq;exact gw b hq
   ·exact SetTable.fits_plain_off q2
   ·rfl
   ·exact q3.trans hle
   ·intro h' sb hS';dsimp only;exact wpAny_pure (h h' _ sb hS')
  ·rw[Ex hpt]
   refine Em (Eo ?_)
   simp only[↓reduceIte]
   refine sg (o:=o) (ks:=dA ks k) ?_ ho hex hd e1 p2 (fZ hn) b1 q2 (by simpa using hpt) (q3.trans hle) ?_
   ·intro b s₁ Q' hq;exact gw b hq
   ·intro h' sb hS';dsimp only;exact wpAny_pure (h h' _ sb hS')
end UfSet
end
section
namespace UfSet
open PySem
def bX:Slot "set_iterator" "__next__" "set_iterator.__next__" :=
 .of (owner:="set_iterator") (n:="__next__") (by rw[He,Ge];kernel_rfl) (by decide +kernel) (by decide +kernel) (by decide +kernel)
  (by first|exact .inl (by decide +kernel)|exact .inr (by decide +kernel)) (by rw[Iy];kernel_rfl)
def iZ:Slot "set_iterator" "__iter__" "set_iterator.__iter__" :=
 .of (owner:="set_iterator") (n:="__iter__") (by rw[He,Ge];kernel_rfl) (by decide +kernel) (by decide +kernel) (by decide +kernel)
  (by first|exact .inl (by decide +kernel)|exact .inr (by decide +kernel)) (by rw[Iy];kernel_rfl)
def ik:entryFor table "set_iterator.__next__"=some Builtin.«set_iterator.__next__»:=entryFor_of_fast (by kernel_rfl)
def lB:entryFor table "set_iterator.__iter__"=some Builtin.«dict_keyiterator.__iter__» :=
 entryFor_alias (id' := "dict_keyiterator.__iter__") (by kernel_rfl) rfl (by decide +kernel) (by kernel_rfl)
def iQ(a:Value):argsOk "set_iterator.__next__" ⟨[a],[]⟩:=by unfold argsOk;kernel_rfl
def ni(a:Value):argsOk "set_iterator.__iter__" ⟨[a],[]⟩:=by unfold argsOk;kernel_rfl
def mV:entryFor table "set.__iter__"=some Builtin.«frozenset.__iter__» :=
 entryFor_alias (id' := "frozenset.__iter__") (by kernel_rfl) rfl (by decide +kernel) (by kernel_rfl)
end UfSet
end
section
namespace UfSet
open PySem
theorem il{α:Type}:∀(xs:List α) (i:Nat) (h:i<xs.length),(xs[i]::xs.eraseIdx i).Perm xs
 |[],i,h=>absurd h (by simp)
 |x::xs,0,h=>.refl _
 |x::xs,i+1,h=>by
  have ih:=il xs i (by simpa using h)
  show((xs[i]'(by simpa using h))::x::xs.eraseIdx i).Perm (x::xs)
  exact(List.Perm.swap _ _ _).trans (ih.cons x)
def cV(a:Addr)(n ep:Nat)(first:Value)(i:Nat):Obj:={ cls:=.type "set_iterator",data:=.fields #[first,.int i 0,.ref a,.int n 0,.int ep 0] }
def qz{src:Source}{n:Nat}{Q:Nat->Shared->Prop}(hn:n≠0)(h:∀x d,x<n->Q x { s with drawn:=d }):wpAny (model prog w) A (choose src n) Q E s:=by
 intro Γ p _
 show Sem.wp _ Γ (.choose src n .pure) _ _ p s
 rw[Sem.wp_choose]
 refine⟨hn,?_⟩
 simp only[Sem.wp_pure]
 exact h _ _ (Nat.mod_lt _ (Nat.pos_of_ne_zero hn))
theorem pj{α:Type}:∀(n:Nat) (xs:List α) (s:Shared) {Q:List α->Shared->Prop},xs.length=n->(∀ys d,ys.Perm xs->Q ys { s with drawn:=d })->wpAny (model prog w) A (drawOrder n xs) Q E s
 |0,xs,s,Q,hl,h=>by
  have:xs=[]:=Io hl
  subst this
  exact Eo (h [] s.drawn (.refl _))
 |n+1,[],s,Q,hl,h=>by simp at hl
 |n+1,x::xs,s,Q,hl,h=>by
  show wpAny _ _ (choose .order (x::xs).length >>= λi=>match (x::xs)[i]? with|some y=>(do return y::(<-drawOrder n ((x::xs).eraseIdx i)))|none=>unsupported "internal:drawOrder") _ _ s
  refine Em (qz (by simp) λi d hi=>?_)
  have e:(x::xs)[i]?=some (x::xs)[i]:=EA hi
  rw[e]
  dsimp only
  refine Em (pj n _ _ (by rw[Jy,EG hi];omega) λys d' p=>Eo ?_)
  exact h _ d' ((p.cons _).trans (il _ _ hi))
def j2{it a:Addr}{n ep i:Nat}{first:Value}{x:Value}{Q:Option Value->Shared->Prop}(ho:s.heap.get? it=some (cV a n ep first i))
  (h:wpAny (model prog w) A.in1 (Builtin.«set_iterator.__next__» ⟨[.ref it],[]⟩) (λfin s'=>fin=.done (.ret x)/\Q (some x) s') (λ_ _=>False) s):wpAny (model prog w) A (pyNext (.ref it)) Q E s:=by
 have hT:s.TypeIs (.ref it) "set_iterator":=⟨_,ho,rfl⟩
 unfold pyNext
 refine Em (wpAny_attempt (Jd (name:=Str.ofString "__next__") hT bX (Hs bX hT ik ?_ (iQ _))))
 refine Fy h (λfin s' hq=>?_) λ_ _ z=>z.elim
 obtain⟨rfl,hq⟩:=hq
 exact⟨x,rfl,Eo hq⟩
def eA{h:Heap}{it a:Addr}{n ep i:Nat}{first:Value}{k:Nat}{x:Value}(ho:h.get? it=some (cV a n ep first i)) :
  (h.update it (Obj.mapFields (·.setIfInBounds k x))).get? it=some { cV a n ep first i with data:=.fields ((#[first,.int i 0,.ref a,.int n 0,.int ep 0]:Array Value).setIfInBounds k x) } :=
 E8 _ ho rfl
def mM{it a:Addr}{n ep i:Nat}{first:Value}{Q:Option Value->Shared->Prop}(hh:A.handled=none)(ho:s.heap.get? it=some (cV a n ep first i))
  (h:∀{Q' : Fin->Shared->Prop} {E' : Value->Shared->Prop},(∀h',Heap.SameBut it s.heap h'->wpAny (model prog w) A.in1 (do raiseNew (<-newExc (.type "StopIteration") [])) Q' E' { s with heap:=h' }) ->
   wpAny (model prog w) A.in1 (Builtin.«set_iterator.__next__» ⟨[.ref it],[]⟩) Q' E' s)
  (hQ:∀h',Heap.ExtBut it s.heap h'->Q none { s with heap:=h' }):wpAny (model prog w) A (pyNext (.ref it)) Q E s:=by
 have hT:s.TypeIs (.ref it) "set_iterator":=⟨_,ho,rfl⟩
 unfold pyNext
 refine Em (wpAny_attempt (Jd (name:=Str.ofString "__next__") hT bX (Hs bX hT ik ?_ (iQ _))))
 refine h λh1 sb=>?_
 refine Em ?_
 simp only[newExc,newTuple]
 refine Em (FF ?_ (by size_fits))
 refine Em (m:=firstArgMember _ _) (wpAny_of_eq (a:=Value.none) (by first|rfl|(simp only[firstArgMember];rfl)) ?_)
 refine FF ?_ (by size_fits)
 simp only[raiseNew]
 refine Em (wpAny_handled ?_)
 have hh1:A.in1.handled=none:=hh
 rw[hh1]
 refine Em (Eo (wpAny_throw ?_))
 refine Em (IW (T:="StopIteration") (b:=true) ⟨_,Ew _ rfl,rfl⟩ isSubtype_stop ?_)
 exact Eo (hQ _ ((sb.extBut.push _).push _))
section
variable {it a T:Addr}{o oT:Obj}{es:Array (Int×Value)}{ep i:Nat}{t:SetTable}{pl:List Nat}{c:Nat}
def p8{p:Nat}{hx:Int}{x:Value}{Q:Option Value->Shared->Prop}(ho:s.heap.get? it=some (cV a es.size ep (.ref T) i))(ha:s.heap.get? a=some o)(hd:o.data=.set es ep t)(hf:t.fits es.size=true)
  (hT:s.heap.get? T=some oT) (hTd:oT.data=.seq (pl.map λ(j:Nat)=>Value.int j 0).toArray c) (hp:pl[i]?=some p) (hx:es[p]?=some (hx,x))
  (h:∀h',h'.get? it=some (cV a es.size ep (.ref T) (i+1))->Heap.SameBut it s.heap h'->Q (some x) { s with heap:=h' }):wpAny (model prog w) A (pyNext (.ref it)) Q E s:=by
 refine j2 (x:=x) ho ?_
 unfold Builtin.«set_iterator.__next__»
 show wpAny _ _ (fieldsOf (.ref it) >>= _) _ _ s
 refine Em (Hn ho rfl ?_)
 dsimp only
 refine Em (Ga ha hd hf ?_)
 rw[Ex (by simp)]
 show wpAny _ _ (seqItems? (.ref T) >>= _) _ _ s
 refine Em (Jr hT hTd ?_)
 dsimp only
 have e1:((pl.map λ(j:Nat)=>Value.int j 0).toArray)[i]?=some (.int p 0):=by simp[hp]
 simp only[Fv,e1]
 unfold setNextDrawn
 refine Em (Em (GC ha hd hf ?_))
 dsimp only
 rw[Ex (by simp)]
 simp only[hx]
 refine Eo ?_
 refine Em (Fj ho rfl (by simp) (Eo ⟨rfl,h _ ?_ (Fm ..)⟩))
 rw[eA ho]
 simp[cV,rawInt]
def tQ{Q:Option Value->Shared->Prop}(hh:A.handled=none)(ho:s.heap.get? it=some (cV a es.size ep (.ref T) i))(ha:s.heap.get? a=some o)(hd:o.data=.set es ep t)(hf:t.fits es.size=true)
  (hT:s.heap.get? T=some oT) (hTd:oT.data=.seq (pl.map λ(j:Nat)=>Value.int j 0).toArray c) (hp:pl[i]?=none)
  (h:∀h',Heap.ExtBut it s.heap h'->Q none { s with heap:=h' }):wpAny (model prog w) A (pyNext (.ref it)) Q E s:=by
 refine mM hh ho (λ{Q' E'} hq=>?_) h
 unfold Builtin.«set_iterator.__next__»
 show wpAny _ _ (fieldsOf (.ref it) >>= _) _ _ s
 refine Em (Hn ho rfl ?_)
 dsimp only
 refine Em (Ga ha hd hf ?_)
 rw[Ex (by simp)]
 show wpAny _ _ (seqItems? (.ref T) >>= _) _ _ s
 refine Em (Jr hT hTd ?_)
 dsimp only
 have e1:((pl.map λ(j:Nat)=>Value.int j 0).toArray)[i]?=none:=by simpa using hp
 simp only[Fv,e1]
 refine Em (Fj ho rfl (by simp) ?_)
 refine Em (Fj (eA ho) rfl (by simp) ?_)
 exact hq _ ((Fm ..).trans (Fm ..))
end
theorem sq{α:Type}{next:Nat->Nat}:∀(n k:Nat) (left:List α) (out:Array α),left.length=n->∃ys:List α,ys.Perm left/\(pickOrder.go next n k left out).toList=out.toList++ys
 |0,k,left,out,hl=>by
  have:left=[]:=Io hl
  subst this
  exact⟨[],.refl _,by simp[pickOrder.go]⟩
 |n+1,k,left,out,hl=>by
  have hlt:next k % left.length<left.length:=Nat.mod_lt _ (by omega)
  obtain⟨ys,q1,q2⟩:=sq (next:=next) n (k+1) (left.eraseIdx (next k % left.length)) (out.push left[next k % left.length]) (by rw[Jy,EG hlt];omega)
  refine⟨left[next k % left.length]::ys,(q1.cons _).trans (il _ _ hlt),?_⟩
  unfold pickOrder.go
  rw[EA hlt]
  dsimp only
  rw[q2,Array.toList_push,FY]
  rfl
def sx{α:Type}(next:Nat->Nat)(xs:Array α):(pickOrder next xs).toList.Perm xs.toList:=by
 obtain⟨ys,q1,q2⟩:=sq (next:=next) xs.size 0 xs.toList #[] (by simp)
 unfold pickOrder
 rw[q2]
 simpa using q1
section
variable {it a:Addr}{o:Obj}{es:Array (Int×Value)}{ep i:Nat}{t:SetTable}
def ie{Q:Option (Value×Nat)->Shared->Prop}{sl g:Nat}(hb:dw w=true)(ha:s.heap.get? a=some o)(hd:o.data=.set es ep t)(hf:t.fits es.size=true)
  (h:Q (((pickOrder (w.params.setOrder a ep) es)[g]?).map λe=>(e.2,sl)) s):wpAny (model prog w) A (setNext a sl g ep) Q E s:=by
 unfold setNext
 refine Em (GC ha hd hf ?_)
 dsimp only
 refine Em ?_
 unfold setsByText
 refine Em (GX (Eo ?_))
 have key:∀{α:Type} (x y:Sem α),(if (⟨(model prog w).prog,(model prog w).w.params⟩:Setting).params.followText "set-order"=true then x else y)=x:=λx y=>EG hb
 rw[key,Ex (by simp)]
 refine Em ?_
 unfold setWalk
 refine Em (GC ha hd hf ?_)
 dsimp only
 refine Em ?_
 unfold setsByText
 refine Em (GX (Eo ?_))
 rw[key]
 refine Em (GX (Eo ?_))
 exact Eo h
def sy{hx:Int}{x:Value}{Q:Option Value->Shared->Prop}(hb:dw w=true)(ho:s.heap.get? it=some (cV a es.size ep (.int 0 0) i))(ha:s.heap.get? a=some o)(hd:o.data=.set es ep t)(hf:t.fits es.size=true)
  (hp:(pickOrder (w.params.setOrder a ep) es)[i]?=some (hx,x))
  (h:∀h',h'.get? it=some (cV a es.size ep (.int 0 0) (i+1))->Heap.SameBut it s.heap h'->Q (some x) { s with heap:=h' }):wpAny (model prog w) A (pyNext (.ref it)) Q E s:=by
 refine j2 (x:=x) ho ?_
 unfold Builtin.«set_iterator.__next__»
 show wpAny _ _ (fieldsOf (.ref it) >>= _) _ _ s
 refine Em (Hn ho rfl ?_)
 dsimp only
 refine Em (Ga ha hd hf ?_)
 rw[Ex (by simp)]
 refine Em (ie (sl:=0) (g:=i) hb ha hd hf ?_)
 rw[Fv,hp]
 dsimp only[Option.map]
 refine Em (Fj ho rfl (by simp) ?_)
 refine Em (Fj (eA ho) rfl (by simp) (Eo ⟨rfl,h _ ?_ ((Fm ..).trans (Fm ..))⟩))
 rw[E8 _ (eA ho) rfl]
 simp[cV,rawInt,Obj.mapFields]
def uC{Q:Option Value->Shared->Prop}(hh:A.handled=none)(hb:dw w=true)(ho:s.heap.get? it=some (cV a es.size ep (.int 0 0) i))(ha:s.heap.get? a=some o)(hd:o.data=.set es ep t)(hf:t.fits es.size=true)
  (hp:(pickOrder (w.params.setOrder a ep) es)[i]?=none)
  (h:∀h',Heap.ExtBut it s.heap h'->Q none { s with heap:=h' }):wpAny (model prog w) A (pyNext (.ref it)) Q E s:=by
 refine mM hh ho (λ{Q' E'} hq=>?_) h
 unfold Builtin.«set_iterator.__next__»
 show wpAny _ _ (fieldsOf (.ref it) >>= _) _ _ s
 refine Em (Hn ho rfl ?_)
 dsimp only
 refine Em (Ga ha hd hf ?_)
 rw[Ex (by simp)]
 refine Em (ie (sl:=0) (g:=i) hb ha hd hf ?_)
 rw[Fv,hp]
 dsimp only[Option.map]
 refine Em (Fj ho rfl (by simp) ?_)
 exact hq _ (Fm ..)
end
section
variable {it a:Addr}{o:Obj}{es:Array (Int×Value)}{ep i sl:Nat}{t:SetTable}
def iK{Q:Option (Value×Nat)->Shared->Prop}{g:Nat}(hb:dw w=false)(hl:t.led=true)(h1:es.size<=1)(ha:s.heap.get? a=some o)(hd:o.data=.set es ep t)(hf:t.fits es.size=true)
  (h:Q (match es[SetTable.below t.place sl]?,t.place[SetTable.below t.place sl]? with|some (_,x),some j=>some (x,j+1)|_,_=>none) s):wpAny (model prog w) A (setNext a sl g ep) Q E s:=by
 unfold setNext
 refine Em (GC ha hd hf ?_)
 dsimp only
 refine Em ?_
 unfold setsByText
 refine Em (GX (Eo ?_))
 have hb':w.params.followText "set-order"=false:=hb
 have h2:¬es.size > 1:=by omega
 simp only[model,hb',HH,IS]
 rw[Ex (by show ¬((!t.plain&&decide (es.size > 1))=true);simp[h2])]
 refine Em ?_
 show wpAny _ _ (if (!t.led && !es.isEmpty)=true then unsupported "set:maker-not-led" else pure ()) _ _ s
 rw[hl]
 exact Eo (Eo h)
def tP(hf:t.fits es.size=true)(h1:es.size=1):∃j,t.place = #[j]:=by
 have q:t.place.size=1:=by
  have:=(ES.mp (show(t.place.size==es.size&&decide (t.fill<=t.mask))=true from hf)).1
  rw[h1]at this
  simpa using this
 generalize t.place=pl at q
 obtain⟨l⟩:=pl
 have q':l.length=1:=q
 match l,q' with
 |[j],_=>exact⟨j,rfl⟩
def pQ(j:Nat):SetTable.below #[j] 0=0:=by
 unfold SetTable.below
 simp[SetTable.below.go]
def qr(j:Nat):SetTable.below #[j] (j+1)=1:=by
 unfold SetTable.below
 simp[SetTable.below.go]
def vf(t:SetTable)(n i sl:Nat):Prop:=(i=0/\sl=0)\/(i=1/\n=1/\∃j,t.place = #[j]/\sl=j+1)
def xv{hx:Int}{x:Value}{Q:Option Value->Shared->Prop}(hb:dw w=false)(hl:t.led=true)(h1:es.size=1)(ho:s.heap.get? it=some (cV a es.size ep (.int 0 0) 0))(ha:s.heap.get? a=some o)(hd:o.data=.set es ep t)(hf:t.fits es.size=true)
  (hp:es[0]?=some (hx,x))
  (h:∀h' sl,vf t es.size 1 sl->h'.get? it=some (cV a es.size ep (.int sl 0) 1)->Heap.SameBut it s.heap h'->Q (some x) { s with heap:=h' }):wpAny (model prog w) A (pyNext (.ref it)) Q E s:=by
 obtain⟨j,hj⟩:=tP hf h1
 refine j2 (x:=x) ho ?_
 unfold Builtin.«set_iterator.__next__»
 show wpAny _ _ (fieldsOf (.ref it) >>= _) _ _ s
 refine Em (Hn ho rfl ?_)
 dsimp only
 refine Em (Ga ha hd hf ?_)
 rw[Ex (by simp)]
 refine Em (iK (sl:=0) (g:=0) hb hl (by omega) ha hd hf ?_)
 rw[hj,pQ,hp]
 show wpAny _ _ (setField (.ref it) 0 (rawInt ((j+1:Nat):Int)) >>= λ_=>setField (.ref it) 1 (rawInt (((0:Nat):Int)+1)) >>= λ_=>ret x) _ _ s
 refine Em (Fj ho rfl (by simp) ?_)
 refine Em (Fj (eA ho) rfl (by simp) (Eo ⟨rfl,h _ (j+1) (.inr ⟨rfl,h1,j,hj,rfl⟩) ?_ ((Fm ..).trans (Fm ..))⟩))
 rw[E8 _ (eA ho) rfl]
 simp[cV,rawInt,Obj.mapFields]
def yJ{Q:Option Value->Shared->Prop}(hh:A.handled=none)(hb:dw w=false)(hl:t.led=true)(h1:es.size<=1)(hat:vf t es.size i sl)(hi:es.size<=i)(ho:s.heap.get? it=some (cV a es.size ep (.int sl 0) i))(ha:s.heap.get? a=some o)(hd:o.data=.set es ep t)
  (hf:t.fits es.size=true) (h:∀h',Heap.ExtBut it s.heap h'->Q none { s with heap:=h' }):wpAny (model prog w) A (pyNext (.ref it)) Q E s:=by
 refine mM hh ho (λ{Q' E'} hq=>?_) h
 unfold Builtin.«set_iterator.__next__»
 show wpAny _ _ (fieldsOf (.ref it) >>= _) _ _ s
 refine Em (Hn ho rfl ?_)
 dsimp only
 refine Em (Ga ha hd hf ?_)
 rw[Ex (by simp)]
 refine Em (iK (sl:=sl) (g:=i) hb hl h1 ha hd hf ?_)
 have key:(match es[SetTable.below t.place sl]?,t.place[SetTable.below t.place sl]? with|some (_,x),some j=>some (x,j+1)|_,_=>none)=(none:Option (Value×Nat)):=by
  rcases hat with⟨rfl,rfl⟩|⟨rfl,hn,j,hj,rfl⟩
  ·have e0:es = #[]:=by
    have:es.size=0:=by omega
    exact Array.eq_empty_of_size_eq_zero this
   subst e0
   simp
  ·rw[hj,qr]
   simp
 rw[key]
 dsimp only
 refine Em (Fj ho rfl (by simp) ?_)
 exact hq _ (Fm ..)
end
end UfSet
end
section
namespace UfSet
open PySem
theorem dW.get{w:World}:∀{ks:List Str} {es:List (Int×Value)} {i:Nat},dW w ks es->i<es.length->∃hx k tk,es[i]?=some (hx,Value.str k tk)/\ks[i]?=some k
 |_,_,_,.nil,h=>absurd h (by simp)
 |_,_,0,.cons (a:=k) (b:=e) h t,_=>by
  obtain⟨h1,tk,h2⟩:=h
  obtain⟨e1,e2⟩:=e
  have h2:e2=Value.str k tk:=h2
  subst h2
  exact⟨e1,k,tk,rfl,rfl⟩
 |_,_,i+1,.cons h t,hl=>by
  obtain⟨hx,k,tk,q1,q2⟩:=dW.get (i:=i) t (by simpa using hl)
  exact⟨hx,k,tk,by simpa using q1,by simpa using q2⟩
def At(ord:List Str)(i:Nat)(v:Value):Prop:=∃k tk,ord[i]?=some k/\v=Value.str k tk
def mQ{it a:Addr}{n ep i:Nat}{first:Value}{Q:Value->Shared->Prop}(ho:s.heap.get? it=some (cV a n ep first i))(h:Q (.ref it) s):wpAny (model prog w) A (pyIter (.ref it)) Q E s:=by
 have hT:s.TypeIs (.ref it) "set_iterator":=⟨_,ho,rfl⟩
 refine wpAny_pyIter_slot hT iZ (Hs iZ hT lB ?_ (ni _))
 show wpAny _ _ (ret (.ref it)) _ _ s
 exact Eo ⟨_,rfl, "set_iterator",_,hT,bX.lookup,h⟩
def pA{it a T:Addr}{o oT:Obj}{es:Array (Int×Value)}{ep c:Nat}{t:SetTable}{pl:List Nat}{ks ord:List Str}(hh:A.handled=none)(ha:a≠it)(hTi:T≠it)(hd:o.data=.set es ep t)(hf:t.fits es.size=true)(he:dW w ks es.toList)
  (hTd:oT.data=.seq (pl.map λ(j:Nat)=>Value.int j 0).toArray c) (hpl:∀(i p:Nat),pl[i]?=some p->p<es.size/\ord[i]?=ks[p]?) (hlen:pl.length=ord.length) :
  Walks prog w A it [it,a,T] [it] ord.length (At ord) (λi h=>h.get? it=some (cV a es.size ep (.ref T) i)/\h.get? a=some o/\h.get? T=some oT) where
 sub:=λb hb=>by simp at hb;simp[hb]
 frame:=λi h h' st k=>⟨k it (by simp) _ st.1,k a (by simp) _ st.2.1,k T (by simp) _ st.2.2⟩
 item:=λi s Q E hi st hQ=>by
  obtain⟨s1,s2,s3⟩:=st
  have hip:i<pl.length:=by lia
  have hp:pl[i]?=some pl[i]:=EA hip
  obtain⟨hlt,hord⟩:=hpl i _ hp
  obtain⟨hx,k,tk,q1,q2⟩:=he.get (i:=pl[i]) (by simpa using hlt)
  refine p8 s1 s2 hd hf s3 hTd hp (by rw[<-FR];exact q1) λh' st' sb=>?_
  exact hQ _ h' s.toks ⟨k,tk,hord.trans q2,rfl⟩ ⟨st',sb.extBut _ _ ha s2,sb.extBut _ _ hTi s3⟩ λb o hb e=>sb.extBut b o (λz=>hb (by simp[z])) e
 done:=λs Q E st hQ=>by
  obtain⟨s1,s2,s3⟩:=st
  exact tQ hh s1 s2 hd hf s3 hTd (Ho (by lia)) λh' eb=>hQ h' s.toks λb o hb e=>eb b o (λz=>hb (by simp[z])) e
 self:=λ_ _ _ _ st hQ=>mQ st.1 hQ
def qe{it a:Addr}{o:Obj}{es:Array (Int×Value)}{ep:Nat}{t:SetTable}{ord:List Str}(hh:A.handled=none)(hb:dw w=true)(ha:a≠it)(hd:o.data=.set es ep t)(hf:t.fits es.size=true)
  (he:dW w ord (pickOrder (w.params.setOrder a ep) es).toList) :
  Walks prog w A it [it,a] [it] ord.length (At ord) (λi h=>h.get? it=some (cV a es.size ep (.int 0 0) i)/\h.get? a=some o) where
 sub:=λb hb=>by simp at hb;simp[hb]
 frame:=λi h h' st k=>⟨k it (by simp) _ st.1,k a (by simp) _ st.2⟩
 item:=λi s Q E hi st hQ=>by
  obtain⟨s1,s2⟩:=st
  obtain⟨hx,k,tk,q1,q2⟩:=he.get (i:=i) (by rw[<-he.len];exact hi)
  refine sy hb s1 s2 hd hf (by rw[<-FR];exact q1) λh' st' sb=>?_
  exact hQ _ h' s.toks ⟨k,tk,q2,rfl⟩ ⟨st',sb.extBut _ _ ha s2⟩ λb o hb e=>sb.extBut b o (λz=>hb (by simp[z])) e
 done:=λs Q E st hQ=>by
  obtain⟨s1,s2⟩:=st
  refine uC hh hb s1 s2 hd hf ?_ λh' eb=>hQ h' s.toks λb o hb e=>eb b o (λz=>hb (by simp[z])) e
  rw[<-FR]
  exact Ho (by rw[<-he.len];exact Ep _)
 self:=λ_ _ _ _ st hQ=>mQ st.1 hQ
def tm{it a:Addr}{o:Obj}{es:Array (Int×Value)}{ep:Nat}{t:SetTable}{ord:List Str}(hh:A.handled=none)(hb:dw w=false)(hl:t.led=true)(h1:es.size<=1)(ha:a≠it)(hd:o.data=.set es ep t)(hf:t.fits es.size=true)
  (he:dW w ord es.toList) :
  Walks prog w A it [it,a] [it] ord.length (At ord) (λi h=>(∃sl,vf t es.size i sl/\h.get? it=some (cV a es.size ep (.int sl 0) i))/\h.get? a=some o) where
 sub:=λb hb=>by simp at hb;simp[hb]
 frame:=λi h h' st k=>by
  obtain⟨⟨sl,q1,q2⟩,q3⟩:=st
  exact⟨⟨sl,q1,k it (by simp) _ q2⟩,k a (by simp) _ q3⟩
 item:=λi s Q E hi st hQ=>by
  obtain⟨⟨sl,q1,q2⟩,q3⟩:=st
  have hlen:ord.length=es.size:=by(have:=he.len);(have el:es.toList.length=es.size:=by simp);lia
  have h0:es.size=1:=by lia
  rcases q1 with⟨rfl,rfl⟩|⟨rfl,_⟩
  ·obtain⟨hx,k,tk,e1,e2⟩:=he.get (i:=0) (by simp;lia)
   refine xv hb hl h0 q2 q3 hd hf (by rw[<-FR];exact e1) λh' sl' oa st' sb=>?_
   exact hQ _ h' s.toks ⟨k,tk,e2,rfl⟩ ⟨⟨sl',oa,st'⟩,sb.extBut _ _ ha q3⟩ λb o hb e=>sb.extBut b o (λz=>hb (by simp[z])) e
  ·lia
 done:=λs Q E st hQ=>by
  obtain⟨⟨sl,q1,q2⟩,q3⟩:=st
  have hlen:ord.length=es.size:=by(have:=he.len);(have el:es.toList.length=es.size:=by simp);lia
  exact yJ hh hb hl h1 q1 (by lia) q2 q3 hd hf λh' eb=>hQ h' s.toks λb o hb e=>eb b o (λz=>hb (by simp[z])) e
 self:=λ_ _ _ _ st hQ=>by
  obtain⟨⟨sl,q1,q2⟩,q3⟩:=st
  exact mQ q2 hQ
def vo{a:Addr}{ks:List Str}{Q:Value->Shared->Prop}(hS:cJ w s.heap a ks)
  (h:∀(I:Addr) (h' : Heap) (d:Drawn) (ord:List Str) (fp:List Addr) (St:Nat->Heap->Prop),ord.Perm ks->(∀A' : Around,A'.handled = none->Walks prog w A' I fp [I] ord.length (At ord) St)->St 0 h'->I ∈ fp->s.heap.objs.size<=I ->
   (∀b o,s.heap.get? b=some o->h'.get? b=some o)->(∀b∈fp,b<h'.objs.size/\(b=a\/s.heap.objs.size<=b))->Q (.ref I) { s with heap:=h',drawn:=d }) :
  wpAny (model prog w) A (pyIter (.ref a)) Q E s:=by
 obtain⟨o,es,ep,t,ks',ho,hex,hd,he,hp,hn,hb,hf,hpl,hle⟩:=hS
 have hT:s.TypeIs (.ref a) "set":=⟨_,ho,hex.1⟩
 have alt:a<s.heap.objs.size:=Er ho
 refine wpAny_pyIter_slot hT Js (Hs Js hT mV ?_ (PySem.F.args_set_iter_1 _))
 show wpAny _ _ (Builtin.Frozenset.sizeOf a >>= _) _ _ s
 refine Em ?_
 unfold Builtin.Frozenset.sizeOf
 refine Em (Ga ho hd hf (Eo ?_))
 refine Em ?_
 unfold setDrawn
 refine Em (GC ho hd hf ?_)
 dsimp only
 refine Em ?_
 unfold setsByText
 refine Em (GX (Eo (Eo ?_)))
 have key:(!(⟨(model prog w).prog,(model prog w).w.params⟩:Setting).params.followText "set-order" && (!t.plain&&decide (es.size > 1)))=(!dw w&&(!t.plain&&decide (es.size > 1))):=rfl
 show wpAny _ _ (do
  let first <-if (!(⟨(model prog w).prog,(model prog w).w.params⟩:Setting).params.followText "set-order" && (!t.plain&&decide (es.size > 1)))=true then newTuple ((<-drawOrder es.size (List.range es.size)).map λ(i:Nat)=>rawInt i) else pure (rawInt 0)
  ret (<-newFields "set_iterator" [first,rawInt 0,.ref a,rawInt es.size,rawInt (<-setEpoch a)])) _ _ s
 rw[key]
 by_cases hdr:(!dw w&&(!t.plain&&decide (es.size > 1)))=true
 ·rw[EG hdr]
  have zs:es.size<=sizeLine:=HQ hb
  refine Em (pj es.size (List.range es.size) s (by simp) λpl d hpp=>?_)
  have hl:pl.length=es.size:=by rw[hpp.length_eq];simp
  refine Em (FF ?_ (by show(pl.map λ(i:Nat)=>rawInt i).toArray.size<=sizeLine;simp;lia))
  refine Em (wpAny_setEpoch_of (o:=o) (es:=es) (t:=t) (ep:=ep) (En _ ho) hd hf ?_)
  refine Em (FF (Eo ⟨_,rfl, "set_iterator",_,⟨_,Ew _ rfl,rfl⟩,bX.lookup,?_⟩) (by size_fits))
  dsimp only
  have e1:(s.heap.push { cls:=.type "tuple",data:=.seq (pl.map λ(i:Nat)=>rawInt i).toArray }).objs.size=s.heap.objs.size+1:=by rw[Fh]
  have f:∀p,p<es.size->∃k,ks'[p]?=some k:=λp hp'=>by
   obtain⟨_,k,_,_,q⟩:=he.get (i:=p) (by simpa using hp')
   exact⟨k,q⟩
  refine h _ _ d (pl.map λp=>ks'.getD p ⟨#[]⟩) [_,a,s.heap.objs.size] _ ?_ (λA' hh'=>pA (T:=s.heap.objs.size) (oT:={ cls:=.type "tuple",data:=.seq (pl.map λ(i:Nat)=>rawInt i).toArray }) (pl:=pl) hh' ?_ ?_ hd hf he rfl (λi p hip=>?_) (by simp)) ⟨Ew _ rfl,En _ (En _ ho),En _ (Ew _ rfl)⟩ (by simp) (by rw[e1];lia) (λb ob e=>En _ (En _ e)) λb hb'=>?_
  ·have q:=hpp.map (λp=>ks'.getD p ⟨#[]⟩)
   have e2:(List.range es.size).map (λp=>ks'.getD p ⟨#[]⟩)=ks':=by
    have hk:ks'.length=es.size:=by rw[he.len];simp
    rw[<-hk]
    refine List.ext_getElem (by simp) λi h1 h2=>?_
    simp[E5,EA h2]
   rw[e2]at q
   exact q.trans hp
  ·rw[e1];exact Ez (FG alt)
  ·rw[e1];exact Ez (FI _)
  ·have hm:p∈List.range es.size:=hpp.mem_iff.mp (EC hip)
   have hlt:p<es.size:=by simpa using hm
   refine⟨hlt,?_⟩
   obtain⟨k,hk⟩:=f p hlt
   rw[E4,hip,hk]
   simp[E5,hk]
  ·simp only[EB,Ft,GY]at hb'
   rw[Fh]
   rcases hb' with rfl|rfl|rfl
   ·exact⟨FI _,.inr (by rw[e1];exact Fq _)⟩
   ·exact⟨by rw[e1];exact FG (FG alt),.inl rfl⟩
   ·exact⟨by rw[e1];exact FG (FI _),.inr (Ep _)⟩
 ·rw[Ex hdr]
  refine Em (Eo ?_)
  refine Em (wpAny_setEpoch_of (o:=o) (es:=es) (t:=t) (ep:=ep) ho hd hf ?_)
  refine Em (FF (Eo ⟨_,rfl, "set_iterator",_,⟨_,Ew _ rfl,rfl⟩,bX.lookup,?_⟩) (by size_fits))
  have old:∀b ob,s.heap.get? b=some ob->(s.heap.push { cls:=.type "set_iterator",data:=.fields [rawInt 0,rawInt 0,Value.ref a,rawInt (es.size:Int),rawInt (ep:Int)].toArray }).get? b=some ob:=λb ob e=>En _ e
  have own:∀b∈[s.heap.objs.size,a],b<(s.heap.push { cls:=.type "set_iterator",data:=.fields [rawInt 0,rawInt 0,Value.ref a,rawInt (es.size:Int),rawInt (ep:Int)].toArray }).objs.size/\(b=a\/s.heap.objs.size<=b):=λb hb'=>by
   simp only[EB,Ft,GY]at hb'
   rw[Fh]
   rcases hb' with rfl|rfl
   ·exact⟨FI _,.inr (Ep _)⟩
   ·exact⟨FG alt,.inl rfl⟩
  cases hbt:dw w with
  |true =>
   obtain⟨ord,q1,q2⟩:=he.perm (sx (w.params.setOrder a ep) es)
   exact h _ _ s.drawn ord [s.heap.objs.size,a] _ (q2.trans hp) (λA' hh'=>qe hh' hbt (Ez alt) hd hf q1) ⟨Ew _ rfl,En _ ho⟩ (by simp) (Ep _) old own
  |false =>
   have h1:es.size<=1:=by
    rw[hbt]at hdr
    cases hpt:t.plain with
    |true=>have:=hpl hpt;lia
    |false =>
     rw[hpt]at hdr
     by_cases hz:es.size > 1
     ·exact absurd (by simp[hz]) hdr
     ·lia
   rw[hbt]at hle
   exact h _ _ s.drawn ks' [s.heap.objs.size,a] _ hp (λA' hh'=>tm hh' hbt hle h1 (Ez alt) hd hf he) ⟨⟨0,.inl ⟨rfl,rfl⟩,Ew _ rfl⟩,En _ ho⟩ (by simp) (Ep _) old own
end UfSet
end
section
namespace UfSet
open PySem
def vF:typeLookup (.type "set") "__len__"=pure (some (.builtin "set.__len__")):=by rw[He,Ge];kernel_rfl
def xG:isSubtype (.type "set") (.type "set")=pure true:=by rw[Iy];kernel_rfl
def tS:splitId "set.__len__"=some ("set", "__len__"):=by decide +kernel
def kd{wr:List Addr}:∀{s s':Shared},Moved wr (λa b=>b=a) s s'->s'={ s with heap:=s'.heap,toks:=s'.toks }
 |⟨h,g,d,t,o⟩,⟨h',g',d',t',o'⟩,hm=>by
  have e1:g'=g:=hm.gens
  have e2:d'=d:=hm.drawn
  have e3:o'=o:=hm.os
  subst e1 e2 e3
  rfl
def uY{r:Addr}{Q:Bool->Shared->Prop}(hT:s.TypeIs (.ref r) "set")(h:Q false s):wpAny (model prog w) A (Builtin.List.listLengthHint (.ref r)) Q E s:=by
 unfold Builtin.List.listLengthHint
 refine Em (Ih hT vF ?_)
 dsimp only
 rw[tS]
 dsimp only
 refine Em (IW (T:="set") (b:=true) hT xG ?_)
 refine Gw (λz=>absurd z (by decide)) (λ_=>?_)
 refine Gw (λ_=>?_) (λz=>absurd (by decide +kernel) z)
 refine Em (HI hT ?_)
 exact Eo h
def jA{r:Addr}{T:String}{OK:Heap->Prop}{R:Nat->(Nat->Value->Prop)->Prop}{Q:List Value->Shared->Prop}(hh:A.handled=none)(hok:OK s.heap)
  (keep:∀h h':Heap,OK h->(∀b o,h.get? b=some o->h'.get? b=some o)->OK h') (hty:∀s':Shared,OK s'.heap->s'.TypeIs (.ref r) T) (hlt:∀h,OK h->r<h.objs.size)
  (nl:(Value.type T==Value.type "list")=false) (nt:(Value.type T==Value.type "tuple")=false)
  (hint:∀(A':Around) (E':Value->Shared->Prop) (s':Shared) (Q':Bool->Shared->Prop),OK s'.heap->Q' false s'->wpAny (model prog w) A' (Builtin.List.listLengthHint (.ref r)) Q' E' s')
  (iter:∀(A' : Around) (E' : Value->Shared->Prop) (s' : Shared) (Q' : Value->Shared->Prop),OK s'.heap->(∀(I:Addr) (h' : Heap) (d:Drawn) (n:Nat) (P:Nat->Value->Prop) (fp:List Addr) (St:Nat->Heap->Prop),R n P->n<=sizeLine ->
   (∀A2:Around,A2.handled=none->Walks prog w A2 I fp [I] n P St)->St 0 h'->s'.heap.objs.size<=I->(∀b o,s'.heap.get? b=some o->h'.get? b=some o)->(∀b∈fp,b=r\/s'.heap.objs.size<=b)->Q' (.ref I) { s' with heap:=h',drawn:=d }) ->
   wpAny (model prog w) A' (pyIter (.ref r)) Q' E' s')
  (h:∀(h':Heap) (tk:Nat) (d:Drawn) (n:Nat) (P:Nat->Value->Prop) (vs:List Value),R n P->vs.length=n->(∀(j:Nat) v,vs[j]?=some v->P j v)->(∀b o,s.heap.get? b=some o->h'.get? b=some o)->s.heap.objs.size<=h'.objs.size->Q vs { s with heap:=h',toks:=tk,drawn:=d }) :
  wpAny (model prog w) A (collect (.ref r)) Q E s:=by
 unfold collect
 refine Em (wpAny_runValue (Gh PySem.F.entry_proto_collect ?_))
 rw[FX PySem.F.plain_proto_collect _]
 show wpAny _ A.in1 (newList [] >>= λl=>again (.builtin "list.__iadd__" ⟨[l,.ref r],[]⟩)) _ _ s
 refine Em (FF ?_)
 refine Eo ⟨GA Je _,Gh PySem.F.entry_list_iadd ?_⟩
 rw[FX Je _]
 generalize hs1:(s.heap.push { cls:=.type "list",data:=.seq ([]:List Value).toArray })=h1
 have S1:h1.get? s.heap.objs.size=some { cls:=.type "list",data:=.seq #[] }:=by rw[<-hs1];exact Ew _ rfl
 have k1:∀b ob,s.heap.get? b=some ob->h1.get? b=some ob:=λb ob e=>by rw[<-hs1];exact En _ e
 have z1:h1.objs.size=s.heap.objs.size+1:=by rw[<-hs1,Fh]
 have alt:r<s.heap.objs.size:=hlt _ hok
 have ok1:OK h1:=keep _ _ hok k1
 show wpAny _ A.in1 (Builtin.List.listExtendWith (.ref s.heap.objs.size) (.ref r) (.ref s.heap.objs.size)) _ _ { s with heap:=h1 }
 unfold Builtin.List.listExtendWith
 refine Em (HI (T:=T) (hty { s with heap:=h1 } ok1) ?_)
 have e1:Builtin.List.listSameRef (.ref s.heap.objs.size) (.ref r)=false:=by simp[Builtin.List.listSameRef,FK alt]
 simp only[e1,nl,nt,JC,HH,IS]
 refine Em (iter _ _ { s with heap:=h1 } _ ok1 λI h2 d n P fp St hR zo W st hIz k2 hfp=>?_)
 have S2:=k2 _ _ S1
 refine Em (FJ (hint _ _ _ _ (keep _ _ ok1 k2) ?_))
 have nfp:s.heap.objs.size∉fp:=λhm=>by
  rcases hfp _ hm with z|z
  ·exact absurd z (FK alt)
  ·have z':h1.objs.size<=s.heap.objs.size:=z
   rw[z1]at z'
   exact absurd z' (Nat.not_succ_le_self _)
 have key:∀(h3:Heap) (c tk:Nat),St 0 h3->(∀b ob,b≠s.heap.objs.size->h2.get? b=some ob->h3.get? b=some ob)->h3.get? s.heap.objs.size=some { cls:=.type "list",data:=.seq #[] c } ->
   codeAny (model prog w) A (.builtin "list.extend.loop" ⟨[.ref s.heap.objs.size,.ref I,.ref s.heap.objs.size],[]⟩)
    (λr s'=>match r with|.ok (.ret v)=>wpAny (model prog w) A (match v with|.ref b=>(load b >>= λob=>(match ob.data with|.seq xs _=>pure xs.toList|_=>unsupported "internal:collect"))|_=>unsupported "internal:collect") Q E s'|.ok _=>False|.error e=>E e s') { s with heap:=h3,toks:=tk,drawn:=d }:=by
  intro h3 c tk st3 k3 S3
  refine codeAny_extend_loopS (W A.in1 hh).toS zo s.heap.objs.size nfp _ n 0 _ #[] c rfl (EV _) st3 S3 (ItemsOf.nil _) λs' acc c' hm S' hacc=>?_
  dsimp only
  refine Em (wpAny_load S' (Eo ?_))
  rw[kd hm]
  refine h s'.heap s'.toks d n P acc.toList hR (by rw[<-hacc.1];simp) (λj v e=>hacc.2 j v (by rw[<-FR];exact e)) (λb ob e=>?_) (Hm (Er S'))
  have nb:b≠s.heap.objs.size:=Ez (Er e)
  refine hm.heap b ob (λhmem=>?_) (k3 b ob nb (k2 b ob (k1 b ob e)))
  rcases EB.mp hmem with z|z
  ·exact nb z
  ·have z':b=I:=by simpa using z
   subst z'
   have z2:h1.objs.size<=b:=hIz
   rw[z1]at z2
   exact absurd (EE (Er e) (Nat.le_of_succ_le z2)) (Fe _)
 refine Gw (λ_=>?_) (λ_=>Eo ⟨GA HD _,key _ 0 _ st (λb ob _ e=>e) S2⟩)
 refine Em (Jx ?_)
 refine Em ?_
 show wpAny _ _ (updateSeq s.heap.objs.size (·.push .none) >>= λ_=>updateSeq s.heap.objs.size (·.pop)) _ _ _
 refine Em (Jk S2 rfl ?_)
 have S3:=E8 (Obj.mapSeq (·.push Value.none)) S2 rfl
 refine Jk (hz:=by seq_fits) S3 rfl ?_
 have S4:=E8 (Obj.mapSeq (·.pop)) S3 rfl
 have oth:∀b ob,b≠s.heap.objs.size->h2.get? b=some ob->((h2.update s.heap.objs.size (Obj.mapSeq (·.push Value.none))).update s.heap.objs.size (Obj.mapSeq (·.pop))).get? b=some ob:=λb ob nb e =>
  (EU _ _ (E2 nb)).trans ((EU _ _ (E2 nb)).trans e)
 exact Eo ⟨GA HD _,key _ _ _ ((W A.in1 hh).frame 0 _ _ st λb hb' ob e=>oth b ob (λz=>nfp (z ▸ hb')) e) oth S4⟩
def oC{a:Addr}{ks:List Str}{Q:List Value->Shared->Prop}(hh:A.handled=none)(hS:cJ w s.heap a ks)
  (h:∀(h':Heap) (tk:Nat) (d:Drawn) (ord:List Str) (vs:List Value),ord.Perm ks->vs.length=ord.length->(∀(j:Nat) v,vs[j]?=some v->At ord j v)->(∀b o,s.heap.get? b=some o->h'.get? b=some o)->s.heap.objs.size<=h'.objs.size->Q vs { s with heap:=h',toks:=tk,drawn:=d }) :
  wpAny (model prog w) A (collect (.ref a)) Q E s:=by
 have kp:∀h h':Heap,cJ w h a ks->(∀b o,h.get? b=some o->h'.get? b=some o)->cJ w h' a ks:=λh1 h2 x k=>by
  obtain⟨o,es,ep,t,ks',ho,r⟩:=x
  exact⟨o,es,ep,t,ks',k _ _ ho,r⟩
 have ty:∀s':Shared,cJ w s'.heap a ks->s'.TypeIs (.ref a) "set":=λs' x=>by
  obtain⟨o,es,ep,t,ks',ho,hex,_⟩:=x
  exact⟨o,ho,hex.1⟩
 have zs:ks.length<=sizeLine:=by
  obtain⟨o,es,ep,t,ks',ho,hex,hd,he,hp,hn,hb,_⟩:=hS
  rw[<-hp.length_eq,he.len]
  have el:es.toList.length=es.size:=by simp
  rw[el]
  exact HQ hb
 refine jA (T:="set") (OK:=λh=>cJ w h a ks) (R:=λn P=>∃ord:List Str,ord.Perm ks/\n=ord.length/\P=At ord) hh hS kp ty (λh1 x=>?_) (by decide) (by decide) (λA' E' s' Q' x q=>uY (ty s' x) q) (λA' E' s' Q' x q=>?_) ?_
 ·obtain⟨o,_,_,_,_,ho,_⟩:=x
  exact Er ho
 ·exact vo x λI h' d ord fp St hp W st hI hIz k2 hfp=>q I h' d ord.length (At ord) fp St ⟨ord,hp,rfl,rfl⟩ (by rw[hp.length_eq];exact zs) W st hIz k2 λb hb=>(hfp b hb).2
 ·rintro h' tk d n P vs ⟨ord,hp,rfl,rfl⟩ hl hat hk hz
  exact h h' tk d ord vs hp hl hat hk hz
end UfSet
end
section
namespace UfSrt
open PySem PySem.Spec PyProof.Rows
def le(a b:Str):Prop:=a.cps.toList<=b.cps.toList
def leB(a b:Str):Bool:=decide (a.cps.toList<=b.cps.toList)
def leB_iff{a b:Str}:leB a b=true↔le a b:=by simp[leB,le]
def yy{a b:Str}(h:a.cps.toList=b.cps.toList):a=b:=by
 obtain⟨x⟩:=a
 obtain⟨y⟩:=b
 have:x=y:=Array.toList_inj.mp h
 rw[this]
def ye{a b:Str}(h1:le a b)(h2:le b a):a=b:=yy (List.le_antisymm h1 h2)
def zu{a b c:Str}(h1:le a b)(h2:le b c):le a c:=List.le_trans h1 h2
def Au(a b:Str):le a b\/le b a:=List.le_total _ _
def aI(xs:List Str):List Str:=xs.mergeSort leB
def dk(xs:List Str):(aI xs).Perm xs:=List.mergeSort_perm _ _
def rb(xs:List Str):(aI xs).Pairwise le:=by
 have h:=List.pairwise_mergeSort (le:=leB) (λa b c h1 h2=>leB_iff.mpr (zu (leB_iff.mp h1) (leB_iff.mp h2))) (λa b=>by
  rcases Au a b with h|h
  ·rw[leB_iff.mpr h];rfl
  ·rw[leB_iff.mpr h,IX]) xs
 exact h.imp λh=>leB_iff.mp h
def pw_unique{xs ys:List Str}(h1:xs.Pairwise le)(h2:ys.Pairwise le)(p:xs.Perm ys):xs=ys :=
 List.Perm.eq_of_pairwise (λa b _ _=>ye) h1 h2 p
def xg{xs ys:List Str}(h:xs.Pairwise le)(p:xs.Perm ys):xs=aI ys:=pw_unique h (rb ys) (p.trans (dk ys).symm)
def sF{xs ys:List Str}(p:xs.Perm ys):aI xs=aI ys:=xg (rb xs) ((dk xs).trans p)
def cQ{xs:List Str}{x:Str}:x∈aI xs↔x∈xs:=(dk xs).mem_iff
def d2(xs:List Str):(aI xs).length=xs.length:=(dk xs).length_eq
def tj{xs:List Str}:(aI xs).Nodup↔xs.Nodup:=(dk xs).nodup_iff
theorem mC:∀{p:Str} {l:List Str},risingS p l=true->(p::l).Pairwise le
 |p,[],_=>by simp
 |p,x::r,h=>by
  have h':(!ltCps x.cps.toList p.cps.toList&&risingS x r)=true:=h
  obtain⟨h1,h2⟩:=ES.mp h'
  have ih:=mC h2
  have hpx:le p x:=by
   rw[ltCps_eq]at h1
   exact List.not_lt.mp (by simpa using h1)
  refine List.pairwise_cons.mpr ⟨λb hb=>?_,ih⟩
  rcases EB.mp hb with rfl|hb
  ·exact hpx
  ·exact zu hpx ((List.pairwise_cons.mp ih).1 b hb)
def tI:∀{l:List Str},sortedS l=true->l.Pairwise le
 |[],_=>.nil
 |x::r,h=>mC h
end UfSrt
end
section
namespace UfSort
open PySem PySem.Spec PyProof.Rows UfSrt
def iY{vs:List Value}{ss:List Str}(h:StrsAre vs ss):vs.length=ss.length:=by
 induction h with
 |nil=>rfl
 |cons _ _ h ih=>rw[ER,ER,ih]
structure Left(h h':Heap)(D:Addr)(ss:List Str):Prop where
 keep:∀b o,h.get? b=some o->h'.get? b=some o
 new:h.objs.size<=D
 at':∃vs n,h'.get? D=some { cls:=.type "list",data:=.seq (List.toArray vs) n }/\StrsAre vs (aI ss)
def jb{r:Value}{ss:List Str}{Q:Value->Shared->Prop}
  (hc:∀{Q':List Value->Shared->Prop},(∀h' tk d vs ss',(∀b o,s.heap.get? b=some o->h'.get? b=some o)->s.heap.objs.size<=h'.objs.size->StrsAre vs ss'->ss'.Perm ss->Q' vs { s with heap:=h',toks:=tk,drawn:=d })->wpAny (model prog w) A.in1 (collect r) Q' E s)
  (h64:ss.length<64) (h:∀h' tk d D,Left s.heap h' D ss->Q (.ref D) { s with heap:=h',toks:=tk,drawn:=d }):wpAny (model prog w) A (call (.builtin "sorted") [r]) Q E s:=by
 refine Calls.call_function_entry kind_sorted plain_sorted entry_sorted (args_sorted1 _) ?_
 unfold Builtin.«sorted»
 refine Em (m:=checkCount "sorted" 1 1 _) (Eo ?_)
 refine Em (hc λh1 tk d vs ss1 k1 z1 hS hp=>?_)
 have hl:vs.length=ss.length:=by rw[iY hS,hp.length_eq]
 refine Em (wpAny_newList ?_ (by rw[E3];lia))
 have hoL:(h1.push (seqObj "list" vs.toArray 0)).get? h1.objs.size=some (seqObj "list" vs.toArray 0):=Ew _ rfl
 refine Em (FJ (Hs slot_list_sort ⟨_,hoL,rfl⟩ entry_list_sort (list_sort_treeK strKind_oneLt hoL hS.keysOf (λv₁ v₂ rest e=>keyKind_strs (by rw[<-e];exact hS)) (by lia) λst' a1 a2=>⟨_,rfl,?_⟩) (args_list_sort _)))
 obtain⟨ss',q1,q2,q3⟩:=sorted_out_str hS a1 a2
 obtain⟨e,he⟩:=sortedHeap_at (h:=h1.push (seqObj "list" vs.toArray 0)) (a:=h1.objs.size) (vs:=vs) (n:=0) (out:=(arrOf st').map (·.2)) hoL
 refine Eo ⟨_,rfl,h _ tk d _ ⟨λb o hb=>?_,?_,((arrOf st').map (·.2)).toList,e,by rw[Array.toArray_toList];exact he,?_⟩⟩
 ·have hb1:=k1 b o hb
  rw[sortedHeap_old (Ez (Er hb1)) (by rw[size_push'];exact FG (Er hb1))]
  exact En _ hb1
 ·exact z1
 ·have:ss'=aI ss:=xg (tI q3) (q2.trans hp)
  rw[<-this]
  exact q1
theorem rL{ord:List Str}:∀{vs:List Value} {j:Nat},vs.length+j=ord.length->(∀(i:Nat) v,vs[i]?=some v->UfSet.At ord (j+i) v)->StrsAre vs (ord.drop j)
 |[],j,hl,_=>by
  rw[HU (by simp at hl;lia)]
  exact .nil
 |v::vs,j,hl,h=>by
  obtain⟨k,tk,e,hv⟩:=h 0 v rfl
  subst hv
  have hj:j<ord.length:=by simp at hl;lia
  have ej:ord[j]=k:=by
   rw[JP,EA hj]at e
   exact EO e
  rw[GD hj,ej]
  exact .cons k tk (rL (j:=j+1) (by simp at hl;lia) λi v e=>by
   have:=h (i+1) v (by simpa using e)
   rw[show j+1+i=j+(i+1) by lia]
   exact this)
def qf{a:Addr}{ks:List Str}{Q:Value->Shared->Prop}(hh:A.handled=none)(hS:UfSet.cJ w s.heap a ks)(h64:ks.length<64)
  (h:∀h' tk d D,Left s.heap h' D ks->Q (.ref D) { s with heap:=h',toks:=tk,drawn:=d }):wpAny (model prog w) A (call (.builtin "sorted") [.ref a]) Q E s :=
 jb (λ{Q'} hq=>UfSet.oC (A:=A.in1) hh hS λh' tk d ord vs hp hl hat hk hz=>hq h' tk d vs ord hk hz (by
  have:=rL (ord:=ord) (vs:=vs) (j:=0) (by lia) (λi v e=>by rw[JQ];exact hat i v e)
  simpa using this) hp) h64 h
def pH{l:Addr}{vs:List Value}{ss:List Str}{Q:Value->Shared->Prop}(hl:s.heap.IsList l vs.toArray)(hS:StrsAre vs ss)(h64:ss.length<64)
  (h:∀h' tk d D,Left s.heap h' D ss->Q (.ref D) { s with heap:=h',toks:=tk,drawn:=d }):wpAny (model prog w) A (call (.builtin "sorted") [.ref l]) Q E s :=
 jb (λ{Q'} hq=>collect_list (A:=A.in1) hl (hq _ s.toks s.drawn vs ss (λb o e=>by
  rw[EU _ _ (FK (Er e))]
  exact En _ e) (by rw[Heap.size_update,size_push'];exact Fq _) hS (.refl _)) (by rw[E3,iY hS];lia)) h64 h
end UfSort
end
section
namespace UfSet
open PySem PyProof.Rows
def dd(xs:List Str):List Str:=xs.foldl dA []
def xf{ks:List Str}{k x:Str}:x∈dA ks k↔x∈ks\/x=k:=by
 unfold dA
 split
 ·rename_i h
  constructor
  ·exact .inl
  ·rintro(q|rfl)
   ·exact q
   ·exact h
 ·simp
theorem og{x:Str}:∀{xs acc:List Str},x∈xs.foldl dA acc↔x∈acc\/x∈xs
 |[],acc=>by simp
 |y::xs,acc=>by
  rw[Gg,og,xf,EB,or_assoc]
theorem kJ:∀{xs acc:List Str},acc.Nodup->(xs.foldl dA acc).Nodup
 |[],_,h=>h
 |y::xs,acc,h=>kJ (xs:=xs) (fZ h)
theorem o2:∀{xs acc:List Str},(xs.foldl dA acc).length<=acc.length+xs.length
 |[],acc=>by simp
 |y::xs,acc=>by
  have h1:=o2 (xs:=xs) (acc:=dA acc y)
  have h2:=jE acc y
  rw[Gg,ER]
  lia
def m7{xs:List Str}{x:Str}:x∈dd xs↔x∈xs:=by unfold dd;rw[og];simp
def kg(xs:List Str):(dd xs).Nodup:=kJ .nil
theorem ig:∀{xs acc:List Str},(acc++xs).Nodup->xs.foldl dA acc=acc++xs
 |[],acc,_=>by simp
 |y::xs,acc,h=>by
  have hy:¬y∈acc:=λz=>by
   rw[Fw]at h
   exact h.2.2 y z y EY rfl
  rw[List.foldl_cons,show dA acc y=acc++[y] by unfold dA;rw[if_neg hy],ig (by rw[List.append_assoc];exact h),List.append_assoc]
  rfl
def oH{xs:List Str}(h:xs.Nodup):dd xs=xs:=by unfold dd;rw[ig (by simpa using h)];rfl
theorem lY:∀{xs acc:List Str},acc.Nodup->(xs.foldl dA acc).length=acc.length+xs.length->(acc++xs).Nodup
 |[],acc,h,_=>by simpa using h
 |y::xs,acc,h,hl=>by
  rw[Gg,ER]at hl
  by_cases hy:y∈acc
  ·rw[show dA acc y=acc by unfold dA;rw[if_pos hy]]at hl
   have:=o2 (xs:=xs) (acc:=acc)
   lia
  ·have e:dA acc y=acc++[y]:=by unfold dA;rw[if_neg hy]
   rw[e]at hl
   have q:=lY (xs:=xs) (acc:=acc++[y]) (by rw[<-e];exact fZ h) (by rw[Eu,Ia];lia)
   rw[FY]at q
   exact q
def qG{xs:List Str}:(dd xs).length=xs.length↔xs.Nodup:=by
 constructor
 ·intro h
  have:=lY (xs:=xs) (acc:=[]) .nil (by rw[Jj,JQ];exact h)
  simpa using this
 ·intro h
  rw[oH h]
section
variable {prog:Program}{w:World}{A:Around}{R:Result->Shared->Prop}{I:Addr}{fp wr:List Addr}{G:Array GenState->Array GenState->Prop}{St:Nat->Shared->Prop}
def cJ.keeps{w:World}{h h':Heap}{a:Addr}{ks:List Str}(x:cJ w h a ks)(k:∀o,h.get? a=some o->h'.get? a=some o):cJ w h' a ks:=by
 obtain⟨o,es,ep,t,ks',ho,r⟩:=x
 exact⟨o,es,ep,t,ks',k _ ho,r⟩
def u9{xs:List Str}(W:WalksS prog w A.in1 I fp wr G xs.length (At xs) St)(S:Addr)(hSf:S∉fp)(hb:xs.length+1<scanBound):∀(k i:Nat) (s:Shared) (acc:List Str),xs.length-i=k->i<=xs.length->St i s->cJ w s.heap S acc->acc.length<=i ->
  (∀s',Moved (S::wr) G s s'->cJ w s'.heap S ((xs.drop i).foldl dA acc)->R (.ok (.ret .none)) s')->codeAny (model prog w) A (.builtin "set.update.loop" ⟨[.ref S,.ref I],[]⟩) R s:=by
 have nSw:S∉wr:=λz=>hSf (W.sub _ z)
 have sub:∀b∈wr,b∈S::wr:=λb z=>EK _ z
 intro k
 induction k with
 |zero =>
  intro i s acc hk hi st hS ha hR
  have e:i=xs.length:=by lia
  subst e
  refine Gh HJ ?_
  rw[FX Gk _]
  show wpAny _ A.in1 (pyNext (.ref I) >>= _) _ _ s
  refine Em (W.done s _ _ st λs' hm=>?_)
  show wpAny _ A.in1 (ret Value.none) _ _ s'
  refine Eo (hR s' (hm.mono sub) ?_)
  rw[HU (Ep _)]
  exact hS.keeps λo ho=>hm.heap S _ nSw ho
 |succ k ih =>
  intro i s acc hk hi st hS ha hR
  have hlt:i<xs.length:=by lia
  refine Gh HJ ?_
  rw[FX Gk _]
  show wpAny _ A.in1 (pyNext (.ref I) >>= _) _ _ s
  refine Em (W.item i s _ _ hlt st λv s' hP st' hm=>?_)
  obtain⟨x,tk,ex,rfl⟩:=hP
  have hS':cJ w s'.heap S acc:=hS.keeps λo ho=>hm.heap S _ nSw ho
  show wpAny _ A.in1 (holding [Value.str x tk] (setAdd S (.str x tk)) >>= _) _ _ s'
  refine Em (FJ ?_)
  unfold setAdd
  refine FJ ?_
  refine Em ((strKind prog w).pyHash (k:=x) (by simp[PySem.strKind,Value.isStrOf]) ?_)
  refine qU (s:={ s' with toks:=s'.toks+1 }) hS' (by lia) λh' b sb hS2=>?_
  have hd:xs.drop i=x::xs.drop (i+1):=by
   rw[GD hlt]
   rw[EA hlt]at ex
   rw[EO ex]
  refine Eo ⟨GA Gk _,ih (i+1) _ (dA acc x) (by lia) hlt (W.frame _ s' _ _ st' (Fq _) λb hb' o e=>?_) hS2 (by have:=jE acc x;lia) λs'' hm2 hS3=>?_⟩
  ·rw[sb.2 b (λz:b=S=>hSf (by rw[<-z];exact hb'))];exact e
  ·refine hR s'' (Moved.trans W.gtrans ((hm.mono sub).then_heap (Fq _) λb o hb' e=>?_) hm2) ?_
   ·rw[sb.2 b (λz:b=S=>hb' (by rw[z];exact EY))];exact e
   ·rw[hd,Gg]
    exact hS3
end
end UfSet
end
section
namespace UfSet
open PySem PyProof.Rows
abbrev cB(w:World):Obj:={ cls:=.type "set",dict:=none,data:=.set #[] 0 (.fresh 0 0 (!dw w)) }
def sY{w:World}{h:Heap}{a:Addr}(ho:h.get? a=some (cB w)):cJ w h a [] :=
 ⟨_,#[],0,_,[],ho,⟨rfl,rfl,rfl⟩,rfl,.nil,.refl _,.nil,by show 0<scanBound;unfold scanBound;lia,by rfl,λ_=>rfl,rfl⟩
def iY{vs:List Value}{ss:List Str}(h:StrsAre vs ss):vs.length=ss.length:=by
 induction h with
 |nil=>rfl
 |cons _ _ h ih=>rw[ER,ER,ih]
theorem pI:∀{vs:List Value} {ss:List Str} {i:Nat} {v:Value},StrsAre vs ss->vs[i]?=some v->At ss i v
 |_,_,_,_,.nil,e=>by simp at e
 |_,_,0,v,.cons x t h,e=>by
  have:Value.str x t=v:=by simpa using e
  exact⟨x,t,rfl,this.symm⟩
 |_,_,i+1,_,.cons x t h,e=>by
  obtain⟨k,tk,q1,q2⟩:=pI (i:=i) h (by simpa using e)
  exact⟨k,tk,by simpa using q1,q2⟩
def _root_.PySem.Walks.imp{prog:Program}{w:World}{A:Around}{I:Addr}{fp wr:List Addr}{n:Nat}{P P':Nat->Value->Prop}{St:Nat->Heap->Prop}(W:Walks prog w A I fp wr n P St)(h:∀i v,P i v->P' i v):Walks prog w A I fp wr n P' St where
 sub:=W.sub
 frame:=W.frame
 item:=λi s Q E hi st hQ=>W.item i s Q E hi st λv h' tk hP=>hQ v h' tk (h i v hP)
 done:=W.done
 self:=W.self
def xw(x:Value){Q:Value->Shared->Prop}(hq:Q (.ref s.heap.objs.size) { s with heap:=s.heap.push (cB w) }) :
  codeAny (model prog w) A (.call (.builtin "set.__new__") ⟨[.type "set",x],[]⟩) (wants Q E) s:=by
 refine Jl ?_
 show wpAny _ A.in1 (checkBuiltinCall "set.__new__" ⟨[.type "set",x],[]⟩ >>= λ_=>again (.builtin "set.__new__" ⟨[.type "set",x],[]⟩)) _ _ s
 refine Em (wpAny_of_eq (PySem.F.newCall_set_1 x) (Eo ⟨GA Jt _,Gh PySem.F.entry_set_new ?_⟩))
 rw[FX Jt _]
 unfold Builtin.«set.__new__» Builtin.Frozenset.newClass
 have f1:=sub_set_self
 obtain⟨hp,g,d,tk,os⟩:=s
 dsimp only
 wp_walk
 refine GX (Eo ?_)
 dsimp only
 simp only[newObj]
 refine Em (wpAny_alloc (Eo ?_))
 exact Eo hq
def oy{l:Addr}{its:List Value}{xs:List Str}{Q:Value->Shared->Prop}(hh:A.handled=none)(hl:s.heap.IsList l its.toArray)(hx:StrsAre its xs)(hb:xs.length+1<scanBound)
  (h:∀(h':Heap) (tk:Nat),cJ w h' s.heap.objs.size (dd xs)->(∀b o,s.heap.get? b=some o->h'.get? b=some o)->Q (.ref s.heap.objs.size) { s with heap:=h',toks:=tk }) :
  wpAny (model prog w) A (call (.type "set") [.ref l]) Q E s:=by
 obtain⟨c,tl,g1⟩:=FV.mro
 have g2:=FV.made
 have g3:=FV.sub
 refine Hd (Jl ?_)
 show wpAny _ _ (callAny (.type "set") _) _ _ _
 refine Eo ⟨IC _ (by decide +kernel),Gh PySem.F.entry_type_call ?_⟩
 rw[Around.under_plain (weight_type_call_type "set" [.ref l] []) rfl]
 have g4:=FV.notType
 have g5:=FV.canCreate
 have g6:=PySem.F.typeCall_set_1 (.ref l)
 repeat (any_goals (first|assumption|wp_step))
 refine FL (xw (.ref l) (E:=E) (Q:=λobj s₁=>obj=.ref s.heap.objs.size/\s₁={ s with heap:=s.heap.push (cB w) }) ⟨rfl,rfl⟩) λr s₁ hr=>?_
 cases r with
 |error e=>exact hr
 |ok fl =>
  cases fl with
  |ret obj =>
   obtain⟨rfl,rfl⟩:=hr
   have o1:(s.heap.push (cB w)).get? s.heap.objs.size=some (cB w):=Ew _ rfl
   have T1:Shared.TypeIs { s with heap:=s.heap.push (cB w) } (.ref s.heap.objs.size) "set":=⟨_,o1,rfl⟩
   have g7:=FV.init.lookup
   have g8:=FV.init.bind (.ref s.heap.objs.size)
   repeat (any_goals (first|assumption|wp_step))
   refine FL (GF (R:=wants (λr s₂=>r=.none/\∃h' tk,s₂={ s with heap:=h',toks:=tk }/\cJ w h' s.heap.objs.size (dd xs)/\(∀b o,s.heap.get? b=some o->h'.get? b=some o)) E) FV.init.plain PySem.F.entry_set_init (check_set_init_1 T1 ?_)) λr₂ s₂ hr₂=>?_
   ·obtain⟨ol,hol,hcl,nl,hdl⟩:=hl
    obtain⟨ocls,odict,odata,oslots⟩:=ol
    simp only at hcl hdl
    subst hcl;subst hdl
    have hol':(s.heap.push (cB w)).get? l=some { cls:=.type "list",dict:=odict,data:=.seq its.toArray nl,slots:=oslots }:=En _ hol
    have n1:=PySem.F.sub_list_set
    have n2:=PySem.F.sub_list_frozenset
    have n3:(Value.type "list" == Value.type "dict")=false:=by decide
    have l1:(s.heap.push (cB w)).IsList l its.toArray:=⟨_,hol',rfl,nl,rfl⟩
    unfold Builtin.«set.__init__» noKeywords Builtin.Frozenset.updateFrom
    generalize hPI:pyIter=PI
    wp_walk
    subst hPI
    refine Hj l1 ?_
    refine Em (wpAny_runValue ?_)
    have lt:l<s.heap.objs.size:=Er hol
    have h3:A.in1.in1.in1.handled=none:=by simp[hh]
    have neI:l≠(s.heap.push (cB w)).objs.size:=by rw[Fh];exact Ez (FG lt)
    have nf:s.heap.objs.size∉[(s.heap.push (cB w)).objs.size,l]:=by
     rw[Fh]
     simp only[EB,Ft,GY,JR]
     exact⟨Ez (FI _),FK lt⟩
    have hat:∀(i:Nat) (v:Value),its.toArray[i]?=some v->At xs i v:=λi v e=>by
     have e':its[i]?=some v:=by simpa using e
     exact pI hx e'
    have hsz:its.toArray.size=xs.length:=by rw[ED];exact iY hx
    have W0:=(Walks.list (prog:=prog) (w:=w) h3 (s.heap.push (cB w)).objs.size l neI its.toArray).imp hat
    rw[hsz]at W0
    refine u9 W0.toS s.heap.objs.size nf hb xs.length 0 _ [] (by lia) (EV _) ⟨⟨_,Ew _ rfl,rfl,rfl⟩,(l1.push _)⟩ (sY (En _ o1)) (Ep _) ?_
    intro s' hm hS'
    rw[Iz]at hS'
    rw[kd hm]
    show wpAny _ _ _ _ _ _
    refine Eo ?_
    show wpAny _ _ (ret Value.none) _ _ _
    refine Eo ⟨rfl,s'.heap,s'.toks,rfl,hS',λb o e=>?_⟩
    have lb:=Er e
    refine hm.heap b o (λz=>?_) (En _ (En _ e))
    simp only[EB,Ft,GY]at z
    rcases z with z|z
    ·exact absurd z (Ez lb)
    ·rw[Fh]at z
     exact absurd z (Ez (FG lb))
   ·cases r₂ with
    |error e=>exact hr₂
    |ok fl₂ =>
     cases fl₂ with
     |ret r =>
      obtain⟨rfl,h',tk,rfl,q1,q2⟩:=hr₂
      repeat (any_goals (first|assumption|wp_step))
      exact h _ _ q1 q2
     |_=>exact hr₂.elim
  |_=>exact hr.elim
end UfSet
end
section
namespace L2
open PySem PySem.Spec PyProof.Rows UfSrt
section
variable {X:Cx}{pins:List (Addr×Obj)}{σ:St}{H:Hp}{s:Shared}
def Inv.draw(I:Inv X pins σ H s)(d:Drawn):Inv X pins σ H { s with drawn:=d } :=
 ⟨I.ok,I.os,I.bare,I.base,I.loc,I.cell,I.free,I.freeC,I.pin,I.hok,I.len⟩
def aw(ss:List Str):List V:=ss.map V.str
theorem mX:∀{ss:List Str} {us:List Value},Vals (aw ss) us->StrsAre us ss
 |[],_,.nil=>.nil
 |x::ss,_,.cons r t=>by
  obtain⟨tk,rfl⟩:=r
  exact .cons x tk (mX t)
def yM{ss:List Str}{us:List Value}(h:StrsAre us ss):Vals (aw ss) us:=by
 induction h with
 |nil=>exact .nil
 |cons x tk h ih=>exact .cons ⟨tk,rfl⟩ ih
def ao(ss:List Str):(aw ss).length=ss.length:=Et _
def nY(w:World)(a:Addr)(ks:List Str):HO:=.ext λh=>UfSet.cJ w h a ks
def AF{P:Program}{w:World}{H':Hp}{h:Heap}{a:Addr}{ks:List Str}(x:UfSet.cJ w h a ks):bc P w H' h a (nY w a ks):=by
 refine⟨x,?_,λh1 h2 p k=>p.keeps k⟩
 obtain⟨o,_,_,_,_,e,_⟩:=x
 exact⟨o,e⟩
def wQ{a:Addr}{ks:List Str}(I:Inv X pins σ H s)(e:H a=some (nY X.w a ks)):UfSet.cJ X.w s.heap a ks:=(I.hok a _ e).1
def AY(K:PySem.W.Frag)(w:World):List V->Hp->VK->Prop:=λxs H Q=>∃l ss,xs=[.ref l]/\aR K H l (aw ss)/\ss.length<=1000/\∀p,H p=none->Q (.ref p) (upd H p (nY w p (UfSet.dd ss)))
def o4(hc:X.calm=true):eM X (.type "set") (AY X.K X.w):=by
 intro pins s σ H xs us Q I r h
 obtain⟨l,ss,rfl,hl,hz,q⟩:=h
 obtain⟨u,rfl,ru⟩:=vals1 r
 cases ru
 obtain⟨its,rv,pl,_⟩:=I.list hl
 have hS:=mX rv
 have hf:H s.heap.objs.size=none:=I.hok.fresh (Ep _)
 refine UfSet.oy (I.ok.hd hc) pl.isList hS (by show ss.length+1<4096;lia) λh' tk hset hk=>?_
 exact⟨.ref s.heap.objs.size,_,I.laid (t':=tk) hk (Ep _) (AF hset),rfl,q _ hf⟩
def tX:eM X (.builtin "len") (λxs H Q=>∃a ks,xs=[V.ref a]/\H a=some (nY X.w a ks)/\Q (.int ks.length) H):=by
 intro pins s σ H xs us Q I r h
 obtain⟨a,ks,rfl,ha,q⟩:=h
 obtain⟨u,rfl,ru⟩:=vals1 r
 cases ru
 obtain⟨o,es,ep,t,ks',ho,hex,hd,he,hp,hn,hb,hf,_⟩:=wQ I ha
 have el:es.size=ks.length:=by rw[<-hp.length_eq,he.len];simp
 have hb':es.size<4096:=hb
 refine call_len_set ho hex hd hf (by lia) ⟨.int ks.length,H,I.tok _,⟨_,by rw[el]⟩,q⟩
def kz{h':Heap}{tk:Nat}{d:Drawn}{D:Addr}{ss:List Str}(I:Inv X pins σ H s)(L:UfSort.Left s.heap h' D ss)(hz:ss.length<=1000):Inv X pins σ (upd H D (.lst (aw (aI ss)))) { s with heap:=h',toks:=tk,drawn:=d }:=by
 obtain⟨vs,n,e,hS⟩:=L.at'
 have hl:(aw (aI ss)).length<=sizeLine:=by
  rw[ao,d2,E3]
  lia
 exact(I.laid (o:=.lst (aw (aI ss))) (t':=tk) L.keep L.new (show bc X.prog X.w _ h' D (.lst (aw (aI ss))) from⟨hl,vs,n,yM hS,e⟩)).draw d
def AE(K:PySem.W.Frag):List V->Hp->VK->Prop:=λxs H Q=>∃l ss,xs=[.ref l]/\aR K H l (aw ss)/\ss.length<64/\∀p,H p=none->Q (.ref p) (upd H p (.lst (aw (aI ss))))
def dE:eM X (.builtin "sorted") (AE X.K):=by
 intro pins s σ H xs us Q I r h
 obtain⟨l,ss,rfl,hl,hz,q⟩:=h
 obtain⟨u,rfl,ru⟩:=vals1 r
 cases ru
 obtain⟨its,rv,pl,_⟩:=I.list hl
 refine UfSort.pH pl.isList (mX rv) hz λh' tk d D L=>?_
 exact⟨.ref D,_,kz I L (by lia),rfl,q _ (I.hok.fresh L.new)⟩
def zN(w:World):List V->Hp->VK->Prop:=λxs H Q=>∃a ks,xs=[.ref a]/\H a=some (nY w a ks)/\ks.length<64/\∀p,H p=none->Q (.ref p) (upd H p (.lst (aw (aI ks))))
def qK(hc:X.calm=true):eM X (.builtin "sorted") (zN X.w):=by
 intro pins s σ H xs us Q I r h
 obtain⟨a,ks,rfl,ha,hz,q⟩:=h
 obtain⟨u,rfl,ru⟩:=vals1 r
 cases ru
 refine UfSort.qf (I.ok.hd hc) (wQ I ha) hz λh' tk d D L=>?_
 exact⟨.ref D,_,kz I L (by lia),rfl,q _ (I.hok.fresh L.new)⟩
def zY{bs:List Bool}{us:List Value}{i:Nat}{v:Value}(h:Vals (bs.map V.bl) us)(e:us[i]?=some v):v=.bool (bs.getD i true)/\i<bs.length:=by
 induction bs generalizing us i with
 |nil =>
  cases h
  simp at e
 |cons b bs ih =>
  cases h with
  |cons r t =>
   cases i with
   |zero =>
    simp at e
    subst e
    exact⟨r,by simp⟩
   |succ i =>
    obtain⟨h1,h2⟩:=ih t (by simpa using e)
    exact⟨by simpa using h1,by simpa using h2⟩
def all_range(bs:List Bool):(List.range bs.length).all (λi=>bs.getD i true)=bs.all id:=by
 induction bs with
 |nil=>rfl
 |cons b bs ih =>
  rw[ER,Jo,Hz,Ij,Hz]
  have e:(List.range bs.length).all ((λi=>(b::bs).getD i true) ∘ Nat.succ)=(List.range bs.length).all (λi=>bs.getD i true):=by
   congr 1
  rw[e,ih]
  rfl
def any_range(bs:List Bool):(List.range bs.length).any (λi=>bs.getD i true)=bs.any id:=by
 induction bs with
 |nil=>rfl
 |cons b bs ih =>
  rw[ER,Jo,Hb,Ik,Hb]
  have e:(List.range bs.length).any ((λi=>(b::bs).getD i true) ∘ Nat.succ)=(List.range bs.length).any (λi=>bs.getD i true):=by
   congr 1
  rw[e,ih]
  rfl
def ki{A:Around}{l:Addr}{bs:List Bool}{its:List Value}(hh:A.handled=none)(rv:Vals (bs.map V.bl) its)(I:Addr)(hne:l≠I) :
  Walks X.prog X.w A I [I,l] [I] bs.length (λi v=>v=.bool (bs.getD i true)) (λi h=>h.IsListIter I l i/\h.IsList l its.toArray):=by
 have el:its.toArray.size=bs.length:=by
  have:=rv.length
  rw[Et]at this
  simp[this]
 have W:=(Walks.list (prog:=X.prog) (w:=X.w) hh I l hne its.toArray).imp (P':=λi v=>v=.bool (bs.getD i true)) λi v e=>(zY rv (by simpa using e)).1
 rw[el]at W
 exact W
def Dg(K:PySem.W.Frag):List V->Hp->VK->Prop:=λxs H Q=>∃(l:Addr) (bs:List Bool),xs=[.ref l]/\aR K H l (bs.map V.bl)/\Q (.bl (bs.all id)) H
def CK(K:PySem.W.Frag):List V->Hp->VK->Prop:=λxs H Q=>∃(l:Addr) (bs:List Bool),xs=[.ref l]/\aR K H l (bs.map V.bl)/\Q (.bl (bs.any id)) H
def kW(hc:X.calm=true):eM X (.builtin "all") (Dg X.K):=by
 intro pins s σ H xs us Q I r h
 obtain⟨l,bs,rfl,hl,q⟩:=h
 obtain⟨u,rfl,ru⟩:=vals1 r
 cases ru
 obtain⟨its,rv,pl,_⟩:=I.list hl
 have hh:X.A.in1.handled=none:=I.ok.hd hc
 have lt:l<s.heap.objs.size:=let ⟨o,_,e,_⟩:=pl;Er e
 refine call_all_walk (Hj pl.isList ⟨_,_,_,_,_,_,λi=>bs.getD i true,rfl,ki hh rv _ (Ez lt),⟨⟨_,Ew _ rfl,rfl,rfl⟩,pl.isList.push _⟩,λi v s Q E hv hQ=>?_,λh' tk hk=>?_⟩)
 ·subst hv
  exact FD hQ
 ·rw[all_range]
  refine⟨.bl (bs.all id),H,I.kept (t':=tk) λb o e=>hk b o (λz=>?_) (En _ e),rfl,q⟩
  have z':b=s.heap.objs.size:=by simpa using z
  exact absurd (Er e) (by rw[z'];exact Fe _)
def kL(hc:X.calm=true):eM X (.builtin "any") (CK X.K):=by
 intro pins s σ H xs us Q I r h
 obtain⟨l,bs,rfl,hl,q⟩:=h
 obtain⟨u,rfl,ru⟩:=vals1 r
 cases ru
 obtain⟨its,rv,pl,_⟩:=I.list hl
 have hh:X.A.in1.handled=none:=I.ok.hd hc
 have lt:l<s.heap.objs.size:=let ⟨o,_,e,_⟩:=pl;Er e
 refine call_any_walk (Hj pl.isList ⟨_,_,_,_,_,_,λi=>bs.getD i true,rfl,ki hh rv _ (Ez lt),⟨⟨_,Ew _ rfl,rfl,rfl⟩,pl.isList.push _⟩,λi v s Q E hv hQ=>?_,λh' tk hk=>?_⟩)
 ·subst hv
  exact FD hQ
 ·rw[any_range]
  refine⟨.bl (bs.any id),H,I.kept (t':=tk) λb o e=>hk b o (λz=>?_) (En _ e),rfl,q⟩
  have z':b=s.heap.objs.size:=by simpa using z
  exact absurd (Er e) (by rw[z'];exact Fe _)
def sign(c:Nat):V:=.str ⟨#[c]⟩
def B0(x:Str):It:=⟨λi _=>i<x.cps.size,λi H v H'=>H'=H/\∃c,x.cps[i]?=some c/\v=sign c,λi _=>i=x.cps.size⟩
end
def oN{P:Program}{w:World}{K:PySem.W.Frag}{tg:Expr}{x:Str}{it:Addr}{St:Nat->Heap->Prop}(W:∀A':Around,A'.handled=none->Walks P w A' it [it] [it] x.cps.size (SignAt x) St)
  (ho:∀i h,St i h->∃o nm vs,h.get? it=some o/\o.cls=.type nm/\o.data=.fields vs/\["enumerate", "zip", "dict_itemiterator", "dict_reverseitemiterator", "odict_iterator", "itertools.zip_longest", "itertools.pairwise"].contains nm=false)
  (hs:∀(A:Around) (i:Nat) (s:Shared) (Q:Value->Shared->Prop) (E:Value->Shared->Prop),St i s.heap->Q (.ref it) s->wpAny (model P w) A (pyIter (.ref it)) Q E s):Turn P w K tg (B0 x) [it] it St where
 mem:=by simp
 obj:=λi h st b hb=>by
  have e:b=it:=by simpa using hb
  subst e
  obtain⟨o,nm,vs,e,_,d,_⟩:=ho i h st
  exact⟨o,e,λv z=>by rw[d]at z;cases z⟩
 keep:=λi h h' st k=>(W ⟨none,0,none,none,1⟩ rfl).frame i h h' st λb hb o e=>k b hb o e
 item:=by
  intro X hP hw hK hc i pins s σ H E I hf st hg
  subst hP hw hK
  obtain⟨f0,f1,f2,f3,f4,f5⟩:=hf it (by simp)
  refine(W X.A (I.ok.hd hc)).item i s _ _ hg st λv h' tk hP st' kk=>?_
  obtain⟨c,u,hx,rfl⟩:=hP
  have I1:Inv X pins σ H { s with heap:=h',toks:=tk }:=I.turned (λb o hb e=>kk b o (by simpa using hb) e) f0 f1 f3 f4 f5
  obtain⟨o,nm,vs,e,c1,d,hn⟩:=ho _ _ st'
  exact⟨_,rfl,pF (s:={ s with heap:=h',toks:=tk }) e c1 d hn ⟨sign c,H,I1,⟨u,rfl⟩,⟨rfl,c,hx,rfl⟩,st',λb hb=>(hf b hb).1⟩⟩
 done:=by
  intro X hP hw hK hc i pins s σ H E I hf st hg
  subst hP hw hK
  obtain⟨f0,f1,f2,f3,f4,f5⟩:=hf it (by simp)
  have e:i=x.cps.size:=hg
  subst e
  exact(W X.A (I.ok.hd hc)).done s _ _ st λh' tk kk=>⟨rfl,I.turned (λb o hb e=>kk b o (by simpa using hb) e) f0 f1 f3 f4 f5⟩
 self:=hs
section
variable {X:Cx}{tg:Expr}
def Ed(tl:TE):TI:=λσ H R=>tl σ H λv H1=>∃x,v=.str x/\R (B0 x) H1
def AV{l:Expr}{tl:TE}(hl:PE X l tl):PI X tg l (Ed tl):=by
 intro pins s σ H R I h
 refine bo (hl pins s σ H _ I h) λv s1 hZ=>?_
 obtain⟨y,H1,I1,r1,q1⟩:=hZ
 obtain⟨x,e,q⟩:=q1
 subst e
 obtain⟨t,rfl⟩:=r1
 have fp:∀b∈[s1.heap.objs.size],gJ X pins H1 b:=λb hb=>by
  have e:b=s1.heap.objs.size:=by simpa using hb
  subst e
  exact I1.sP (Ep _) (I1.hok.fresh (Ep _))
 cases ha:x.cps.all (· < 128) with
 |false =>
  refine wpAny_pyIter_wide ha ?_
  refine⟨s1.heap.objs.size,[s1.heap.objs.size],λi h=>h.IsStrIter s1.heap.objs.size "str_iterator" x t i,B0 x,H1,rfl,I1.kept (t':=s1.toks) λb o e=>En _ e,oN (λA' hA=>Walks.strWide hA _ x t) (λi h st=>?_) (λA i s Q E st hq=>wpAny_pyIter_striter_wide st hq),⟨_,Ew _ rfl,rfl,rfl⟩,fp,q⟩
  obtain⟨o,e1,e2,e3⟩:=st
  exact⟨o,_,_,e1,e2,e3,by decide⟩
 |true =>
  refine wpAny_pyIter_ascii ha ?_
  refine⟨s1.heap.objs.size,[s1.heap.objs.size],λi h=>h.IsStrIter s1.heap.objs.size "str_ascii_iterator" x t i,B0 x,H1,rfl,I1.kept (t':=s1.toks) λb o e=>En _ e,oN (λA' hA=>Walks.strAscii hA _ x t) (λi h st=>?_) (λA i s Q E st hq=>wpAny_pyIter_striter_ascii st hq),⟨_,Ew _ rfl,rfl,rfl⟩,fp,q⟩
  obtain⟨o,e1,e2,e3⟩:=st
  exact⟨o,_,_,e1,e2,e3,by decide⟩
end
section
variable {K:PySem.W.Frag}{n:Nat}{ci:List Nat}{g:TG}{tt:TT}{te:TE}{σ:St}{H:Hp}{D:Addr}{Q:VK}
def bN{a:Addr}{xs:List V}(Pv:Nat->List V->Hp->Prop)(h0:Pv 0 [] (upd H D (.lst [])))(hl:∀i ys H,i<=xs.length->Pv i ys H->aR K H a xs)
  (hs:∀i x ys H,xs[i]?=some x->Pv i ys H->g x (oJ n ci σ) H λσ2 H2=>tt σ2 H2 λb H3=>if b=true then te σ2 H3 λy H4=>H4 D=some (.lst ys)/\ys.length<sizeLine/\Pv (i+1) (ys++[y]) (upd H4 D (.lst (ys++[y]))) else Pv (i+1) ys H3)
  (hd:∀ys H,Pv xs.length ys H->Q (.ref D) H) :
  gq n ci (A7 K a) g tt te σ H D Q:=by
 unfold gq
 refine⟨xs.length,Pv,h0,λi ys H hi p=>?_⟩
 have q:=hl i ys H hi p
 by_cases hlt:i<xs.length
 ·refine .inr ⟨hlt,⟨xs,xs[i],q,by simp[hlt]⟩,λx H' y=>?_⟩
  obtain⟨e,y⟩:=y
  subst e
  exact hs i x ys _ (y xs q) p
 ·have e:i=xs.length:=by lia
  subst e
  exact .inl ⟨⟨xs,q,Ep _⟩,hd ys H p⟩
def o7{a:Addr}{xs:List V}(Pv:Nat->List V->Hp->Prop)(h0:Pv 0 [] (upd H D (.lst [])))(hl:∀i ys H,i<=xs.length->Pv i ys H->cT K H a xs)
  (hs:∀i x ys H,xs[i]?=some x->Pv i ys H->g x (oJ n ci σ) H λσ2 H2=>tt σ2 H2 λb H3=>if b=true then te σ2 H3 λy H4=>H4 D=some (.lst ys)/\ys.length<sizeLine/\Pv (i+1) (ys++[y]) (upd H4 D (.lst (ys++[y]))) else Pv (i+1) ys H3)
  (hd:∀ys H,Pv xs.length ys H->Q (.ref D) H) :
  gq n ci (A8 K a) g tt te σ H D Q:=by
 unfold gq
 refine⟨xs.length,Pv,h0,λi ys H hi p=>?_⟩
 have q:=hl i ys H hi p
 by_cases hlt:i<xs.length
 ·refine .inr ⟨hlt,⟨xs,xs[i],q,by simp[hlt]⟩,λx H' y=>?_⟩
  obtain⟨e,y⟩:=y
  subst e
  exact hs i x ys _ (y xs q) p
 ·have e:i=xs.length:=by lia
  subst e
  exact .inl ⟨⟨xs,q,Ep _⟩,hd ys H p⟩
def vt{x:Str}(Pv:Nat->List V->Hp->Prop)(h0:Pv 0 [] (upd H D (.lst [])))
  (hs:∀i c ys H,x.cps[i]?=some c->Pv i ys H->g (sign c) (oJ n ci σ) H λσ2 H2=>tt σ2 H2 λb H3=>if b=true then te σ2 H3 λy H4=>H4 D=some (.lst ys)/\ys.length<sizeLine/\Pv (i+1) (ys++[y]) (upd H4 D (.lst (ys++[y]))) else Pv (i+1) ys H3)
  (hd:∀ys H,Pv x.cps.size ys H->Q (.ref D) H) :
  gq n ci (B0 x) g tt te σ H D Q:=by
 unfold gq
 refine⟨x.cps.size,Pv,h0,λi ys H hi p=>?_⟩
 by_cases hlt:i<x.cps.size
 ·refine .inr ⟨hlt,hlt,λv H' y=>?_⟩
  obtain⟨e,c,hc,rfl⟩:=y
  subst e
  exact hs i c ys _ hc p
 ·have e:i=x.cps.size:=by lia
  subst e
  exact .inl ⟨rfl,hd ys H p⟩
end
end L2
end
section
namespace L2
open PySem PySem.Spec PyProof.Rows PySem.W UfSrt
def nK{κ:Type}[DecidableEq κ]{knd:KeyKind prog w κ}{d:Addr}{kvs:List (κ×Value)}{ep:Nat}{Q:List Value->Shared->Prop}(hh:A.handled=none)(lo:(d==sysModules)=false)(hd:s.heap.DictAt knd d kvs ep)(hz:kvs.length<=sizeLine)
  (h:∀(h':Heap) (tk:Nat) (dr:Drawn) (vs:List Value),vs.length=kvs.length->(∀(j:Nat) v,vs[j]?=some v->∃k x,kvs[j]?=some (k,x)/\knd.is k v=true)->(∀b o,s.heap.get? b=some o->h'.get? b=some o)->s.heap.objs.size<=h'.objs.size->Q vs { s with heap:=h',toks:=tk,drawn:=dr }) :
  wpAny (model prog w) A (collect (.ref d)) Q E s:=by
 refine UfSet.jA (T:="dict") (OK:=λh=>h.DictAt knd d kvs ep) (R:=λn P=>n=kvs.length/\P=λi v=>∃k x,kvs[i]?=some (k,x)/\knd.is k v=true) hh hd (λh1 h2 x k=>x.at' λo e=>k _ _ e) (λs' x=>x.dictOf.typeIs) (λh1 x=>x.lt_size) (by decide) (by decide)
  (λA' E' s' Q' x q=>kdl_hint_dict x.dictOf.typeIs q) (λA' E' s' Q' x q=>?_) ?_
 ·refine wpAny_pyIter_dict lo x ?_
  exact q s'.heap.objs.size _ s'.drawn kvs.length _ [s'.heap.objs.size,d] _ ⟨rfl,rfl⟩ hz (λA2 h2=>Walks.dictKeys h2 _ d (Ez x.lt_size) kvs ep) ⟨⟨_,Ew _ rfl,rfl,rfl⟩,x.push _⟩ (Ep _) (λb o e=>En _ e) λb hb=>by
   simp only[EB,Ft,GY]at hb
   rcases hb with rfl|rfl
   ·exact .inr (Ep _)
   ·exact .inl rfl
 ·rintro h' tk dr n P vs ⟨rfl,rfl⟩ hl hat hk hz'
  exact h h' tk dr vs hl hat hk hz'
def yA{ks:List Str}{vs:List Value}(hl:vs.length=ks.length)(h:∀(j:Nat) v,vs[j]?=some v->∃k tk,ks[j]?=some k/\v=Value.str k tk):StrsAre vs ks:=by
 induction ks generalizing vs with
 |nil =>
  rw[Jf.mp hl]
  exact .nil
 |cons k ks ih =>
  cases vs with
  |nil=>cases hl
  |cons v vs =>
   obtain⟨k',tk,e,rfl⟩:=h 0 v rfl
   have:k'=k:=by simpa using e.symm
   subst this
   exact .cons k' tk (ih (by simpa using hl) λj u hu=>by
    obtain⟨q,t,e1,e2⟩:=h (j+1) u (by simpa using hu)
    exact⟨q,t,by simpa using e1,e2⟩)
section
variable {X:Cx}
def Ad:List V->Hp->VK->Prop:=λxs H Q=>∃(a:Addr) (kvs:List (Key×V)) (ks:List Str),xs=[.ref a]/\Rd H a (.dK kvs)/\kvs.map (·.1)=ks.map Sum.inr/\ks.length<64/\∀p,H p=none->Q (.ref p) (upd H p (.lst (aw (aI ks))))
def p7{P:Program}{w:World}{kvs:List (Key×V)}{vs:List (Key×Value)}{ks:List Str}{us:List Value}(r:KV kvs vs)(hk:kvs.map (·.1)=ks.map Sum.inr)(hl:us.length=vs.length)
  (hat:∀(j:Nat) v,us[j]?=some v->∃k x,vs[j]?=some (k,x)/\(aU P w).is k v=true):StrsAre us ks:=by
 have e1:vs.map (·.1)=ks.map Sum.inr:=by rw[<-r.keys];exact hk
 have l1:vs.length=ks.length:=by have:=Gz List.length e1;simpa using this
 refine yA (by lia) λj v e=>?_
 obtain⟨k,x,e2,hi⟩:=hat j v e
 have e3:(vs.map (·.1))[j]?=some k:=by rw[E4,e2];rfl
 rw[e1,E4]at e3
 cases e4:ks[j]? with
 |none=>rw[e4]at e3;cases e3
 |some y =>
  rw[e4]at e3
  cases e3
  rw[qu]at hi
  rcases bx hi with⟨i,t,z,_⟩|⟨y',t,z,z2⟩
  ·cases z
  ·cases z
   exact⟨y,t,rfl,z2⟩
def qH(hc:X.calm=true):eM X (.builtin "sorted") Ad:=by
 intro pins s σ H xs us Q I r h
 obtain⟨a,kvs,ks,rfl,ha,hk,hz,q⟩:=h
 obtain⟨u,rfl,ru⟩:=vals1 r
 cases ru
 obtain⟨zk,lo,vs,rel,hd⟩:=lR I.hok ha
 obtain⟨ep,hat⟩:=hd.dictAt
 have hlen:vs.length<=sizeLine:=by rw[<-rel.length];exact zk
 refine UfSort.jb (ss:=ks) (λ{Q'} hq=>nK (A:=X.A.in1) (knd:=aU X.prog X.w) (I.ok.hd hc) lo hat hlen λh' tk dr us' hl hat' hk' hz'=>hq h' tk dr us' ks hk' hz' (p7 rel hk hl hat') (.refl _)) hz λh' tk d D L=>?_
 exact⟨.ref D,_,kz I L (by lia),rfl,q _ (I.hok.fresh L.new)⟩
end
end L2
end
section
namespace L2
open PySem PySem.Spec PyProof.Rows UfSrt
section
variable {X:Cx}
def yi(tk tv:TE):TE:=λσ H Q=>∀p,H p=none->tk σ (upd H p (.dT [])) λx H1=>tv σ H1 λy H2=>H2 p=some (.dT [])/\∃ks b,x=.ref b/\H2 b=some (.tup (ks.map kV))/\Q (.ref p) (upd H2 p (.dT [(ks,y)]))
def mE{k v:Expr}{pos:Pos}{tk tv:TE}(hu:X.A.units+1<cLine)(hk:PE X k tk)(hv:PE X v tv):PE X (.Dict [some k] [v] pos) (yi tk tv):=by
 intro pins s σ H Q I q
 have hn:=I.hok.fresh (Ep s.heap.objs.size)
 have I1:=I.laid (a:=s.heap.objs.size) (o:=.dT []) (h':=s.heap.push { cls:=.type "dict",data:=.dict #[] }) (t':=s.toks) (λ_ _ q=>En _ q) (Ep _) (vj s.heap I.big)
 refine wpAny_Dict_any rfl rfl (by simp) (by show 1<=15;decide) (pairTrees_cons_walk (bo (hk pins _ σ _ _ I1 (q _ hn)) λu s1 ⟨x,H1,J1,rx,q1⟩=>bo (hv pins s1 σ H1 _ J1 q1) λw2 s2 ⟨y,H2,J2,ry,e,ks,b,ex,eb,q2⟩=>pairTrees_nil_walk ?_))
 subst ex
 obtain rfl:u=Value.ref b:=rx
 unfold storeAll
 rw[List.forIn_cons]
 obtain⟨z,hd,xs,rel,dd⟩:=zA J2.hok e
 cases rel
 refine Em (Em (wpAny_dictSet_heap (knd:=tupleKind (aU X.prog X.w)) (hsz:=by simp) (by have:=hu;show X.A.units<cLine;lia) (kP J2.hok eb) dd λh' dd' hs=>Eo ?_))
 show wpAny _ _ (forIn [] PUnit.unit _) _ _ _
 rw[List.forIn_nil]
 refine Eo ?_
 obtain⟨o,es,ep,hq,h2,h3,h4,_,h5⟩:=dd'
 refine⟨.ref s.heap.objs.size,_,nJ J2 (by rw[e];exact True.intro) hs ⟨o,hq⟩ (ob:=.dT [(ks,y)]) ⟨by show 1<=sizeLine;rw[E3];decide,hd,_,?_,o,es,ep,hq,h2,h3,h4,h5⟩,rfl,q2⟩
 refine .cons ⟨rfl,?_,ry⟩ .nil
 rw[af (aJ eb e (λz=>nomatch z))]
 exact eb
def eq_nil:g9 X (compareOp .Eq) (λx y H Q=>∃a b xs,x=.ref a/\y=.ref b/\X.A.units<cLine/\aR X.K H a xs/\aR X.K H b []/\Q (.bl xs.isEmpty) H):=by
 intro pins s σ H x y v u Q I rx ry h
 obtain⟨a,b,xs,rfl,rfl,hu,ha,hb,q⟩:=h
 cases rx
 cases ry
 obtain⟨its,r1,p1,_⟩:=I.list ha
 obtain⟨its2,r2,p2,_⟩:=I.list hb
 cases r2
 cases r1 with
 |nil=>exact PySem.SeqAt.RcAt.lists (e:=λ_=>true) p1.isList p2.isList rfl hu (λj h1 _=>absurd h1 (by simp)) X.prog X.w X.xe _ ⟨.bl true,H,I,rfl,q⟩
 |cons _ _=>exact PySem.SeqAt.RcAt.lists_lengths p1.isList p2.isList (by simp) hu X.prog X.w X.xe _ ⟨.bl false,H,I,rfl,q⟩
def oS(x:Str)(n:Nat):Str:=⟨(List.replicate n x.cps).foldl (· ++ ·) #[]⟩
def vH(x:Str):oS x 1=x:=by
 unfold oS
 simp[List.replicate,List.foldl]
def CV:V->Option Int->Option Int->Hp->VK->Prop:=λx lo hi H Q=>∃z:Str,x=.str z/\z.length<=sizeLine/\Q (.str (Txt.slice z lo hi)) H
def qQ:Ef X CV:=by
 intro pins s σ H x v vl vu lo hi sl Q I rx hs pl pu h
 obtain⟨z,rfl,hz,q⟩:=h
 obtain⟨t,rfl⟩:=rx
 refine⟨"str",_,PySem.F.slot_str_getitem.lookup,typeIs_str _ _ _,?_⟩
 cases pl with
 |none =>
  cases pu with
  |none=>exact Ha (l:=none) (u:=none) (st:=none) hs rfl (Il ⟨ET (IY z _ _) hz,λt' k=>⟨.str _,H,I.tok k,⟨_,rfl⟩,q⟩⟩)
  |int j uj=>exact Ha (l:=none) (u:=some (j,uj)) (st:=none) hs rfl (Il ⟨ET (IY z _ _) hz,λt' k=>⟨.str _,H,I.tok k,⟨_,rfl⟩,q⟩⟩)
 |int i ui =>
  cases pu with
  |none=>exact Ha (l:=some (i,ui)) (u:=none) (st:=none) hs rfl (Il ⟨ET (IY z _ _) hz,λt' k=>⟨.str _,H,I.tok k,⟨_,rfl⟩,q⟩⟩)
  |int j uj=>exact Ha (l:=some (i,ui)) (u:=some (j,uj)) (st:=none) hs rfl (Il ⟨ET (IY z _ _) hz,λt' k=>⟨.str _,H,I.tok k,⟨_,rfl⟩,q⟩⟩)
end
end L2
end
section
namespace UfB
open PySem
def yF(x y:Nat):Builtin.bitAnd (x:Int) (y:Int)=((x &&& y:Nat):Int):=by
 unfold Builtin.bitAnd
 rw[EM (HE x),EM (HE y)]
 simp
def nz(x y:Nat):Builtin.bitOr (x:Int) (y:Int)=((x ||| y:Nat):Int):=by
 unfold Builtin.bitOr Builtin.bitAnd
 have h1:decide (0<=Builtin.bitNot (x:Int))=false:=decide_eq_false (by unfold Builtin.bitNot;lia)
 have h2:decide (0<=Builtin.bitNot (y:Int))=false:=decide_eq_false (by unfold Builtin.bitNot;lia)
 rw[h1,h2]
 have e1:(Builtin.bitNot (Builtin.bitNot (x:Int))).toNat=x:=by unfold Builtin.bitNot;lia
 have e2:(Builtin.bitNot (Builtin.bitNot (y:Int))).toNat=y:=by unfold Builtin.bitNot;lia
 show Builtin.bitNot (Builtin.bitNot _)=_
 rw[e1,e2]
 unfold Builtin.bitNot
 lia
def yc(x y:Nat)(h:x &&& y=y)(h2:x ||| y=x):Builtin.bitXor (x:Int) (y:Int)=(x:Int)-(y:Int):=by
 unfold Builtin.bitXor
 rw[nz,yF,h,h2]
def yp(r:Nat)(h:0<r):Builtin.bitAnd (r:Int) (-(r:Int))=((r:Int)-((r &&& (r-1):Nat):Int)):=by
 unfold Builtin.bitAnd
 rw[EM (HE r),EZ (show ¬0<=-(r:Int) by lia)]
 have e:(Builtin.bitNot (-(r:Int))).toNat=r-1:=by unfold Builtin.bitNot;lia
 show(r:Int)-((_ &&& _:Nat):Int)=_
 rw[e,Fv]
def we:∀r:Nat,0<r->∃k m,r=2 ^ k*(2*m+1):=λr=>by
 induction r using Nat.strongRecOn with
 |_ r ih =>
  intro h
  by_cases hp:r % 2=1
  ·exact⟨0,r / 2,by lia⟩
  ·obtain⟨k,m,e⟩:=ih (r / 2) (by lia) (by lia)
   refine⟨k+1,m,?_⟩
   rw[Nat.pow_succ,Nat.mul_comm (2 ^ k) 2,Nat.mul_assoc,<-e]
   lia
def nM(m j:Nat):(2*m+1).testBit j=(if j=0 then true else m.testBit (j-1)):=by
 cases j with
 |zero=>simp
 |succ j=>simp[Nat.testBit_succ];congr 1;lia
def pL(m j:Nat):(2*m).testBit j=(if j=0 then false else m.testBit (j-1)):=by
 cases j with
 |zero=>simp
 |succ j=>simp[Nat.testBit_succ]
structure A6(r k:Nat):Prop where
 bit:r.testBit k=true
 low:∀j<k,r.testBit j=false
 clear:r &&& (r-1)=r-2 ^ k
 le:2 ^ k<=r
 rest:∀i,(r-2 ^ k).testBit i=(r.testBit i&&decide (i≠k))
def AO(r:Nat)(h:0<r):∃k,A6 r k:=by
 obtain⟨k,m,e⟩:=we r h
 have hk:0<2 ^ k:=Jm k
 have er:r=2 ^ k*(2*m)+2 ^ k:=by rw[e,Nat.mul_add,Nat.mul_one]
 have b1:∀j,r.testBit j=if j<k then false else(2*m+1).testBit (j-k):=λj=>by
  have:=Hq (2*m+1) hk j
  rw[JP,<-e]at this
  rw[this]
  simp
 have b2:∀j,(r-2 ^ k).testBit j=if j<k then false else(2*m).testBit (j-k):=λj=>by
  have e2:r-2 ^ k=2 ^ k*(2*m):=by lia
  have:=Hq (2*m) hk j
  rw[JP,<-e2]at this
  rw[this]
  simp
 have b3:∀j,(r-1).testBit j=if j<k then true else(2*m).testBit (j-k):=λj=>by
  have e3:r-1=2 ^ k*(2*m)+(2 ^ k-1):=by lia
  rw[e3,Hq (2*m) (by lia) j]
  split
  ·rename_i hj
   rw[Nat.testBit_two_pow_sub_one]
   simp[hj]
  ·rfl
 refine⟨k,?_,λj hj=>?_,?_,by lia,λi=>?_⟩
 ·rw[b1,Ex (Fe k),Nat.sub_self,nM,EG rfl]
 ·rw[b1,EG hj]
 ·refine Im λj=>?_
  rw[Nat.testBit_and,b1,b2,b3]
  by_cases hj:j<k
  ·simp[hj]
  ·rw[Ex hj,Ex hj,Ex hj,nM,pL]
   split <;> simp
 ·rw[b1,b2]
  by_cases hi:i<k
  ·simp[hi]
  ·rw[Ex hi,Ex hi,nM,pL]
   by_cases e:i=k
   ·subst e
    simp
   ·have:¬i-k=0:=by lia
    simp[this,e]
def A6.or{r k:Nat}(h:A6 r k):r ||| 2 ^ k=r:=Im λj=>by
 rw[Nat.testBit_or,JH]
 by_cases e:k=j
 ·subst e
  simp[h.bit]
 ·simp[e]
def A6.and{r k:Nat}(h:A6 r k):r &&& 2 ^ k=2 ^ k:=Im λj=>by
 rw[Nat.testBit_and,JH]
 by_cases e:k=j
 ·subst e
  simp[h.bit]
 ·simp[e]
def mem(b:Nat):List Nat:=(List.range 256).filter λi=>b.testBit i
def xi:mem 0=[]:=by
 unfold mem
 refine HV.mpr λi _=>?_
 simp
def yN{r k:Nat}(h:A6 r k)(hr:r<2 ^ 256):mem r=k::mem (r-2 ^ k):=by
 have hk:k<256:=(Nat.pow_lt_pow_iff_right (by decide:1<2)).mp (Fs h.le hr)
 unfold mem
 have e:List.range 256=List.range k++(k::(List.range (256-k-1)).map λi=>k+1+i):=by
  have e1:(256:Nat)=k+(1+(256-k-1)):=by lia
  conv=>lhs;rw[e1,List.range_add,List.range_add]
  simp[Fo,Function.comp_def,Nat.add_assoc]
 rw[e,FA,FA,Ht,Ht]
 have f1:(List.range k).filter (λi=>r.testBit i)=[]:=HV.mpr λi hi=>by
  rw[h.low i (Iv.mp hi)]
  simp
 have f2:(List.range k).filter (λi=>(r-2 ^ k).testBit i)=[]:=HV.mpr λi hi=>by
  rw[h.rest,h.low i (Iv.mp hi)]
  simp
 rw[f1,f2,h.bit,h.rest,h.bit]
 simp only[List.nil_append,Iw]
 simp
 refine List.filter_congr λi hi=>?_
 obtain⟨j,_,rfl⟩:=EH.mp hi
 rw[h.rest,EM (show k+1+j≠k by lia),Bool.and_true]
def yf(b:Nat):(mem b).length<=256:=by
 unfold mem
 refine ET (Fu _ _) ?_
 rw[JS]
 exact Ep _
def vK(k:Nat):Builtin.Int.intBits ((2 ^ k:Nat):Int)=k+1:=by
 unfold Builtin.Int.intBits
 have h:0<2 ^ k:=Jm k
 have e:(((2 ^ k:Nat):Int)==0)=false:=FC.mpr (by lia)
 rw[e,Int.natAbs_natCast,Nat.log2_two_pow]
 rfl
end UfB
end
section
namespace Uf
open PySem L2 UfSrt
def top (i:Nat):Stmt:=PySem.Challenge.pw_unfoldnet_k27_nets_that_crowd.main.body.getD i (.Pass ⟨0,0,0,0⟩)
def TB:Addr:=409
def uL:Pos:=match ay (top 32) with
 |.Return (some (.Call _ (_::.Lambda _ _ _ ps::_) _ _)) _::_=>ps
 |_=>⟨0,0,0,0⟩
def wx:HO:=.tbl (lz uL "crowding.<locals>.<lambda>")
abbrev cv:Stmt:=top 38
abbrev dI:Stmt:=top 45
abbrev dY:Stmt:=top 46
abbrev ez:Stmt:=top 47
abbrev gO:Stmt:=top 48
def uF:bootBuiltins "all"=some (.builtin "all"):=by decide +kernel
def vM:bootBuiltins "any"=some (.builtin "any"):=by decide +kernel
def dM:bootBuiltins "len"=some (.builtin "len"):=by decide +kernel
def ze:bootBuiltins "set"=some (.type "set"):=by decide +kernel
def dS:bootBuiltins "list"=some (.type "list"):=by decide +kernel
def fE:bootBuiltins "tuple"=some (.type "tuple"):=by decide +kernel
def BQ:bootBuiltins "str"=some (.type "str"):=by decide +kernel
def dO:bootBuiltins "sorted"=some (.builtin "sorted"):=by decide +kernel
def lQ:bootBuiltins "isinstance"=some (.builtin "isinstance"):=by decide +kernel
def xC:Str:="abcdefghijklmnopqrstuvwxyz"
def isNm(x:Str):Bool:=decide (1<=x.length)&&(decide (x.length<=8)&&x.cps.toList.all λc=>decide (c∈xC.cps.toList))
structure Txt(K:PySem.W.Frag)(mg:Str->Option Value):Prop where
 all:mg "all"=none
 len:mg "len"=none
 set:mg "set"=none
 lst:mg "list"=none
 tup:mg "tuple"=none
 str:mg "str"=none
 aI:mg "sorted"=none
 isi:mg "isinstance"=none
 letters:∃tk,mg "LETTERS"=some (.str xC tk)
 longest:∃tk,mg "LONGEST_NAME"=some (.int 8 tk)
 mostP:∃tk,mg "MOST_PLACES"=some (.int 12 tk)
 mostM:∃tk,mg "MOST_MOVES"=some (.int 12 tk)
 leastT:∃tk,mg "LEAST_TAKEN"=some (.int 1 tk)
 mostT:∃tk,mg "MOST_TAKEN"=some (.int 4 tk)
 mostG:∃tk,mg "MOST_GIVEN"=some (.int 4 tk)
def ak{H:Hp}{D:Addr}{o:HO}(h:H D=none):au H (upd H D o):=λb u e=>by
 rw[af (ai e h)]
 exact e
@[elab_as_elim] theorem xF {H:Hp} {D:Addr} {o:HO} {G:Hp->Prop} (n:H D=none) (k:∀H',au H H'->H' D=some o->G H'):G (upd H D o):=k _ (ak n) ae
def aF{H H2:Hp}{D:Addr}{o:HO}(s:au H H2)(h:H D=none):au H (upd H2 D o):=λb u e=>by
 rw[af (ai e h)]
 exact s b u e
def alc{H:Hp}{D:Addr}(h:H D=none)(o:HO):∃H',upd H D o=H'/\au H H'/\H' D=some o:=⟨_,rfl,ak h,ae⟩
def ar{α:Type}{l:List α}{i:Nat}{a:α}(h:l[i]?=some a):l.take (i+1)=l.take i++[a]:=by
 rw[List.take_add_one,h]
 rfl
def nd_of{X:Cx}{N:List Str}(h:N.Nodup)(e:X.N=N:=by rfl):X.N.Nodup:=by rw[e];exact h
section
variable {X:Cx}
inductive Eh(K:PySem.W.Frag)(xs:List V)(H:Hp)(Q:VK):Prop
 |mk (x:V) (c:String) (t:Value) (b:Bool) (e:xs=[x,.ty c]) (y:iq K H x t) (o:PySem.W.kitOne K t (.type c)=some b) (k:Q (.bl b) H)
def oV:eM X (.builtin "isinstance") (Eh X.K):=by
 intro pins s σ H xs us Q I r h
 obtain⟨x,c,t,b,rfl,ty,e,q⟩:=h
 obtain⟨u,v,rfl,ru,rv⟩:=vals2 r
 cases rv
 exact sJ I ru ty e λtk=>⟨.bl b,H,I.tok tk,rfl,q⟩
end
inductive jZ(vs:List V)(H:Hp)(Q:VK)(E:XK):Prop
 |mk (x:Str) (_:vs=[.str x]) (_:x.length<=1000) (_:∀H',au H H'->Q (.bl (isNm x)) H')
def n5:az ["thing"] ["thing"] (aj cv):=gm
def mL{f:Addr}{fd:FuncData}(F:d3 K "is_name" "is_name" cv f fd)(T:Txt K mg):aM P w K mg base cW 1 f fd ["thing"] jZ:=by
 refine F.oK n5 λcdv A outer s H vs Q E hr h=>?_
 ·obtain⟨x,rfl,hz,k⟩:=h
  obtain⟨tl,hl⟩:=T.letters
  obtain⟨tn,hn⟩:=T.longest
  refine⟨_,ah (cj (PW.pt (pw_or (cK (bU (aD oV rfl T.isi lQ (aa (pv 0) (aa (mZ (v:=.ty "str") rfl T.str BQ rfl) ag)))))
    (pw_or1 (cK (wz mm mm av (aD bu rfl T.len dM (aa (pv 0) ag)) (bb (v:=.int 8) rfl hn ⟨tn,rfl⟩))))))
    (aq (aH iN)) aZ)
   (aq (aH (aD (kW rfl) rfl T.all uF (aa (cE (N:=["sign"]) (n:=1) (ci:=[]) rfl (AV (pv 0)) (o9 n5)
    (λz=>⟨kZ 0,cR,dZ ub (pv 0) (bb (v:=.str xC) rfl hl ⟨tl,rfl⟩) (by with_unfolding_all rfl)⟩)) ag)))),?_⟩
  try dsimp only[bz,Cx.ff,Cx.cG]
  refine⟨_,rfl,_, "str",_,true,rfl,iq.str x,(by rfl),true,rfl,?_⟩
  refine br ?_
  have hs:x.length<=sizeLine:=by rw[E3];lia
  refine⟨_,rfl,_,x.length,rfl,⟨hs,rfl⟩,1,_,rfl,rfl,_,rfl,?_⟩
  by_cases h1:1<=x.length
  ·rw[EM (show(1:Int)<=(x.length:Int) by lia)]
   refine bM ?_
   refine⟨_,_,rfl,rfl,_,rfl,?_⟩
   by_cases h8:x.length<=8
   ·rw[EM (show(x.length:Int)<=8 by lia)]
    refine br ?_
    refine⟨_,rfl,x,rfl,λz D hD=>vt (λi ys H2=>ys=(x.cps.toList.take i).map (λc=>V.bl (decide (c∈xC.cps.toList)))/\H2 D=some (.lst ys)/\au H H2) ⟨rfl,ae,ak hD⟩ ?_ ?_⟩
    ·rintro i c ys H2 hc ⟨rfl,hys,sm⟩
     refine⟨_,rfl,⟨#[c]⟩,xC,rfl,rfl,hys,?_,?_,ae,aF sm hD⟩
     ·rw[Et,EL,F0]
      have:x.cps.size<=8:=h8
      rw[E3]
      lia
     ·rw[ar (by rw[FR];exact hc),EI,PySem.StrLaws.found_one]
      rfl
    ·rintro ys H2 ⟨rfl,hys,sm⟩
     refine⟨D,x.cps.toList.map λc=>decide (c∈xC.cps.toList),rfl,aR.of ?_,?_⟩
     ·rw[hys]
      rw[HW (by simp),Fo]
      rfl
     ·have e:isNm x=(x.cps.toList.map λc=>decide (c∈xC.cps.toList)).all id:=by
       unfold isNm
       rw[EM h1,EM h8,Ij]
       rfl
      rw[<-e]
      exact k H2 sm
   ·rw[EZ (show ¬(x.length:Int)<=8 by lia)]
    refine bM ?_
    have e:isNm x=false:=by unfold isNm;rw[decide_eq_false h8];simp
    rw[<-e]
    exact k H (au.refl H)
  ·rw[EZ (show ¬(1:Int)<=(x.length:Int) by lia)]
   refine br ⟨_,rfl,?_⟩
   refine bM ?_
   have e:isNm x=false:=by unfold isNm;rw[decide_eq_false h1];simp
   rw[<-e]
   exact k H (au.refl H)
end Uf
end
section
namespace L2
open PySem PySem.Spec PyProof.Rows
section
variable {X:Cx}
def Ba:V->List V->Hp->VK->Prop:=λx vs H Q=>∃i:Int,x=.int i/\vs=[]/\Q (.int ((Builtin.Int.intBits i:Nat):Int)) H
def yC:Dk X "int.bit_length" Ba:=by
 intro pins s σ H x vs v us Q I rx rv h
 obtain⟨i,rfl,rfl,q⟩:=h
 have hus:=rv.zero
 subst hus
 obtain⟨t,rfl⟩:=(show ∃t,v=Value.int i t from rx)
 exact call_int_bit_length ⟨.int _,H,I.tok _,⟨_,rfl⟩,q⟩
end
end L2
namespace Uf
open PySem L2 UfSrt UfB
abbrev nZ:Stmt:=top 2
abbrev dN:Stmt:=top 4
def nat(k:Nat):V:=.int (k:Int)
def nats(ks:List Nat):List V:=ks.map nat
inductive zD(vs:List V)(H:Hp)(Q:VK)(E:XK):Prop
 |mk (n:Nat) (_:vs=[nat n]) (_:n<256) (_:Q (nat (2 ^ n)) H)
def BE:az ["number"] ["number"] (aj nZ):=gm
def xO(n:Nat):(1:Int)*2 ^ ((n:Int)).toNat=((2 ^ n:Nat):Int):=by
 rw[Int.one_mul,Fv]
 exact PyProof.Rows.two_pow_cast n
def Ax{f:Addr}{fd:FuncData}(F:d3 K "bit" "bit" nZ f fd):aM P w K mg base cW 1 f fd ["number"] zD:=by
 refine F.oK BE λcdv A outer s H vs Q E hr h=>?_
 ·obtain⟨n,rfl,hn,k⟩:=h
  refine⟨_,aq (aH (aK AR av (pv 0))),?_⟩
  try dsimp only[bz,Cx.ff,Cx.cG]
  refine⟨_,rfl,_,_,rfl,rfl,⟨by lia,by lia,by decide⟩,?_⟩
  have e:=xO n
  show Q (V.int ((1:Int)*2 ^ ((n:Int)).toNat)) H
  rw[e]
  exact k
inductive lX(vs:List V)(H:Hp)(Q:VK)(E:XK):Prop
 |mk (b:Nat) (_:vs=[nat b]) (_:b<2 ^ 256) (_:∀H' q,au H H'->H q=none->H' q=some (.lst (nats (mem b)))->Q (.ref q) H')
def hJ:az ["bits", "numbers", "lowest"] ["bits"] (aj dN):=gm
inductive MbI(H:Hp)(r:Addr)(b0:Nat)(m:Nat)(σ:St)(H2:Hp):Prop
 |mk (b:Nat) (ks:List Nat) (v2:Option V) (q0:σ=[some (nat b),some (.ref r),v2]) (q1:au H H2) (q2:H2 r=some (.lst (nats ks))) (q3:ks++mem b=mem b0) (q4:b<2 ^ 256) (q5:m=b)
def qc{f:Addr}{fd:FuncData}(F:d3 K "members" "members" dN f fd):aM P w K mg base cW 1 f fd ["bits"] lX:=by
 refine F.oK hJ λcdv A outer s H vs Q E hr h=>?_
 ·obtain⟨b0,rfl,hb0,kk⟩:=h
  have hsl:=E1
  refine⟨_,ah (eR 1 hJ (bZ ag))
   (ah (iI Fg (oh (pv 0) (λ_=>rfl))
    (ah (eR 2 hJ (aK vW (pv 0) (B9 As (pv 0))))
    (ah (bD (gS E6 E9 Fb bC (pv 1) (aa (aK qa (wd PySem.F.plainAttrs_int PySem.F.slot_int_bit_length PySem.F.type_int_bit_length yC (pv 2)) av) ag)))
    (aq (eR 0 hJ (aK A4 (pv 0) (pv 2)))))))
   (aq (aH (pv 1)))),?_⟩
  try dsimp only[bz,Cx.ff,Cx.cG]
  refine⟨EV _,λr nr=>?_⟩
  have s1:au H (upd H r (.lst [])):=ak nr
  refine⟨MbI H r b0,⟨_,b0,[],none,rfl,s1,ae,rfl,hb0,rfl⟩,?_⟩
  rintro b σ H2 ⟨_,ks,v2,rfl,sm,h2,e,hb,rfl⟩
  have lm:(ks++mem b).length<=256:=by rw[e];exact yf b0
  rw[Eu]at lm
  by_cases hz:b=0
  ·subst hz
   rw[xi,Gu]at e
   refine⟨_,rfl,false,rfl,?_⟩
   refine br ?_
   refine⟨_,rfl,kk _ r sm nr ?_⟩
   rw[h2,e]
  ·obtain⟨k,lo⟩:=AO b (by lia)
   have hk:0<2 ^ k:=Jm k
   have ml:=yN lo hb
   have ea:Builtin.bitAnd (b:Int) (-(b:Int))=((2 ^ k:Nat):Int):=by
    rw[yp b (by lia),lo.clear]
    have:=lo.le
    lia
   have ex:Builtin.bitXor (b:Int) ((2 ^ k:Nat):Int)=((b-2 ^ k:Nat):Int):=by
    rw[yc b (2 ^ k) lo.and lo.or]
    have:=lo.le
    lia
   refine⟨_,rfl,true,?_,?_⟩
   ·show true=((b:Int) != 0)
    symm
    rw[bne_iff_ne]
    lia
   refine bM ?_
   refine⟨λσ' H'=>∃m',m'<b/\MbI H r b0 m' σ' H',λσ' H' h=>h,?_⟩
   refine⟨_,rfl,_,rfl,_,rfl,_,_,rfl,rfl,?_⟩
   dsimp only[fg]
   rw[ea]
   refine⟨_,rfl,.inl ⟨rfl,_,aR.of h2⟩,_,rfl,rfl,_,rfl,rfl,_,_,rfl,rfl,r,_,_,rfl,rfl,h2,(by unfold nats;rw[List.length_map];lia),?_⟩
   dsimp only[fg]
   rw[vK]
   refine⟨_,rfl,_,rfl,_,_,rfl,rfl,?_⟩
   dsimp only[fg]
   rw[ex]
   refine⟨b-2 ^ k,by lia,b-2 ^ k,ks++[k],_,rfl,aF sm nr,?_,?_,by lia,rfl⟩
   ·rw[ae]
    unfold nats nat
    rw[EI]
    congr 3
    show [V.int (((k+1:Nat):Int)-1)]=[V.int (k:Int)]
    congr 2
    lia
   ·rw[FY,List.singleton_append,<-ml]
    exact e
end Uf
end
section
namespace PySem
def i9:typeLookup (.type "list") "keys"=pure none:=by rw[He,Ge];kernel_rfl
def nA{prog:Program}{w:World}{A:Around}{E:Value->Shared->Prop}{s:Shared}{a:Addr}{o:Obj}{xs:Array Value}{k:Nat}{Q:Option Value->Shared->Prop}
  (hx:s.heap.get? a=some o) (hc:o.cls=.type "list") (hdat:o.data=.seq xs k) (hd:o.dict=none) (hA:A.handled=none)
  (h:∀h' tk,(∀b o,s.heap.get? b=some o->h'.get? b=some o)->Q none { s with heap:=h',toks:=tk }) :
  wpAny (model prog w) A (getAttr? (.ref a) "keys") Q E s:=by
 obtain⟨c,dct,dat,sl⟩:=o
 simp only at hc hdat hd
 subst hc hdat hd
 obtain⟨hp,g,d,tk,os⟩:=s
 have hT:∀tk',(⟨hp,g,d,tk',os⟩:Shared).TypeIs (.ref a) "list":=λ_=>⟨_,hx,rfl⟩
 have f1:=sub_AttributeError
 have f3:=HK.lookup
 have f4:=HK.bind (.ref a)
 have f5:=am_list_getattr_none
 unfold getAttr? getAttrBy? getAttrBy
 repeat (any_goals (first|assumption|exact hT _|((with_reducible show wpAny _ _ (call (Value.builtin "list.__getattribute__") _ _) _ _ _);refine IL HK (hT _) am_entry_list_getattribute (F.args_list_getattribute_2 _ _) (meets_getattribute_miss_list a xs k sl "keys" _ i9 (by decide +kernel)) ⟨hx,hA,λh' tk' e hx'=>?_⟩)|wp_step))
 obtain⟨t',u',he⟩:=hx'.there
 show wpAny _ _ (getattributeRaised _ _ _ _ _ _ _) _ _ _
 unfold getattributeRaised
 repeat (any_goals (first|assumption|wp_step))
 all_goals exact h _ _ hx'.1
end PySem
end
section
namespace UfDp
open PySem PySem.Spec PyProof.Rows L2 UfSet
def cY:entryFor table "dict.update.loop"=some Builtin.«dict.update.loop»:=entryFor_of_tree (by kernel_rfl)
def bw:plainId "dict.update.loop"=true:=by decide +kernel
def putAll(acc:List (Key×Value))(ps:List (Str×Value)):List (Key×Value):=ps.foldl (λa p=>stored a (Sum.inr p.1) p.2) acc
def mS(h:Heap)(ps:List (Str×Value))(i:Nat)(v:Value):Prop:=∃q x t u,v=.ref q/\ps[i]?=some (x,u)/\IsTup h q #[.str x t,u]
section
variable {prog:Program}{w:World}{A:Around}{R:Result->Shared->Prop}{I:Addr}{fp wr:List Addr}{G:Array GenState->Array GenState->Prop}{St:Nat->Shared->Prop}
def pair_items{E:Value->Shared->Prop}{s:Shared}{q:Addr}{a b:Value}{Q:List Value->Shared->Prop}(ht:IsTup s.heap q #[a,b])(h:Q [a,b] s):wpAny (model prog w) A (Builtin.Dict.pairItems (.ref q)) Q E s:=by
 obtain⟨o,ho,hc,n,hd⟩:=ht
 unfold Builtin.Dict.pairItems
 refine Em (HI (T:="tuple") ⟨o,ho,hc⟩ ?_)
 rw[EG (by decide)]
 unfold seqItems?
 refine Em (Em (wpAny_load ho ?_))
 rw[hd]
 exact Eo (Eo h)
def tF{h0:Heap}{ps:List (Str×Value)}(W:WalksS prog w A.in1 I fp wr G ps.length (mS h0 ps) St)(D:Addr)(hDf:D∉fp)(h0D:h0.get? D=none)(h0w:∀b∈wr,h0.get? b=none)(hb:ps.length<=1000) :
  ∀(k i:Nat) (t:Tok) (s:Shared) (acc:List (Key×Value)),ps.length-i=k->i<=ps.length->St i s->s.heap.DictOf (aU prog w) D acc->acc.length<=i->(∀b o,h0.get? b=some o->s.heap.get? b=some o) ->
  (∀s',Moved (D::wr) G s s'->s'.heap.DictOf (aU prog w) D (putAll acc (ps.drop i))->R (.ok (.ret .none)) s')->codeAny (model prog w) A (.builtin "dict.update.loop" ⟨[.ref D,.ref I,.int i t,.none],[]⟩) R s:=by
 have nSw:D∉wr:=λz=>hDf (W.sub _ z)
 have sub:∀b∈wr,b∈D::wr:=λb z=>EK _ z
 intro k
 induction k with
 |zero =>
  intro i t s acc hk hi st hS ha h0s hR
  have e:i=ps.length:=by lia
  subst e
  refine Gh cY ?_
  rw[FX bw _]
  show wpAny _ A.in1 (pyNext (.ref I) >>= _) _ _ s
  refine Em (W.done s _ _ st λs' hm=>?_)
  show wpAny _ A.in1 (Builtin.Dict.addKeywords D [] >>= λ_=>ret Value.none) _ _ s'
  refine Em (Eo (Eo (hR s' (hm.mono sub) ?_)))
  rw[HU (Ep _)]
  obtain⟨o,es,ep,ho,r⟩:=hS
  exact⟨o,es,ep,hm.heap D _ nSw ho,r⟩
 |succ k ih =>
  intro i t s acc hk hi st hS ha h0s hR
  have hlt:i<ps.length:=by lia
  refine Gh cY ?_
  rw[FX bw _]
  show wpAny _ A.in1 (pyNext (.ref I) >>= _) _ _ s
  refine Em (W.item i s _ _ hlt st λv s' hP st' hm=>?_)
  obtain⟨q,x,tx,u,rfl,ex,ht⟩:=hP
  have h0s':∀b o,h0.get? b=some o->s'.heap.get? b=some o:=λb o e=>hm.heap b o (λz=>by rw[h0w b z]at e;cases e) (h0s b o e)
  have hS':s'.heap.DictOf (aU prog w) D acc:=by
   obtain⟨o,es,ep,ho,r⟩:=hS
   exact⟨o,es,ep,hm.heap D _ nSw ho,r⟩
  have ht':IsTup s'.heap q #[.str x tx,u]:=by
   obtain⟨o,ho,r⟩:=ht
   exact⟨o,h0s' _ _ ho,r⟩
  show wpAny _ A.in1 (holding [Value.ref q] _ >>= _) _ _ s'
  refine Em (FJ (Em ?_))
  refine wpAny_tryCatch (pair_items ht' ?_)
  show wpAny _ A.in1 (holding [Value.str x tx,u] (dictSet D (.str x tx) u)) _ _ s'
  refine FJ (wpAny_dictSet_pairs (knd:=aU prog w) (k:=Sum.inr x) (by show iV (Sum.inr x) (Value.str x tx)=true;simp[iV,Value.isStrOf]) hS' (λh' hd' hs'=>?_) (by rw[E3];lia))
  have hd:ps.drop i=(x,u)::ps.drop (i+1):=by
   rw[GD hlt]
   rw[EA hlt]at ex
   rw[EO ex]
  refine Eo ⟨GA bw _,ih (i+1) _ _ (stored acc (Sum.inr x) u) (by lia) hlt (W.frame _ s' _ _ st' (Fq _) λb hb' o e=>?_) hd' (by have:=stored_length_le acc (Sum.inr x:Key) u;lia) (λb o e=>?_) λs'' hm2 hS3=>?_⟩
  ·rw[hs'.2 b (λz:b=D=>hDf (by rw[<-z];exact hb'))];exact e
  ·rw[hs'.2 b (λz:b=D=>by rw[z,h0D]at e;cases e)];exact h0s' b o e
  ·refine hR s'' (Moved.trans W.gtrans ((hm.mono sub).then_heap (Fq _) λb o hb' e=>?_) hm2) ?_
   ·rw[hs'.2 b (λz:b=D=>hb' (by rw[z];exact EY))];exact e
   ·rw[hd]
    exact hS3
def ly{E:Value->Shared->Prop}{s:Shared}{l:Addr}{its:List Value}{ps:List (Str×Value)}{Q:Value->Shared->Prop}(hh:A.handled=none)(hl:∃n,s.heap.get? l=some { cls:=.type "list",data:=.seq its.toArray n })(hlen:its.length=ps.length)
  (hx:∀(i:Nat) (v:Value),its[i]?=some v->mS s.heap ps i v) (hb:ps.length<=1000)
  (h:∀(h':Heap) (tk:Nat),h'.DictOf (aU prog w) s.heap.objs.size (putAll [] ps)->(∀b o,s.heap.get? b=some o->h'.get? b=some o)->Q (.ref s.heap.objs.size) { s with heap:=h',toks:=tk }) :
  wpAny (model prog w) A (call (.type "dict") [.ref l]) Q E s:=by
 obtain⟨nl,hol⟩:=hl
 refine callType_codes (Q₁:=λobj s₁=>obj=.ref s.heap.objs.size/\s₁={ s with heap:=s.heap.push { cls:=.type "dict",data:=.dict #[] } }) F.kt_called_dict (F.kt_typeCall_dict_1 _) F.entry_dict_init (kt_code_dict_new _ ⟨rfl,rfl⟩) ?_
 rintro obj s₁ ⟨rfl,rfl⟩
 have hnew:(s.heap.push { cls:=.type "dict",data:=.dict #[] }).DictOf (aU prog w) s.heap.objs.size []:=Heap.DictOf.new s.heap
 have hol':(s.heap.push { cls:=.type "dict",data:=.dict #[] }).get? l=some { cls:=.type "list",data:=.seq its.toArray nl }:=En _ hol
 refine⟨hnew.typeIs,F.args_dict_init_2 _ _,?_⟩
 unfold Builtin.«dict.__init__»
 refine Em ?_
 unfold Builtin.Dict.selfAndRest
 refine Em (wpAny_notOrdered_dict hnew.typeIs ?_)
 show wpAny _ _ (pure (s.heap.objs.size,[Value.ref l])) _ _ _
 refine Eo ?_
 show wpAny _ _ (Builtin.Dict.updateFrom "dict.__init__" s.heap.objs.size (.ref l) [] .none) _ _ _
 unfold Builtin.Dict.updateFrom
 refine Em (HI (T:="list") ⟨_,hol',rfl⟩ ?_)
 rw[EG (by decide)]
 refine Em (nA hol' rfl rfl rfl (by simp[hh]) λh1 tk1 k1=>?_)
 rw[EG (by decide)]
 refine Em (Jx ?_)
 have lt:l<s.heap.objs.size:=Er hol
 have z1:s.heap.objs.size+1<=h1.objs.size:=Nat.succ_le_of_lt (Er (k1 _ _ (Ew s.heap (o:={ cls:=.type "dict",data:=.dict #[] }) rfl)))
 have l1:h1.IsList l its.toArray:=⟨_,k1 _ _ hol',rfl,nl,rfl⟩
 refine Em (Hj l1 ?_)
 have neI:l≠h1.objs.size:=Ez (EE (FG lt) z1)
 have nf:s.heap.objs.size∉[h1.objs.size,l]:=by
  simp only[EB,Ft,GY,JR]
  exact⟨Ez z1,FK lt⟩
 have h3:A.in1.in1.handled=none:=by simp[hh]
 have hat:∀(i:Nat) (v:Value),its.toArray[i]?=some v->mS s.heap ps i v:=λi v e=>hx i v (by simpa using e)
 have W0:=(Walks.list (prog:=prog) (w:=w) h3 h1.objs.size l neI its.toArray).imp hat
 have hsz:its.toArray.size=ps.length:=by rw[ED];exact hlen
 rw[hsz]at W0
 have keep:∀b o,s.heap.get? b=some o->h1.get? b=some o:=λb o e=>k1 _ _ (En _ e)
 have ds:h1.DictOf (aU prog w) s.heap.objs.size []:=by
  obtain⟨o,es,ep,ho,r⟩:=hnew
  exact⟨o,es,ep,k1 _ _ ho,r⟩
 refine Eo ⟨GA bw _,tF W0.toS s.heap.objs.size nf (FH (Ep _)) (λb hb'=>?_) hb ps.length 0 _ _ [] (by lia) (EV _) ⟨⟨_,Ew _ rfl,rfl,rfl⟩,(l1.push _)⟩ (ds.push _) (Ep _) (λb o e=>En _ (keep b o e)) λs' hm hS'=>?_⟩
 ·have e:b=h1.objs.size:=by simpa using hb'
  rw[e]
  exact FH (ET (Fq _) z1)
 ·rw[Iz]at hS'
  rw[kd hm]
  refine⟨rfl,h _ _ hS' λb o e=>?_⟩
  have lb:=Er e
  refine hm.heap b o (λz=>?_) (En _ (keep b o e))
  simp only[EB,Ft,GY]at z
  rcases z with z|z
  ·exact absurd z (Ez lb)
  ·exact absurd z (Ez (EE (FG lb) z1))
end
end UfDp
end
section
namespace L2
open PySem PySem.Spec PyProof.Rows
section
variable {X:Cx}{N:List Str}{n:Nat}{ci:List Nat}{sc:Scope}
def jT{elt tg iter:Expr}{ifs:List Expr}{pos cpos py:Pos}{y:Str}{j:Nat}{wi:TI}{g:BX->TG}{tt:BX->TT}{te:BX->TE}(hc:X.calm=true)(hN:X.N.Nodup)(hj:X.N[j]?=some y)(hy:X.env.scope.names.lookup y=some .local)(hi:PI X tg iter wi)(S:ck X N n ci sc)
  (hb:∀z:BX,PG (hX X sc N z) tg (g z)/\Bw (hX X sc N z) ifs (tt z)/\PE (hX X sc N z) elt (te z)) (hsw:swapsWith (.ListComp elt [⟨tg,iter,ifs,0⟩] sc cpos) (some (.Name y py)) pos.line X.env=pure true:=by rfl)
  (hs:∀x,foldedSetIterable iter X.env x=pure x:=by intro _;rfl):PS X (.Assign [.Name y py] (.ListComp elt [⟨tg,iter,ifs,0⟩] sc cpos) pos) (wF (y8 n ci wi g tt te) (fg j)):=by
 intro pins s σ H D0 I h
 rw[exec_Assign_Name_used _ _ _ _ hsw]
 refine Em (Hx (Em ?_))
 show wpAny _ X.A (do let _ <-comprehension (.ListComp elt [⟨tg,iter,ifs,0⟩] sc cpos) sc X.env _ (newList []) false (eval iter X.env) (some (assign (.Name y py) X.env))) _ _ s
 refine Em (Fy (IU (use:=some (assign (.Name y py) X.env)) (Q:=λ_ s'=>SP X pins D0 .next s') (E:=X.xe) rfl hs (km (S.lF I.ok)) S.kind S.loc (bo (hi pins s σ H _ I h) λv s1 h1=>bo h1 λitv s2 h2=>?_)) (λ_ s' hq=>Eo (Eo hq)) λ_ _ e=>e)
 obtain⟨it,fp,tn,J,H2,e,I2,T,st2,f2,rd⟩:=h2
 subst e
 refine FF (Ii S.nocell (by intro y hy;simp at hy) (λh₁ hns₁ hsb₁=>?_) S.kind)
 dsimp only at hns₁ hsb₁ ⊢
 have hD:H2 s2.heap.objs.size=none:=I2.hok.fresh (Ep _)
 have I3:Inv X pins σ (upd H2 s2.heap.objs.size (.lst [])) { s2 with heap:=s2.heap.push { cls:=.type "list",data:=.seq ([]:List Value).toArray } }:=I2.xY (t':=s2.toks) (ys:=[]) (its:=[]) .nil (EV _)
 have ob2:∀b∈fp,∃o,s2.heap.get? b=some o:=λb hb=>let ⟨o,e,_⟩:=T.obj _ _ st2 b hb;⟨o,e⟩
 have neD:∀b∈fp,b≠s2.heap.objs.size:=λb hb=>let ⟨o,e⟩:=ob2 b hb;Ez (Er e)
 have f3:∀b∈fp,gJ X pins (upd H2 s2.heap.objs.size (.lst [])) b:=λb hb=>⟨by rw[af (neD b hb)];exact(f2 b hb).1,(f2 b hb).2⟩
 have ob3:∀b∈fp,∃o,(s2.heap.push { cls:=.type "list",data:=.seq ([]:List Value).toArray }).get? b=some o:=λb hb=>let ⟨o,e⟩:=ob2 b hb;⟨o,En _ e⟩
 have k3:∀b o,(s2.heap.push { cls:=.type "list",data:=.seq ([]:List Value).toArray }).get? b=some o->h₁.get? b=some o:=λb o e =>
  hsb₁.extBut b o (Ez (Er e)) (En _ e)
 have I4:Inv (hX X sc N ⟨_,{ s2 with heap:=s2.heap.push { cls:=.type "list",data:=.seq ([]:List Value).toArray } },upd H2 s2.heap.objs.size (.lst []),fp⟩) [] (oJ n ci σ) (upd H2 s2.heap.objs.size (.lst []))
   { s2 with heap:=h₁,toks:=s2.toks+([]:List (Str×Value)).length }:=lJ (s:={ s2 with heap:=s2.heap.push { cls:=.type "list",data:=.seq ([]:List Value).toArray } }) S I3 f3 ob3 k3 hns₁
 have st4:tn 0 h₁:=T.keep _ _ _ st2 λb hb o e=>k3 b o (En _ e)
 obtain⟨M,W,w0,turn⟩:=rd ⟨_,{ s2 with heap:=s2.heap.push { cls:=.type "list",data:=.seq ([]:List Value).toArray } },upd H2 s2.heap.objs.size (.lst []),fp⟩ s2.heap.objs.size hD
 obtain⟨bg,bt,be⟩:=hb ⟨_,{ s2 with heap:=s2.heap.push { cls:=.type "list",data:=.seq ([]:List Value).toArray } },upd H2 s2.heap.objs.size (.lst []),fp⟩
 have ok3:=qd S I3 f3 ob3
 have stat:∀{H':Hp},(∀b∈fp,H' b=none)->∀b∈fp,gJ (hX X sc N ⟨_,{ s2 with heap:=s2.heap.push { cls:=.type "list",data:=.seq ([]:List Value).toArray } },upd H2 s2.heap.objs.size (.lst []),fp⟩) [] H' b:=λhn b hb=>by
  obtain⟨_,f1,f2',_,f4,_⟩:=f3 b hb
  refine⟨hn b hb,?_,ok3.exfs b hb,.inl hb,λx c e=>?_,λp hp=>absurd hp (by simp)⟩
  ·exact Ez (let ⟨o,e⟩:=ob3 b hb;Er e)
  ·exact f4 x c (bR _ _ (S.lF I3.ok) (by simp) x c e)
 have loop:codeAny (model X.prog X.w) X.A (.compLoop (.ListComp elt [⟨tg,iter,ifs,0⟩] sc cpos) 0 (.ref it) (.ref s2.heap.objs.size) (compEnvC sc (ia X.env sc.names []) (s2.heap.push { cls:=.type "list",data:=.seq ([]:List Value).toArray }).objs.size X.env))
   (compPost (model X.prog X.w) X.A X.xe (some (assign (.Name y py) X.env)) (λ_ s'=>SP X pins D0 .next s') (.ref s2.heap.objs.size) (s2.heap.push { cls:=.type "list",data:=.seq ([]:List Value).toArray }).objs.size) { s2 with heap:=h₁,toks:=s2.toks+([]:List (Str×Value)).length }:=by
  refine ou (W:=W) (M:=M) (σ0:=oJ n ci σ) (Q:=λv H'=>D0.nx (σ.set j (some v)) H') hc T bg bt be (λ{pins' σ' H' s'} J'=>?_) stat I4 st4 (λb hb=>(f3 b hb).1) w0 turn λσ' H' s' J' q=>?_
  ·exact oR S I3 f3 J'
  ·obtain⟨m',hn',_⟩:=id J'.loc
   have J2:Inv X pins σ H' s':=j7 (s:={ s2 with heap:=s2.heap.push { cls:=.type "list",data:=.seq ([]:List Value).toArray } }) I3 f3 J' (Heap.SameBut.refl _ _)
   show wpAny _ _ (assign (.Name y py) X.env (.ref s2.heap.objs.size)) _ _ s'
   refine wpAny_assign_Name (mF (v:=.ref s2.heap.objs.size) J2 hN hj (.inl hy) rfl (λs3 J3 ⟨a,sb,ha⟩=>?_) (.inr hy))
   have cC:∀x c,X.env.cells.lookup x=some c->c≠(s2.heap.push { cls:=.type "list",data:=.seq ([]:List Value).toArray }).objs.size:=λx c e z=>by
    obtain⟨v,q1⟩:=I3.cell x c e
    have:=q1.lt
    rw[z]at this
    exact absurd this (Fe _)
   have lC:X.env.locals≠(s2.heap.push { cls:=.type "list",data:=.seq ([]:List Value).toArray }).objs.size:=λz=>by
    have q1:=I3.lt
    rw[z]at q1
    exact absurd q1 (Fe _)
   have aC:a≠(s2.heap.push { cls:=.type "list",data:=.seq ([]:List Value).toArray }).objs.size:=by
    rcases ha with rfl|ha
    ·exact lC
    ·exact cC _ _ ha
   refine⟨m',hn'.sameBut sb (E2 aC),λh' hs'=>⟨_,H',J3.turned (t':=s3.toks) (λb o hb e=>(hs'.2 b hb).trans e) J'.free lC.symm (.inr (ET I3.sz (Ep _))) cC (λp hp z=>?_),q⟩⟩
   have q1:=(I3.pin p hp).1
   rw[z]at q1
   exact absurd (Er q1) (Fe _)
 exact codeAny_compStart_list loop (T.self _ 0 _ _ _ st4 loop)
end
end L2
end
section
namespace L2
open PySem PySem.Spec PyProof.Rows UfSrt
def jB{α β:Type}{F:α->β->Prop}{l:List α}{m:List β}{i:Nat}{b:β}(h:Paired F l m)(e:m[i]?=some b):∃a,l[i]?=some a/\F a b:=by
 induction h generalizing i with
 |nil=>simp at e
 |cons r t ih =>
  cases i with
  |zero =>
   simp at e
   subst e
   exact⟨_,rfl,r⟩
  |succ i =>
   obtain⟨a,h1,h2⟩:=ih (by simpa using e)
   exact⟨a,by simpa using h1,h2⟩
section
variable {X:Cx}{pins:List (Addr×Obj)}{σ:St}{H:Hp}{s:Shared}
def Inv.Cy{a:Addr}{kvs:List (Key×V)}(I:Inv X pins σ H s)(e:H a=some (.dK kvs)):∃o,Inv X pins σ (upd H a (.frz o (.dK kvs))) s:=by
 obtain⟨z,y,vs,rel,o,es,ep,ho,r⟩:=zj I.hok e
 refine⟨o,?_⟩
 have u:Un X.fs [] H (upd H a (.frz o (.dK kvs))) s.heap s.heap:=by
  refine⟨λb ob q _ _ _=>q,λb ob q _ _ _=>⟨ob.slots,q⟩,λb ob q n _=>?_,λb ob q _=>⟨ob,q⟩,λb xs q=>?_,λb ob v q=>?_,λb ps q=>⟨#[],?_⟩⟩
  ·rw[af (λz=>by rw[z,e]at n;cases n)];exact n
  ·rw[af (aJ q e (λz=>nomatch z))];exact q
  ·rw[af (aJ q e (λz=>nomatch z))];exact q
  ·rw[af (aJ q e (λz=>nomatch z)),q];simp
 refine I.un (h':=s.heap) (t':=s.toks) u λb v e'=>?_
 by_cases hb:b=a
 ·subst hb
  rw[ae]at e'
  cases e'
  exact⟨ho,show bc X.prog X.w H s.heap b (.dK kvs) from I.hok b _ e⟩
 ·rw[af hb]at e'
  exact(I.hok b v e').ib (λc v _ q=>q) (λc q=>by rw[af (aJ q e (λz=>nomatch z))];exact q) (λc xs q=>by rw[af (aJ q e (λz=>nomatch z))];exact q) λc oo uu q _=>by rw[af (aJ q e (λz=>nomatch z))];exact q
def Dr(te:TE):TE:=λσ H Q=>te σ H λv H1=>∃a kvs,v=.ref a/\H1 a=some (.dK kvs)/\∀o,Q (.ref a) (upd H1 a (.frz o (.dK kvs)))
def zO{e:Expr}{te:TE}(he:PE X e te):PE X e (Dr te):=by
 intro pins s σ H Q I h
 refine bo (he pins s σ H _ I h) λu s1 hZ=>?_
 obtain⟨v,H1,I1,r1,a,kvs,ev,ea,q⟩:=hZ
 subst ev
 obtain⟨o,I2⟩:=I1.Cy ea
 exact⟨.ref a,_,I2,r1,q o⟩
def uK{a:Addr}{o:Obj}{kvs:List (Key×V)}{es:Array DictEntry}{ep:Nat}(I:Inv X pins σ H s)(e:H a=some (.frz o (.dK kvs)))(hd:o.data=.dict es ep) :
  ∃vs,KV kvs vs/\s.heap.DictAt (aU X.prog X.w) a vs ep/\(a==sysModules)=false/\kvs.length<=sizeLine:=by
 obtain⟨ho,z,y,vs,rel,dd⟩:=(show bc X.prog X.w H s.heap a (.frz o (.dK kvs)) from I.hok a _ e)
 obtain⟨ep',hat⟩:=dd.dictAt
 obtain⟨o',es',ho',hc',hd',hr⟩:=id hat
 rw[ho]at ho'
 cases ho'
 rw[hd]at hd'
 cases hd'
 exact⟨vs,rel,hat,y,z⟩
end
section
variable {X:Cx}{tg:Expr}
end
section
variable {n:Nat}{ci:List Nat}{g:TG}{tt:TT}{te:TE}{σ:St}{H:Hp}{D:Addr}{Q:VK}
end
end L2
end
section
namespace L2
open PySem PySem.Spec PyProof.Rows UfDp
abbrev wZ(H:Hp):List (Str×V)->List Addr->Prop:=Paired λp q=>H q=some (.tup [.str p.1,p.2])
def keyed(ps:List (Str×V)):List (Key×V):=ps.map λp=>(Sum.inr p.1,p.2)
section
variable {X:Cx}{pins:List (Addr×Obj)}{σ:St}{H:Hp}{s:Shared}
def two_vals{x:Str}{v:V}{its:List Value}(r:Vals [.str x,v] its):∃t u,its=[.str x t,u]/\RelV v u:=by
 cases r with
 |cons r1 r =>
  cases r with
  |cons r2 r =>
   cases r
   obtain⟨t,rfl⟩:=(show ∃t,_=Value.str x t from r1)
   exact⟨t,_,rfl,r2⟩
theorem pairs_at(I:Inv X pins σ H s):∀{ps:List (Str×V)} {qs:List Addr},wZ H ps qs->∃vs:List (Str×Value),Paired (λ(p:Str×V) (v:Str×Value)=>p.1=v.1/\RelV p.2 v.2) ps vs/\qs.length=vs.length/\∀(i:Nat) (q:Addr),qs[i]?=some q->mS s.heap vs i (.ref q)
 |_,_,.nil=>⟨[],.nil,rfl,λi q h=>by simp at h⟩
 |p::ps,q::qs,.cons h t=>by
  obtain⟨vs,pv,ln,hp⟩:=pairs_at I t
  obtain⟨_,its,rv,it⟩:bc X.prog X.w H s.heap q (.tup [.str p.1,p.2]):=I.hok q _ h
  obtain⟨tx,u,rfl,ru⟩:=two_vals rv
  refine⟨(p.1,u)::vs,.cons ⟨rfl,ru⟩ pv,by simp[ln],λi q' hi=>?_⟩
  cases i with
  |zero =>
   have e:q=q':=by simpa using hi
   exact⟨q',p.1,tx,u,rfl,rfl,by rw[<-e];exact it⟩
  |succ i =>
   obtain⟨q2,x,t2,u2,e1,e2,e3⟩:=hp i q' (by simpa using hi)
   exact⟨q2,x,t2,u2,e1,by simpa using e2,e3⟩
theorem rE:∀{ps:List (Str×V)} {vs:List (Str×Value)} {kvs:List (Key×V)} {acc:List (Key×Value)},Paired (λ(p:Str×V) (v:Str×Value)=>p.1=v.1/\RelV p.2 v.2) ps vs->KV kvs acc->(ps.map (·.1)).Nodup->(∀p∈ps,cA kvs (Sum.inr p.1:Key)=none)->KV (kvs++keyed ps) (putAll acc vs)
 |_,_,kvs,acc,.nil,r,_,_=>by
  show KV (kvs++[]) acc
  rw[Gu]
  exact r
 |p::ps,v::vs,kvs,acc,.cons h t,r,hn,hv=>by
  obtain⟨n1,n2⟩:=Fi.mp (show(p.1::ps.map (·.1)).Nodup from hn)
  obtain⟨e1,e2⟩:=h
  have r2:=KV.put r (Sum.inr p.1:Key) e2
  rw[fm _ (hv p EY)]at r2
  have:=rE (kvs:=kvs++[(Sum.inr p.1,p.2)]) t r2 n2 (λp' hp'=>?_)
  ·rw[FY]at this
   show KV _ (putAll (stored acc (Sum.inr v.1) v.2) vs)
   rw[<-e1]
   exact this
  ·have h1:=hv p' (EK _ hp')
   have ne:¬p.1=p'.1:=λz=>n1 (by rw[z];exact EH.mpr ⟨p',hp',rfl⟩)
   rw[mG (Sum.inr p.1:Key) (Sum.inr p'.1) p.2 kvs (hv p EY),Ex (λz=>ne (HS z).symm)]
   exact h1
end
section
variable {X:Cx}
def AD:List V->Hp->VK->Prop:=λvs H Q=>∃l qs ps,vs=[.ref l]/\H l=some (.lst (qs.map V.ref))/\wZ H ps qs/\ps.length<=1000/\(ps.map (·.1)).Nodup/\∀d,H d=none->Q (.ref d) (upd H d (.dK (keyed ps)))
theorem me:∀{qs:List Addr} {its:List Value},Vals (qs.map V.ref) its->its=qs.map Value.ref
 |[],_,.nil=>rfl
 |q::qs,_,.cons r t=>by
  have e:=(show _=Value.ref q from r)
  rw[e,me t]
  rfl
def qF(hc:X.calm=true):eM X (.type "dict") AD:=by
 intro pins s σ H xs us Q I r h
 obtain⟨l,qs,ps,rfl,hl,hp,hz,hn,q⟩:=h
 obtain⟨u,rfl,ru⟩:=vals1 r
 cases ru
 obtain⟨_,its,n,rv,hlen,eo⟩:=I.qZ hl
 have ei:=me rv
 obtain⟨vs,pv,ln,hat⟩:=pairs_at I hp
 have lp:ps.length=vs.length:=EW pv
 have hf:H s.heap.objs.size=none:=I.hok.fresh (Ep _)
 refine ly (ps:=vs) (I.ok.hd hc) ⟨n,eo⟩ (by rw[ei,Et];exact ln) (λi v hv=>?_) (by lia) λh' tk hd hk=>?_
 ·rw[ei,E4]at hv
  obtain⟨q',e1,e2⟩:=Hi.mp hv
  rw[<-e2]
  exact hat i q' e1
 ·have kv:KV (keyed ps) (putAll [] vs):=rE (kvs:=[]) pv .nil hn λp _=>rfl
  refine⟨.ref s.heap.objs.size,_,I.laid (t':=tk) (o:=.dK (keyed ps)) hk (Nat.le_refl _) ⟨by unfold keyed;rw[List.length_map,sizeLine_eq];lia,?_,_,kv,hd⟩,rfl,q _ hf⟩
  have:=I.big
  exact FC.mpr (FK this)
end
end L2
end
section
namespace Uf
open PySem L2 UfB
structure rh where
 sp:List (Str×Option Nat)
 tk:List Nat
 be:List Nat
 pl:List (Str×Nat)
def gv:Option Nat->V
 |none=>.non
 |some n=>nat n
def yE(bs:List Nat)(j n:Nat):List Nat:=bs.set j (bs.getD j 0 ||| 2 ^ n)
def eL(bs js:List Nat)(n:Nat):List Nat:=js.foldl (λa j=>yE a j n) bs
def jf(pl:List (Str×Nat))(x:Str)(n:Nat):List (Str×Nat):=pl.map λp=>if p.1=x then(p.1,p.2 ||| 2 ^ n) else p
def jq(g:Option Nat)(p:rh×Nat)(x:Str):rh×Nat :=
 (⟨p.1.sp++[(x,g)],p.1.tk++[0],eL (p.1.be++[p.2]) (mem p.2) p.1.sp.length,jf p.1.pl x p.1.sp.length⟩,p.2 ||| 2 ^ p.1.sp.length)
def cZ(g:Option Nat)(p:rh×Nat)(xs:List Str):rh×Nat:=xs.foldl (jq g) p
theorem jd:∀(js bs:List Nat) (n:Nat),(eL bs js n).length=bs.length
 |[],bs,n=>rfl
 |j::js,bs,n=>by
  show(eL (yE bs j n) js n).length=_
  rw[jd js]
  unfold yE
  rw[Ji]
def Aa{b i n:Nat}(h:b<2 ^ n)(hi:i∈mem b):i<n:=by
 unfold mem at hi
 have hb:=(Fx.mp hi).2
 refine Nat.lt_of_not_le λz=>?_
 rw[Nat.testBit_lt_two_pow (EE h (Hu (by decide) z))]at hb
 cases hb
structure kN(p:rh×Nat)(xs:List Str):Prop where
 tk:p.1.tk.length=p.1.sp.length
 be:p.1.be.length=p.1.sp.length
 lt:p.2<2 ^ p.1.sp.length
 qN:p.1.sp.length+xs.length<=250
 key:∀x∈xs,x∈p.1.pl.map (·.1)
 nd:(p.1.pl.map (·.1)).Nodup
 sm:p.1.pl.length<=12
def mi(pl:List (Str×Nat))(x:Str)(n:Nat):(jf pl x n).map (·.1)=pl.map (·.1):=by
 unfold jf
 rw[Fo]
 refine Ir λp _=>?_
 show(if p.1=x then(p.1,p.2 ||| 2 ^ n) else p).1=p.1
 split <;> rfl
def kN.one{g:Option Nat}{p:rh×Nat}{x:Str}{xs:List Str}(h:kN p (x::xs)):kN (jq g p x) xs:=by
 obtain⟨h1,h2,h3,h4,h5,h6,h7⟩:=h
 rw[ER]at h4
 refine⟨?_,?_,?_,?_,λy hy=>?_,?_,?_⟩
 ·show(p.1.tk++[0]).length=(p.1.sp++[(x,g)]).length
  rw[Eu,Eu,h1];rfl
 ·show(eL (p.1.be++[p.2]) (mem p.2) p.1.sp.length).length=(p.1.sp++[(x,g)]).length
  rw[jd,Eu,Eu,h2];rfl
 ·show p.2 ||| 2 ^ p.1.sp.length<2 ^ (p.1.sp++[(x,g)]).length
  rw[Eu]
  refine Nat.or_lt_two_pow (EE h3 (Hu (by decide) (Nat.le_add_right _ _))) ?_
  exact Nat.pow_lt_pow_right (by decide) (FI _)
 ·show(p.1.sp++[(x,g)]).length+xs.length<=250
  rw[Eu,Ia];lia
 ·show y∈(jf p.1.pl x _).map (·.1)
  rw[mi]
  exact h5 y (EK _ hy)
 ·show((jf p.1.pl x _).map (·.1)).Nodup
  rw[mi]
  exact h6
 ·show(jf p.1.pl x _).length<=12
  unfold jf
  rw[Et]
  exact h7
theorem kN.u4{g:Option Nat}:∀{xs ys:List Str} {p:rh×Nat},kN p (xs++ys)->kN (cZ g p xs) ys
 |[],ys,p,h=>h
 |x::xs,ys,p,h=>kN.u4 (xs:=xs) (kN.one (g:=g) (x:=x) (xs:=xs++ys) h)
def ot(g:Option Nat)(p:rh×Nat)(xs:List Str)(x:Str):cZ g p (xs++[x])=jq g (cZ g p xs) x:=by
 unfold cZ
 rw[Hl]
 rfl
end Uf
end
section
namespace Uf
open PySem L2 UfSrt
structure Def(K:PySem.W.Frag)(mg:Str->Option Value)(x:Str)(st:Stmt)(ps:List Str)(f:Addr)(fd:FuncData):Prop where
 fn:d3 K x x st f fd
 mg:mg x=some (.ref f)
 bd:Binds K fd ps []
structure kA(P:Program)(w:World)(K:PySem.W.Frag)(mg:Str->Option Value)(base:Heap)(x:Str)(st:Stmt)(ps:List Str)(k:Nat)(sp:Sp) where
 f:Addr
 fd:FuncData
 d:Def K mg x st ps f fd
 g:aM P w K mg base cW k f fd ps sp
def jR{X:Cx}{x:Str}{st:Stmt}{ps:List Str}{k:Nat}{sp:Sp}{e:Expr}{es:List Expr}{t:TA}{p pos:Pos}(D:kA X.prog X.w X.K X.mg X.base x st ps k sp)(hr:bB k X.A)(ha:PA X (e::es) t)(hg:Gl X x:=by rfl)(hdb:(x==("__debug__":Str))=false:=by decide)(he:starEach (e::es) X.env=(false,eval e X.env)::starEach es X.env:=by rfl)(hpl:(backTo pos (starEach es X.env)).any (·.1)=false:=by rfl) :
  PE X (.Call (.Name x p) (e::es) [] pos) (zi sp [] E0 t):=cH D.g hr hg D.d.mg D.d.fn.kp D.d.bd .nil bF ha hdb he hpl
def unlike(xs:List Str):Bool:=xs.all isNm&&decide xs.Nodup
def Short(xs:List Str):Prop:=xs.length<=200/\∀x∈xs,x.length<=1000
def cz{xs:List Str}{i:Nat}{v:V}(h:(aw xs)[i]?=some v):∃x,xs[i]?=some x/\v=.str x:=by
 unfold aw at h
 rw[E4]at h
 cases e:xs[i]? with
 |none=>rw[e]at h;cases h
 |some x=>rw[e]at h;exact⟨x,rfl,(EO h).symm⟩
inductive kh(K:PySem.W.Frag)(vs:List V)(H:Hp)(Q:VK)(E:XK):Prop
 |mk (a:Addr) (xs:List Str) (_:vs=[.ref a]) (_:aR K H a (aw xs)) (_:Short xs) (_:∀H',au H H'->Q (.bl (unlike xs)) H')
def oE:az ["things"] ["things"] (aj dI):=gm
def lP{f fN:Addr}{fd fdN:FuncData}(F:d3 K "are_unlike_names" "are_unlike_names" dI f fd)(T:Txt K mg)(DN:Def K mg "is_name" cv ["thing"] fN fdN):aM P w K mg base cW 2 f fd ["things"] (kh K):=by
 have GN:aM P w K mg base cW 1 fN fdN ["thing"] jZ:=mL DN.fn T
 refine F.oK oE λcdv A outer s H vs Q E hr h=>?_
 ·obtain⟨a,xs,rfl,ha,hz,k⟩:=h
  refine⟨_,aq (aH (nj (aD (kW rfl) rfl T.all uF (aa (cE (N:=["thing"]) (n:=1) (ci:=[]) rfl (bh (pv 0)) (o9 oE)
    (λz=>⟨kZ 0,cR,cH GN hr rfl DN.mg DN.fn.kp DN.bd .nil bF (aa (pv 0) ag)⟩)) ag))
   (m9 (dZ iP (aD tX rfl T.len dM (aa (aX (o4 rfl) rfl T.set ze (aa (pv 0) ag)) ag)) (aD bu rfl T.len dM (aa (pv 0) ag)) (cu _))))),?_⟩
  try dsimp only[bz,Cx.ff,Cx.cG]
  refine⟨_,rfl,a,rfl,⟨_,ha⟩,λz D hD=>bN (a:=a) (xs:=aw xs) (λi ys H2=>ys=(xs.take i).map (λx=>V.bl (isNm x))/\H2 D=some (.lst ys)/\au H H2) ⟨rfl,ae,ak hD⟩ (λi ys H2 _ p=>p.2.2.seq ha) ?_ ?_⟩
  ·rintro i v ys H2 hi ⟨rfl,hys,sm⟩
   obtain⟨x,hx,rfl⟩:=cz hi
   refine⟨_,rfl,x,rfl,hz.2 x (EC hx),λH3 s3=>⟨s3 _ _ hys,?_,?_,ae,aF (sm.trans s3) hD⟩⟩
   ·rw[Et,EL,E3]
    have:=hz.1
    lia
   ·rw[ar hx,EI]
    rfl
  ·rintro ys H2 ⟨rfl,hys,sm⟩
   have hl:(aw xs).length=xs.length:=ao xs
   rw[hl,EN]at hys
   refine⟨D,xs.map isNm,rfl,aR.of (by rw[hys,Fo];rfl),_,rfl,?_⟩
   have ea:(xs.map isNm).all id=xs.all isNm:=by rw[Ij];rfl
   rw[ea]
   cases hn:xs.all isNm with
   |false =>
    refine br ?_
    have e:unlike xs=false:=by unfold unlike;rw[hn];rfl
    rw[<-e]
    exact k H2 sm
   |true =>
    refine bM ?_
    refine⟨_,rfl,a,xs,rfl,sm.seq ha,by have:=hz.1;lia,λp hp=>⟨p,_,rfl,ae,?_⟩⟩
    have sm2:au H (upd H2 p (nY w p (UfSet.dd xs))):=aF sm (sm.free hp)
    refine⟨_,rfl,_,xs.length,rfl,.inl ⟨_,sm2.seq ha,hl.symm⟩,rfl,?_⟩
    have e:unlike xs=decide (V.int (((UfSet.dd xs).length:Nat):Int)=V.int ((xs.length:Nat):Int)):=by
     unfold unlike
     rw[hn,HX]
     refine Hv.mpr ?_
     rw[<-UfSet.qG]
     constructor
     ·intro h;rw[h]
     ·intro h;injection h with h;lia
    rw[<-e]
    exact k _ sm2
def fq(tk gv:List Str):Bool:=unlike tk&&(unlike gv&&(decide (1<=tk.length)&&(decide (tk.length<=4)&&decide (gv.length<=4))))
inductive oj(K:PySem.W.Frag)(vs:List V)(H:Hp)(Q:VK)(E:XK):Prop
 |mk (a b:Addr) (tk gv:List Str) (_:vs=[.ref a,.ref b]) (_:aR K H a (aw tk)) (_:aR K H b (aw gv)) (_:Short tk) (_:Short gv) (_:∀H',au H H'->Q (.bl (fq tk gv)) H')
def uR:az ["taken", "given"] ["taken", "given"] (aj dY):=gm
def sW{f fN fU:Addr}{fd fdN fdU:FuncData}(F:d3 K "is_move" "is_move" dY f fd)(T:Txt K mg)(DN:Def K mg "is_name" cv ["thing"] fN fdN)(DU:Def K mg "are_unlike_names" dI ["things"] fU fdU):aM P w K mg base cW 3 f fd ["taken", "given"] (oj K):=by
 have GU:aM P w K mg base cW 2 fU fdU ["things"] (kh K):=lP DU.fn T DN
 refine F.oK uR λcdv A outer s H vs Q E hr h=>?_
 ·obtain⟨a,b,tk,gv,rfl,ha,hb,za,zb,k⟩:=h
  obtain⟨t1,h1⟩:=T.leastT
  obtain⟨t2,h2⟩:=T.mostT
  obtain⟨t3,h3⟩:=T.mostG
  refine⟨_,ah (cj (PW.pt (pw_or (cK (bU (cH GU hr rfl DU.mg DU.fn.kp DU.bd .nil bF (aa (pv 0) ag)))) (pw_or1 (cK (bU (cH GU hr rfl DU.mg DU.fn.kp DU.bd .nil bF (aa (pv 1) ag))))))) (aq (aH iN)) aZ)
   (aq (aH (nj (wj mm mm (bb (v:=.int 1) rfl h1 ⟨t1,rfl⟩) (aD bu rfl T.len dM (aa (pv 0) ag)) (bb (v:=.int 4) rfl h2 ⟨t2,rfl⟩))
    (m9 (dZ mm (aD bu rfl T.len dM (aa (pv 1) ag)) (bb (v:=.int 4) rfl h3 ⟨t3,rfl⟩) (cu _)))))),?_⟩
  try dsimp only[bz,Cx.ff,Cx.cG]
  have no:∀H',au H H'->fq tk gv=false->Q (.bl false) H':=λH' sm e=>by rw[<-e];exact k H' sm
  refine⟨_,rfl,a,tk,rfl,ha,za,λH1 s1=>⟨_,rfl,?_⟩⟩
  cases u1:unlike tk with
  |false =>
   refine bM ?_
   refine bM ?_
   exact no H1 s1 (by unfold fq;rw[u1];rfl)
  |true =>
   refine br ?_
   refine⟨_,rfl,b,gv,rfl,s1.seq hb,zb,λH2 s2=>⟨_,rfl,?_⟩⟩
   have sm:au H H2:=s1.trans s2
   cases u2:unlike gv with
   |false =>
    refine bM ?_
    exact no H2 sm (by unfold fq;rw[u1,u2];rfl)
   |true =>
    refine br ?_
    refine⟨_,rfl,_,tk.length,rfl,.inl ⟨_,sm.seq ha,(ao tk).symm⟩,1,_,rfl,rfl,_,rfl,?_⟩
    by_cases c1:1<=tk.length
    ·rw[EM (show(1:Int)<=(tk.length:Int) by lia)]
     refine bM ?_
     refine⟨_,_,rfl,rfl,_,rfl,?_⟩
     by_cases c2:tk.length<=4
     ·rw[EM (show(tk.length:Int)<=4 by lia)]
      refine bM ?_
      refine⟨_,rfl,_,gv.length,rfl,.inl ⟨_,sm.seq hb,(ao gv).symm⟩,_,_,rfl,rfl,?_⟩
      have e:fq tk gv=decide ((gv.length:Int)<=4):=by
       unfold fq
       rw[u1,u2,EM c1,EM c2]
       simp only[HX]
       exact Hv.mpr (by lia)
      show Q (V.bl (decide ((gv.length:Int)<=4))) H2
      rw[<-e]
      exact k H2 sm
     ·rw[EZ (show ¬(tk.length:Int)<=4 by lia)]
      refine br ?_
      exact no H2 sm (by unfold fq;rw[u1,u2,decide_eq_false c2];simp)
    ·rw[EZ (show ¬(1:Int)<=(tk.length:Int) by lia)]
     refine br ⟨_,rfl,?_⟩
     refine br ?_
     exact no H2 sm (by unfold fq;rw[u1,u2,decide_eq_false c1];simp)
abbrev Mv:=Str×List Str×List Str
def pK(H:Hp)(m:Mv)(q:Addr):Prop:=∃l g,H q=some (.tup [.str m.1,.ref l,.ref g])/\H l=some (.lst (aw m.2.1))/\H g=some (.lst (aw m.2.2))
def pK.same{H H':Hp}{m:Mv}{q:Addr}(s:au H H')(h:pK H m q):pK H' m q:=by
 obtain⟨l,g,h1,h2,h3⟩:=h
 exact⟨l,g,s _ _ h1,s _ _ h2,s _ _ h3⟩
def mI(K:PySem.W.Frag)(H:Hp)(a:Addr)(ms:List Mv):Prop:=∃qs:List Addr,aR K H a (qs.map V.ref)/\Paired (pK H) ms qs
theorem mI.same{K:PySem.W.Frag}{H H':Hp}{a:Addr}{ms:List Mv}(s:au H H')(h:mI K H a ms):mI K H' a ms:=by
 obtain⟨qs,h1,h2⟩:=h
 exact⟨qs,s.seq h1,Paired.dy h2 λ_ _=>pK.same s⟩
theorem bf{α β:Type}{F:α->β->Prop}:∀{l:List α} {m:List β} {i:Nat} {b:β},Paired F l m->m[i]?=some b->∃a,l[i]?=some a/\F a b
 |_,_,_,_,.nil,e=>by simp at e
 |_,_,0,_,.cons r _,e=>by
  simp at e
  subst e
  exact⟨_,rfl,r⟩
 |_,_,i+1,_,.cons _ t,e=>by
  obtain⟨a,h1,h2⟩:=bf (i:=i) t (by simpa using e)
  exact⟨a,by simpa using h1,h2⟩
def cX{qs:List Addr}{i:Nat}{v:V}(h:(qs.map V.ref)[i]?=some v):∃q,qs[i]?=some q/\v=.ref q:=by
 rw[E4]at h
 cases e:qs[i]? with
 |none=>rw[e]at h;cases h
 |some x=>rw[e]at h;exact⟨x,rfl,(EO h).symm⟩
def je(ms:List Mv):List Str:=ms.flatMap λm=>m.2.1++m.2.2
def cD(ms:List Mv)(st:List Str):List Str:=aI (UfSet.dd (st++je ms))
inductive kE(K:PySem.W.Frag)(vs:List V)(H:Hp)(Q:VK)(E:XK):Prop
 |mk (a b:Addr) (ms:List Mv) (st:List Str) (_:vs=[.ref a,.ref b]) (_:mI K H a ms) (_:aR K H b (aw st)) (_:(st++je ms).length<=1000) (_:(UfSet.dd (st++je ms)).length<64) (_:∀H' p,au H H'->H p=none->H' p=some (.lst (aw (cD ms st)))->Q (.ref p) H')
def fv:az ["moves", "start", "places", "name", "taken", "given"] ["moves", "start"] (aj ez):=gm
def lM{f:Addr}{fd:FuncData}(F:d3 K "places_of" "places_of" ez f fd)(T:Txt K mg):aM P w K mg base cW 1 f fd ["moves", "start"] (kE K):=by
 refine F.oK fv λcdv A outer s H vs Q E hr h=>?_
 ·obtain⟨a,b,ms,st,rfl,ha,hb,hz,h64,k⟩:=h
  obtain⟨qs,hq,hp⟩:=id ha
  refine⟨_,ah (eR 2 fv (aX bj rfl T.lst dS (aa (pv 1) ag)))
   (ah (dU Fg rfl (bh (pv 0)) (gy rfl (aY (la 3 fv) (aY (la 4 fv) (aY (la 5 fv) eV))))
    (aq (eR 2 fv (aK jl (aK jl (pv 2) (aX bj rfl T.lst dS (aa (pv 4) ag))) (aX bj rfl T.lst dS (aa (pv 5) ag))))))
   (aq (aH (aD (qK rfl) rfl T.aI dO (aa (aX (o4 rfl) rfl T.set ze (aa (pv 2) ag)) ag))))),?_⟩
  try dsimp only[bz,Cx.ff,Cx.cG]
  refine⟨_,rfl,b,aw st,rfl,.inl hb,λp0 n0=>?_⟩
  have s0:au H (upd H p0 (.lst (aw st))):=ak n0
  refine⟨_,rfl,a,rfl,⟨_,s0.seq hq⟩,cO (K:=K) (a:=a) (xs:=qs.map V.ref) (λi σ H2=>∃(p:Addr) (v3 v4 v5:Option V),σ=[some (.ref a),some (.ref b),some (.ref p),v3,v4,v5]/\au H H2/\H p=none/\H2 p=some (.lst (aw (st++je (ms.take i)))))
   ⟨p0,none,none,none,rfl,s0,n0,by rw[ae];simp[je]⟩ (λi σ H2 _ ⟨_,_,_,_,_,sm,_⟩=>sm.seq hq) ?_ ?_⟩
  ·rintro i v σ H2 hi ⟨p,v3,v4,v5,rfl,sm,np,hp2⟩
   obtain⟨q,hqi,rfl⟩:=cX hi
   obtain⟨m,hm,hmv⟩:=bf hp hqi
   obtain⟨l,g,e1,e2,e3⟩:=hmv.same sm
   have etk:je (ms.take (i+1))=je (ms.take i)++(m.2.1++m.2.2):=by
    unfold je
    rw[ar hm,JJ]
    simp
   have hle:(st++je (ms.take (i+1))).length<=1000:=by
    refine ET ?_ hz
    have e:je ms=je (ms.take (i+1))++je (ms.drop (i+1)):=by
     unfold je
     rw[<-JJ,FT]
    rw[e,Eu,Eu,Eu]
    lia
   rw[etk]at hle
   simp only[Eu]at hle
   have hsl:=E1
   refine⟨q,_,rfl,cT.of e1,rfl,_,_,rfl,_,_,rfl,_,_,rfl,rfl,?_⟩
   refine⟨_,rfl,_,rfl,l,aw m.2.1,rfl,.inl (aR.of e2),λl1 n1=>⟨p,l1,_,_,rfl,rfl,(by rw[af (ai hp2 n1)];exact hp2),ae,?_,λp1 m1=>?_⟩⟩
   ·rw[ao,ao,Eu]
    lia
   have s1:au H2 (upd (upd H2 l1 (.lst (aw m.2.1))) p1 (.lst (aw (st++je (ms.take i))++aw m.2.1))):=(ak n1).trans (ak m1)
   refine⟨_,rfl,g,aw m.2.2,rfl,.inl (aR.of (s1 _ _ e3)),λl2 n2=>⟨p1,l2,_,_,rfl,rfl,(by rw[af (ai ae n2)];exact ae),ae,?_,λp2 m2=>?_⟩⟩
   ·rw[Eu,ao,ao,ao,Eu]
    lia
   have s2:=s1.trans ((ak (o:=.lst (aw m.2.2)) n2).trans (ak (o:=.lst ((aw (st++je (ms.take i))++aw m.2.1)++aw m.2.2)) m2))
   refine⟨p2,_,_,_,rfl,sm.trans s2,?_,?_⟩
   ·exact(sm.trans (s1.trans (ak (o:=.lst (aw m.2.2)) n2))).free m2
   ·rw[ae,etk]
    unfold aw
    simp[EI]
  ·rintro σ H2 ⟨p,v3,v4,v5,rfl,sm,np,hp2⟩
   have el:(qs.map V.ref).length=ms.length:=by rw[Et,<-EW hp]
   rw[el,EN]at hp2
   refine⟨_,rfl,p,st++je ms,rfl,aR.of hp2,hz,λp1 n1=>⟨p1,_,rfl,ae,h64,λp2 n2=>?_⟩⟩
   have s1:=(ak (o:=nY w p1 (UfSet.dd (st++je ms))) n1).trans (ak (o:=.lst (aw (aI (UfSet.dd (st++je ms))))) n2)
   exact k _ p2 (sm.trans s1) ((sm.trans (ak (o:=nY w p1 (UfSet.dd (st++je ms))) n1)).free n2) ae
def names(ms:List Mv):List Str:=ms.map (·.1)
def ft(ms:List Mv)(st:List Str):Bool:=decide (ms.length<=12)&&(unlike (names ms)&&((ms.all λm=>fq m.2.1 m.2.2)&&(unlike st&&decide ((cD ms st).length<=12))))
structure Fits(ms:List Mv)(st:List Str):Prop where
 nm:Short (names ms)
 tk:∀m∈ms,Short m.2.1
 gv:∀m∈ms,Short m.2.2
 so:Short st
 sum:(st++je ms).length<=1000
 qN:(UfSet.dd (st++je ms)).length<64
inductive rA(K:PySem.W.Frag)(vs:List V)(H:Hp)(Q:VK)(E:XK):Prop
 |mk (a b:Addr) (ms:List Mv) (st:List Str) (_:vs=[.ref a,.ref b]) (_:mI K H a ms) (_:aR K H b (aw st)) (_:Fits ms st) (_:∀H',au H H'->Q (.bl (ft ms st)) H')
def nE:az ["moves", "start"] ["moves", "start"] (aj gO):=gm
def wY{f fN fU fM fP:Addr}{fd fdN fdU fdM fdP:FuncData}(F:d3 K "makes_net" "makes_net" gO f fd)(T:Txt K mg)(DN:Def K mg "is_name" cv ["thing"] fN fdN)(DU:Def K mg "are_unlike_names" dI ["things"] fU fdU)
  (DM:Def K mg "is_move" dY ["taken", "given"] fM fdM) (DP:Def K mg "places_of" ez ["moves", "start"] fP fdP):aM P w K mg base cW 4 f fd ["moves", "start"] (rA K):=by
 have GU:aM P w K mg base cW 2 fU fdU ["things"] (kh K):=lP DU.fn T DN
 have GM:aM P w K mg base cW 3 fM fdM ["taken", "given"] (oj K):=sW DM.fn T DN DU
 have GP:aM P w K mg base cW 1 fP fdP ["moves", "start"] (kE K):=lM DP.fn T
 refine F.oK nE λcdv A outer s H vs Q E hr h=>?_
 ·obtain⟨a,b,ms,st,rfl,ha,hb,hf,k⟩:=h
  obtain⟨qs,hq,hp⟩:=id ha
  obtain⟨t1,h1⟩:=T.mostM
  obtain⟨t2,h2⟩:=T.mostP
  refine⟨_,ah (cj (PW.pt (pw_or (bH BC (aD bu rfl T.len dM (aa (pv 0) ag)) (bb (v:=.int 12) rfl h1 ⟨t1,rfl⟩) (cu _))
    (pw_or1 (cK (bU (cH GU (hr.mono (by decide)) rfl DU.mg DU.fn.kp DU.bd .nil bF (aa (cE (N:=["move"]) (n:=1) (ci:=[]) rfl (bh (pv 0)) (o9 nE)
     (λz=>⟨kZ 0,cR,cN dC (pv 0) av (λ_ _=>rfl)⟩)) ag)))))))
    (aq (aH iN)) aZ)
   (ah (cj (PW.pt (pw_or (cK (bU (aD (kW rfl) rfl T.all uF (aa (cE (N:=["name", "taken", "given"]) (n:=3) (ci:=[]) rfl (bh (pv 0)) (o9 nE)
     (λz=>⟨gy rfl (aY (kZ 0) (aY (kZ 1) (aY (kZ 2) eV))),
      cR,cH GM hr rfl DM.mg DM.fn.kp DM.bd .nil bF (aa (pv 1) (aa (pv 2) ag))⟩)) ag))))
     (pw_or1 (cK (bU (cH GU (hr.mono (by decide)) rfl DU.mg DU.fn.kp DU.bd .nil bF (aa (pv 1) ag)))))))
    (aq (aH iN)) aZ)
   (aq (aH (dZ mm (aD bu rfl T.len dM (aa (cH GP (hr.mono (by decide)) rfl DP.mg DP.fn.kp DP.bd .nil bF (aa (pv 0) (aa (pv 1) ag))) ag)) (bb (v:=.int 12) rfl h2 ⟨t2,rfl⟩) (cu _))))),?_⟩
  try dsimp only[bz,Cx.ff,Cx.cG]
  have no:∀H',au H H'->ft ms st=false->Q (.bl false) H':=λH' sm e=>by rw[<-e];exact k H' sm
  have lq:qs.length=ms.length:=(EW hp).symm
  refine⟨_,rfl,_,ms.length,rfl,.inl ⟨_,hq,by rw[Et,lq]⟩,_,_,rfl,rfl,_,rfl,?_⟩
  by_cases c1:ms.length<=12
  ·rw[show decide (((ms.length:Nat):Int) > 12)=false from EZ (by lia)]
   refine br ?_
   refine⟨_,rfl,a,rfl,⟨_,hq⟩,λz D hD=>bN (a:=a) (xs:=qs.map V.ref) (λi ys H2=>ys=aw (names (ms.take i))/\H2 D=some (.lst ys)/\au H H2) ⟨rfl,ae,ak hD⟩ (λi ys H2 _ p=>p.2.2.seq hq) ?_ ?_⟩
   ·rintro i v ys H2 hi ⟨rfl,hys,sm⟩
    obtain⟨q,hqi,rfl⟩:=cX hi
    obtain⟨m,hm,hmv⟩:=bf hp hqi
    obtain⟨l,g,e1,e2,e3⟩:=hmv.same sm
    refine⟨_,rfl,q,_,0,_,rfl,rfl,cT.of e1,bY (j:=0) rfl,hys,?_,?_,ae,aF sm hD⟩
    ·rw[ao,names,Et,EL,E3]
     lia
    ·rw[ar hm]
     unfold names aw
     simp
   ·rintro ys H2 ⟨rfl,hys,sm⟩
    rw[Et,lq,EN]at hys
    refine⟨D,names ms,rfl,aR.of hys,hf.nm,λH3 s3=>⟨_,rfl,?_⟩⟩
    have sm3:au H H3:=sm.trans s3
    cases u1:unlike (names ms) with
    |false =>
     refine bM ?_
     exact no H3 sm3 (by unfold ft;rw[u1];simp)
    |true =>
     refine br ?_
     refine⟨_,rfl,a,rfl,⟨_,sm3.seq hq⟩,λz2 D2 hD2=>bN (a:=a) (xs:=qs.map V.ref) (λi ys H4=>ys=(ms.take i).map (λm=>V.bl (fq m.2.1 m.2.2))/\H4 D2=some (.lst ys)/\au H3 H4) ⟨rfl,ae,ak hD2⟩ (λi ys H4 _ p=>(sm3.trans p.2.2).seq hq) ?_ ?_⟩
     ·rintro i v ys H4 hi ⟨rfl,hys4,sm4⟩
      obtain⟨q,hqi,rfl⟩:=cX hi
      obtain⟨m,hm,hmv⟩:=bf hp hqi
      obtain⟨l,g,e1,e2,e3⟩:=hmv.same (sm3.trans sm4)
      have hmem:m∈ms:=EC hm
      refine⟨q,_,rfl,cT.of e1,rfl,_,_,rfl,_,_,rfl,_,_,rfl,rfl,?_⟩
      refine⟨_,rfl,_,rfl,l,g,m.2.1,m.2.2,rfl,aR.of e2,aR.of e3,hf.tk m hmem,hf.gv m hmem,λH5 s5=>⟨s5 _ _ hys4,?_,?_,ae,aF (sm4.trans s5) hD2⟩⟩
      ·rw[Et,EL,E3]
       lia
      ·rw[ar hm,EI]
       rfl
     ·rintro ys H4 ⟨rfl,hys4,sm4⟩
      rw[Et,lq,EN]at hys4
      have sm5:au H H4:=sm3.trans sm4
      refine⟨D2,ms.map (λm=>fq m.2.1 m.2.2),rfl,aR.of (by rw[hys4,Fo];rfl),_,rfl,?_⟩
      have ea:(ms.map (λm=>fq m.2.1 m.2.2)).all id=ms.all λm=>fq m.2.1 m.2.2:=by rw[Ij];rfl
      rw[ea]
      cases u2:ms.all λm=>fq m.2.1 m.2.2 with
      |false =>
       refine bM ?_
       refine bM ?_
       exact no H4 sm5 (by unfold ft;rw[u2];simp)
      |true =>
       refine br ?_
       refine⟨_,rfl,b,st,rfl,sm5.seq hb,hf.so,λH6 s6=>⟨_,rfl,?_⟩⟩
       have sm6:au H H6:=sm5.trans s6
       cases u3:unlike st with
       |false =>
        refine bM ?_
        exact no H6 sm6 (by unfold ft;rw[u3];simp)
       |true =>
        refine br ?_
        refine⟨_,rfl,_,rfl,a,b,ms,st,rfl,ha.same sm6,sm6.seq hb,hf.sum,hf.qN,λH7 p s7 np hp7=>?_⟩
        refine⟨_,(cD ms st).length,rfl,.inl ⟨_,aR.of hp7,(ao _).symm⟩,_,_,rfl,rfl,?_⟩
        have e:ft ms st=decide (((cD ms st).length:Int)<=12):=by
         unfold ft
         rw[EM c1,u1,u2,u3]
         simp only[HX]
         exact Hv.mpr (by lia)
        show Q (V.bl (decide (((cD ms st).length:Int)<=12))) H7
        rw[<-e]
        exact k H7 (sm6.trans s7)
  ·rw[show decide (((ms.length:Nat):Int) > 12)=true from EM (by lia)]
   refine bM ?_
   refine bM ?_
   exact no H (au.refl H) (by unfold ft;rw[decide_eq_false c1];rfl)
end Uf
end
section
namespace UfFin
open PySem UfSrt
theorem fz{α:Type}[DecidableEq α]:∀{l m:List α},l.Nodup->(∀x∈l,x∈m)->l.length<=m.length
 |[],m,_,_=>EV _
 |a::l,m,h,hs=>by
  obtain⟨h1,h2⟩:=Fi.mp h
  have ha:a∈m:=hs a EY
  have ih:=fz (l:=l) (m:=m.erase a) h2 λx hx=>by
   have hne:x≠a:=λe=>h1 (e ▸ hx)
   exact(List.mem_erase_of_ne hne).mpr (hs x (EK _ hx))
  rw[List.length_erase_of_mem ha]at ih
  have:=List.length_pos_of_mem ha
  rw[ER]
  lia
def subs{α:Type}:List α->List (List α)
 |[]=>[[]]
 |x::r=>subs r++(subs r).map (x :: ·)
theorem pO{α:Type}:∀l:List α,(subs l).length=2 ^ l.length
 |[]=>rfl
 |x::r=>by
  show(subs r++(subs r).map (x :: ·)).length=_
  rw[Eu,Et,pO r,ER,Nat.pow_succ]
  lia
theorem jF{α:Type}(p:α->Bool):∀l:List α,l.filter p∈subs l
 |[]=>by simp[subs]
 |x::r=>by
  have ih:=jF p r
  show List.filter p (x::r)∈subs r++(subs r).map (x :: ·)
  rw[Ht]
  split
  ·exact E7 _ (EH.mpr ⟨_,ih,rfl⟩)
  ·exact Fc _ ih
structure dh(l:List Str):Prop where
 pw:l.Pairwise le
 nd:l.Nodup
theorem dh.aI{l:List Str}(h:l.Nodup):dh (aI l):=⟨rb l,tj.mpr h⟩
def dh.ext{l m:List Str}(h:dh l)(h':dh m)(e:∀x,x∈l↔x∈m):l=m:=by
 refine pw_unique h.pw h'.pw ?_
 exact(IG h.nd h'.nd).mpr e
def dh.yq{l ps:List Str}(h:dh l)(hp:dh ps)(hs:∀x∈l,x∈ps):l∈subs ps:=by
 have e:l=ps.filter λx=>decide (x∈l):=by
  refine dh.ext h ⟨hp.pw.sublist GZ,hp.nd.sublist GZ⟩ λx=>?_
  rw[Fx]
  constructor
  ·intro hx
   exact⟨hs x hx,by simpa using hx⟩
  ·rintro⟨_,hx⟩
   simpa using hx
 rw[e]
 exact jF _ _
end UfFin
end
section
namespace Uf
open PySem L2 UfSrt
abbrev ra:Stmt:=top 49
abbrev j4:Stmt:=inClass ra 0
abbrev jH:Stmt:=inClass ra 1
abbrev iJ:Stmt:=inClass ra 2
abbrev fe:Stmt:=inClass ra 3
abbrev fT:Stmt:=inClass ra 4
abbrev fD:Stmt:=inClass ra 5
abbrev iH:Stmt:=inClass ra 6
def gN(aP aS aT aG:Addr):List (Str×V):=[("place_names",V.ref aP),("start_state",V.ref aS),("taken_by",V.ref aT),("given_by",V.ref aG)]
def Dc:(("start_state":Str) == "place_names")=false:=by decide +kernel
def Dx:(("taken_by":Str) == "place_names")=false:=by decide +kernel
def DO:(("given_by":Str) == "place_names")=false:=by decide +kernel
def Dl:(("taken_by":Str) == "start_state")=false:=by decide +kernel
def Dh:(("given_by":Str) == "start_state")=false:=by decide +kernel
def Cj:(("given_by":Str) == "taken_by")=false:=by decide +kernel
def Bl(a b c d:Addr):(gN a b c d).lookup ("place_names":Str)=some (V.ref a):=by simp[gN,List.lookup]
def Bs(a b c d:Addr):(gN a b c d).lookup ("start_state":Str)=some (V.ref b):=by simp[gN,List.lookup,Dc]
def rP(a b c d:Addr):(gN a b c d).lookup ("taken_by":Str)=some (V.ref c):=by simp[gN,List.lookup,Dx,Dl]
def y9(a b c d:Addr):(gN a b c d).lookup ("given_by":Str)=some (V.ref d):=by simp[gN,List.lookup,DO,Dh,Cj]
def dD(a b c d:Addr){x:Str}(h1:(x == "place_names")=false)(h2:(x == "start_state")=false)(h3:(x == "taken_by")=false)(h4:(x == "given_by")=false):(gN a b c d).lookup x=none:=by
 simp[gN,List.lookup,h1,h2,h3,h4]
def zK:¬(("place_names":Str)="start_state"):=by decide +kernel
def BD:¬(("place_names":Str)="taken_by"):=by decide +kernel
def Bo:¬(("start_state":Str)="taken_by"):=by decide +kernel
def Ea:¬(("place_names":Str)="given_by"):=by decide +kernel
def Dy:¬(("start_state":Str)="given_by"):=by decide +kernel
def C6:¬(("taken_by":Str)="given_by"):=by decide +kernel
def sM(a b c d:Addr):aQ "given_by" (V.ref d) (aQ "taken_by" (V.ref c) (aQ "start_state" (V.ref b) (aQ "place_names" (V.ref a) [])))=gN a b c d:=by
 simp[aQ,gN,zK,BD,Bo,Ea,Dy,C6]
structure iB(K:PySem.W.Frag)(C:Addr):Prop where
 cl:uv K C
 nP:bV K C "place_names"
 nS:bV K C "start_state"
 nT:bV K C "taken_by"
 nG:bV K C "given_by"
def fA(H:Hp)(sel:Mv->List Str)(ms:List Mv)(kvs:List (Key×V)):Prop:=Paired (λ(m:Mv) (kv:Key×V)=>kv.1=Sum.inr m.1/\∃t,kv.2=.ref t/\H t=some (.tup (aw (aI (sel m))))) ms kvs
def fA.same{H H':Hp}{sel:Mv->List Str}{ms:List Mv}{kvs:List (Key×V)}(s:∀b xs,H b=some (.tup xs)->H' b=some (.tup xs))(h:fA H sel ms kvs):fA H' sel ms kvs :=
 Paired.dy h λm kv ⟨e,t,h1,h2⟩=>⟨e,t,h1,s _ _ h2⟩
def fA.keys{H:Hp}{sel:Mv->List Str}{ms:List Mv}{kvs:List (Key×V)}(h:fA H sel ms kvs):kvs.map (·.1)=(names ms).map Sum.inr:=by
 induction h with
 |nil=>rfl
 |cons h t ih =>
  rw[Ff,h.1,ih]
  rfl
theorem fA.snoc{H:Hp}{sel:Mv->List Str}{ms:List Mv}{kvs:List (Key×V)}{m:Mv}{t:Addr}(h:fA H sel ms kvs)(ht:H t=some (.tup (aw (aI (sel m))))):fA H sel (ms++[m]) (kvs++[(Sum.inr m.1,.ref t)]) :=
 FW h ⟨rfl,t,rfl,ht⟩
theorem fA.none{H:Hp}{sel:Mv->List Str}{ms:List Mv}{kvs:List (Key×V)}{x:Str}(h:fA H sel ms kvs)(hx:x∉names ms):cA kvs (Sum.inr x:Key)=.none:=by
 cases e:cA kvs (Sum.inr x:Key) with
 |none=>rfl
 |some v =>
  have:=rV e
  rw[h.keys]at this
  obtain⟨y,hy,e2⟩:=EH.mp this
  cases e2
  exact absurd hy hx
theorem fA.get{H:Hp}{sel:Mv->List Str}{m:Mv}:∀{ms:List Mv} {kvs:List (Key×V)},fA H sel ms kvs->(names ms).Nodup->m∈ms->∃t,cA kvs (Sum.inr m.1:Key)=some (.ref t)/\H t=some (.tup (aw (aI (sel m))))
 |_,_,.nil,_,h=>by simp at h
 |m'::ms,_,.cons (b:=kv) h t,hn,hm=>by
  obtain⟨e,u,e1,e2⟩:=h
  obtain⟨n1,n2⟩:=Fi.mp (show(m'.1::names ms).Nodup from hn)
  rcases EB.mp hm with rfl|hm
  ·exact⟨u,by rw[bJ e,e1],e2⟩
  ·have ne:¬kv.1=(Sum.inr m.1:Key):=λz=>by
    rw[e]at z
    have z2:m'.1=m.1:=by injection z
    exact n1 (by rw[z2];exact EH.mpr ⟨m,hm,rfl⟩)
   rw[bA ne]
   exact fA.get t n2 hm
structure oz(C:Addr)(H:Hp)(p:Addr)(ms:List Mv)(st:List Str):Prop where
 ob:∃dx aP aS aT aG kT kG,H p=some (.ins C dx (gN aP aS aT aG))/\H aP=some (.tup (aw (cD ms st)))/\H aS=some (.tup (aw (aI st)))/\H aT=some (.dK kT)/\H aG=some (.dK kG)/\fA H (·.2.1) ms kT/\fA H (·.2.2) ms kG
theorem oz.same{C:Addr}{H H':Hp}{p:Addr}{ms:List Mv}{st:List Str}(s:au H H')(h:oz C H p ms st):oz C H' p ms st:=by
 obtain⟨dx,aP,aS,aT,aG,kT,kG,h1,h2,h3,h4,h5,h6,h7⟩:=h
 exact⟨dx,aP,aS,aT,aG,kT,kG,s _ _ h1,s _ _ h2,s _ _ h3,s _ _ h4,s _ _ h5,h6.same λb xs e=>s _ _ e,h7.same λb xs e=>s _ _ e⟩
def iu(p:Addr)(H H':Hp):Prop:=∀c o,H c=some o->c≠p->H' c=some o
def iu.refl(p:Addr)(H:Hp):iu p H H:=λ_ _ e _=>e
def iu.then{p:Addr}{H H1 H2:Hp}(b:iu p H H1)(s:au H1 H2):iu p H H2:=λc o e n=>s c o (b c o e n)
def iu.put{p:Addr}{H H1:Hp}{o:HO}(b:iu p H H1):iu p H (upd H1 p o):=λc u e n=>by rw[af n];exact b c u e n
def iu.new{p a:Addr}{H H1:Hp}{o:HO}(b:iu p H H1)(n:H a=none):iu p H (upd H1 a o):=λc u e nc=>by rw[af (ai e n)];exact b c u e nc
def iu.free{p a:Addr}{H H1:Hp}(b:iu p H H1)(n:H1 a=none)(hp:a≠p):H a=none:=by
 cases e:H a with
 |none=>rfl
 |some o=>rw[b a o e hp]at n;cases n
def iu.seq{K:PySem.W.Frag}{p C dx a:Addr}{H H1:Hp}{fs:List (Str×V)}{xs:List V}(b:iu p H H1)(hp:H p=some (.ins C dx fs))(h:aR K H a xs):aR K H1 a xs:=by
 rcases h with(h|⟨o,h⟩)|h
 ·exact .inl (.inl (b _ _ h (aJ h hp (by intro z;cases z))))
 ·exact .inl (.inr ⟨o,b _ _ h (aJ h hp (by intro z;cases z))⟩)
 ·exact .inr h
def iu.mv{p C dx q:Addr}{H H1:Hp}{fs:List (Str×V)}{m:Mv}(b:iu p H H1)(hp:H p=some (.ins C dx fs))(h:pK H m q):pK H1 m q:=by
 obtain⟨l,g,h1,h2,h3⟩:=h
 exact⟨l,g,b _ _ h1 (aJ h1 hp (by intro z;cases z)),b _ _ h2 (aJ h2 hp (by intro z;cases z)),b _ _ h3 (aJ h3 hp (by intro z;cases z))⟩
structure Sound(ms:List Mv)(st:List Str):Prop where
 ml:ms.length<=12
 nn:(names ms).all isNm=true
 nd:(names ms).Nodup
 mv:∀m∈ms,fq m.2.1 m.2.2=true
 su:unlike st=true
 pl:(cD ms st).length<=12
def j3{ms:List Mv}{st:List Str}(h:ft ms st=true):Sound ms st:=by
 unfold ft at h
 obtain⟨h1,h⟩:=ES.mp h
 obtain⟨h2,h⟩:=ES.mp h
 obtain⟨h3,h⟩:=ES.mp h
 obtain⟨h4,h5⟩:=ES.mp h
 obtain⟨h6,h7⟩:=ES.mp (show((names ms).all isNm&&decide (names ms).Nodup)=true from h2)
 exact⟨FE h1,h6,FE h7,λm hm=>Gb.mp h3 m hm,h4,FE h5⟩
def gU{xs:List Str}(h:unlike xs=true):xs.Nodup:=FE (ES.mp h).2
def Sound.Dj{ms:List Mv}{st:List Str}(h:Sound ms st):st.length<=12:=by
 refine ET (UfFin.fz (gU h.su) λx hx=>?_) h.pl
 unfold cD
 exact cQ.mpr (UfSet.m7.mpr (Fc _ hx))
def hU{tk gv:List Str}(h:fq tk gv=true):unlike tk=true/\unlike gv=true/\1<=tk.length/\tk.length<=4/\gv.length<=4:=by
 unfold fq at h
 obtain⟨h1,h⟩:=ES.mp h
 obtain⟨h2,h⟩:=ES.mp h
 obtain⟨h3,h⟩:=ES.mp h
 obtain⟨h4,h5⟩:=ES.mp h
 exact⟨h1,h2,FE h3,FE h4,FE h5⟩
inductive vY(K:PySem.W.Frag)(C:Addr)(vs:List V)(H:Hp)(Q:VK)(E:XK):Prop
 |mk (p dx a b:Addr) (ms:List Mv) (st:List Str) (_:vs=[.ref p,.ref a,.ref b]) (_:H p=some (.ins C dx [])) (_:mI K H a ms) (_:aR K H b (aw st)) (_:Fits ms st) (_:ft ms st=true) (_:∀H',oz C H' p ms st->(∀c o,H c=some o->c≠p->H' c=some o)->Q .non H')
def m8:az ["self", "moves", "start", "name", "taken", "given"] ["self", "moves", "start"] (aj j4):=gm
inductive C8(C:Addr)(H:Hp)(p a b dx aP aS aT aG:Addr)(ms:List Mv)(st:List Str)(i:Nat)(σ:St)(H6:Hp):Prop
 |mk (kT kG:List (Key×V)) (v3 v4 v5:Option V) (q0:σ=[some (.ref p),some (.ref a),some (.ref b),v3,v4,v5]) (q1:H6 p=some (.ins C dx (gN aP aS aT aG))) (q2:H6 aP=some (.tup (aw (cD ms st)))) (q3:H6 aS=some (.tup (aw (aI st)))) (q4:H6 aT=some (.dK kT)) (q5:H6 aG=some (.dK kG)) (q6:fA H6 (·.2.1) (ms.take i) kT) (q7:fA H6 (·.2.2) (ms.take i) kG) (q8:iu p H H6)
def C8.but{C:Addr}{H:Hp}{p a b dx aP aS aT aG:Addr}{ms:List Mv}{st:List Str}{i:Nat}{σ:St}{H6:Hp}(h:C8 C H p a b dx aP aS aT aG ms st i σ H6):iu p H H6:=by
 cases h
 assumption
def yI{f C fN fU fM fP fK:Addr}{fd fdN fdU fdM fdP fdK:FuncData}(F:d3 K "__init__" "Net.__init__" j4 f fd)(T:Txt K mg)(CT:iB K C)(DN:Def K mg "is_name" cv ["thing"] fN fdN)(DU:Def K mg "are_unlike_names" dI ["things"] fU fdU)
  (DM:Def K mg "is_move" dY ["taken", "given"] fM fdM) (DP:Def K mg "places_of" ez ["moves", "start"] fP fdP) (DK:Def K mg "makes_net" gO ["moves", "start"] fK fdK):aM P w K mg base cW 5 f fd ["self", "moves", "start"] (vY K C):=by
 have GP:aM P w K mg base cW 1 fP fdP ["moves", "start"] (kE K):=lM DP.fn T
 have GK:aM P w K mg base cW 4 fK fdK ["moves", "start"] (rA K):=wY DK.fn T DN DU DM DP
 refine F.oK m8 λcdv A outer s H vs Q E hr h=>?_
 ·obtain⟨p,dx,a,b,ms,st,rfl,hp,ha,hb,hf,hmk,k⟩:=h
  have hu:=gh hr
  refine⟨_,ah (cj (cK (bU (cH GK hr rfl DK.mg DK.fn.kp DK.bd .nil bF (aa (pv 1) (aa (pv 2) ag))))) lO aZ)
   (ah (dB (pv 0) (aX bE rfl T.tup fE (aa (cH GP (hr.mono (by decide)) rfl DP.mg DP.fn.kp DP.bd .nil bF (aa (pv 1) (aa (pv 2) ag))) ag)) rfl)
   (ah (dB (pv 0) (aX bE rfl T.tup fE (aa (aD dE rfl T.aI dO (aa (pv 2) ag)) ag)) rfl)
   (ah (dB (pv 0) iC rfl)
   (ah (dB (pv 0) iC rfl)
   (aq (dU Fg rfl (bh (pv 1)) (gy rfl (aY (la 3 m8) (aY (la 4 m8) (aY (la 5 m8) eV))))
    (ah (gZ hu (cM (pv 0) rfl) (pv 3) (aX bE rfl T.tup fE (aa (aD dE rfl T.aI dO (aa (pv 4) ag)) ag)) rfl)
    (aq (gZ hu (cM (pv 0) rfl) (pv 3) (aX bE rfl T.tup fE (aa (aD dE rfl T.aI dO (aa (pv 5) ag)) ag)) rfl))))))))),?_⟩
  clear hu
  dsimp only[bz,Cx.ff]
  have so:=j3 hmk
  obtain⟨qs,hq,hqp⟩:=id ha
  refine⟨_,rfl,_,rfl,a,b,ms,st,rfl,ha,hb,hf,λH1 s1=>⟨_,rfl,?_⟩⟩
  rw[hmk]
  refine br ?_
  refine⟨_,rfl,_,rfl,a,b,ms,st,rfl,ha.same s1,s1.seq hb,hf.sum,hf.qN,λH2 q1 s2 nq1 hq1=>⟨q1,_,rfl,.inl ⟨aR.of hq1,λaP nP=>?_⟩⟩⟩
  have sm2:au H H2:=s1.trans s2
  have hp2:=sm2 _ _ hp
  have pP:p≠aP:=ai hp2 nP
  refine⟨_,rfl,p,C,dx,_,rfl,(by rw[af pP];exact hp2),CT.cl,CT.nP,(by show 0<1000;decide),?_⟩
  have b3:iu p H (upd (upd H2 aP (.tup (aw (cD ms st)))) p (.ins C dx (aQ "place_names" (V.ref aP) []))):=(((iu.refl p H).then sm2).new (sm2.free nP)).put
  have e3P:(upd (upd H2 aP (.tup (aw (cD ms st)))) p (.ins C dx (aQ "place_names" (V.ref aP) []))) aP=some (.tup (aw (cD ms st))):=by rw[af pP.symm,ae]
  have e3p:(upd (upd H2 aP (.tup (aw (cD ms st)))) p (.ins C dx (aQ "place_names" (V.ref aP) []))) p=some (.ins C dx (aQ "place_names" (V.ref aP) [])):=ae
  generalize upd (upd H2 aP (.tup (aw (cD ms st)))) p (.ins C dx (aQ "place_names" (V.ref aP) []))=H3 at b3 e3P e3p ⊢
  refine⟨_,rfl,b,st,rfl,b3.seq hp hb,by have:=so.Dj;lia,λq2 nq2=>⟨q2,_,rfl,.inl ⟨aR.of ae,λaS nS=>?_⟩⟩⟩
  have p2:p≠q2:=ai e3p nq2
  have pS:p≠aS:=ai (by rw[af p2];exact e3p) nS
  have n2S:aS≠q2:=λz=>by rw[z,ae]at nS;cases nS
  have nS3:H3 aS=none:=by rw[af n2S]at nS;exact nS
  refine⟨_,rfl,p,C,dx,_,rfl,(by rw[af pS,af p2];exact e3p),CT.cl,CT.nS,(by show 1<1000;decide),?_⟩
  have b4:=(((b3.new (o:=.lst (aw (aI st))) (b3.free nq2 p2.symm)).new (o:=.tup (aw (aI st))) (b3.free nS3 pS.symm)).put (o:=.ins C dx (aQ "start_state" (V.ref aS) (aQ "place_names" (V.ref aP) []))))
  have PS:aP≠aS:=ai e3P nS3
  have P2:aP≠q2:=ai e3P nq2
  have e4P:(upd (upd (upd H3 q2 (.lst (aw (aI st)))) aS (.tup (aw (aI st)))) p (.ins C dx (aQ "start_state" (V.ref aS) (aQ "place_names" (V.ref aP) [])))) aP=some (.tup (aw (cD ms st))):=by rw[af pP.symm,af PS,af P2];exact e3P
  have e4S:(upd (upd (upd H3 q2 (.lst (aw (aI st)))) aS (.tup (aw (aI st)))) p (.ins C dx (aQ "start_state" (V.ref aS) (aQ "place_names" (V.ref aP) [])))) aS=some (.tup (aw (aI st))):=by rw[af pS.symm,ae]
  have e4p:(upd (upd (upd H3 q2 (.lst (aw (aI st)))) aS (.tup (aw (aI st)))) p (.ins C dx (aQ "start_state" (V.ref aS) (aQ "place_names" (V.ref aP) [])))) p=some (.ins C dx (aQ "start_state" (V.ref aS) (aQ "place_names" (V.ref aP) []))):=ae
  generalize upd (upd (upd H3 q2 (.lst (aw (aI st)))) aS (.tup (aw (aI st)))) p (.ins C dx (aQ "start_state" (V.ref aS) (aQ "place_names" (V.ref aP) [])))=H4 at b4 e4P e4S e4p ⊢
  intro aT nT
  have pT:p≠aT:=ai e4p nT
  refine⟨_,rfl,p,C,dx,_,rfl,(by rw[af pT];exact e4p),CT.cl,CT.nT,(by simp[aQ,zK]),?_⟩
  intro aG nG
  have pG:p≠aG:=λz=>by rw[<-z,ae]at nG;cases nG
  have GT:aG≠aT:=λz=>by rw[z,af pT.symm,ae]at nG;cases nG
  have nG4:H4 aG=none:=by rw[af pG.symm,af GT]at nG;exact nG
  refine⟨_,rfl,p,C,dx,_,rfl,(by rw[af pG];exact ae),CT.cl,CT.nG,(by simp[aQ,zK,BD,Bo]),?_⟩
  rw[sM]
  have nT0:H aT=none:=b4.free nT pT.symm
  have nG0:H aG=none:=b4.free nG4 pG.symm
  have b5:=(((b4.new (o:=.dK []) nT0).put (o:=.ins C dx (aQ "taken_by" (V.ref aT) (aQ "start_state" (V.ref aS) (aQ "place_names" (V.ref aP) []))))).new (o:=.dK []) nG0).put (o:=.ins C dx (gN aP aS aT aG))
  have PT:aP≠aT:=ai e4P nT
  have PG:aP≠aG:=ai e4P nG4
  have ST:aS≠aT:=ai e4S nT
  have SG:aS≠aG:=ai e4S nG4
  generalize hH5:upd (upd (upd (upd H4 aT (.dK [])) p (.ins C dx (aQ "taken_by" (V.ref aT) (aQ "start_state" (V.ref aS) (aQ "place_names" (V.ref aP) []))))) aG (.dK [])) p (.ins C dx (gN aP aS aT aG))=H5 at b5 ⊢
  have e5p:H5 p=some (.ins C dx (gN aP aS aT aG)):=by rw[<-hH5,ae]
  have e5P:H5 aP=some (.tup (aw (cD ms st))):=by rw[<-hH5,af pP.symm,af PG,af pP.symm,af PT];exact e4P
  have e5S:H5 aS=some (.tup (aw (aI st))):=by rw[<-hH5,af pS.symm,af SG,af pS.symm,af ST];exact e4S
  have e5T:H5 aT=some (.dK []):=by rw[<-hH5,af pT.symm,af GT.symm,af pT.symm,ae]
  have e5G:H5 aG=some (.dK []):=by rw[<-hH5,af pG.symm,ae]
  clear hH5
  have lq:qs.length=ms.length:=(EW hqp).symm
  refine⟨_,rfl,a,rfl,⟨_,b5.seq hp hq⟩,cO (K:=K) (a:=a) (xs:=qs.map V.ref) (C8 C H p a b dx aP aS aT aG ms st)
   ⟨[],[],none,none,none,rfl,e5p,e5P,e5S,e5T,e5G,.nil,.nil,b5⟩ (λi σ H6 _ h=>h.but.seq hp hq) ?_ ?_⟩
  ·rintro i v σ H6 hi ⟨kT,kG,v3,v4,v5,rfl,e6p,e6P,e6S,e6T,e6G,dT,dG,b6⟩
   obtain⟨q,hqi,rfl⟩:=cX hi
   obtain⟨m,hm,hmv⟩:=bf hqp hqi
   obtain⟨l,g,h1,h2,h3⟩:=b6.mv hp hmv
   have hmem:m∈ms:=EC hm
   obtain⟨_,_,_,tk4,gv4⟩:=hU (so.mv m hmem)
   have hnew:m.1∉names (ms.take i):=λz=>by
    have nd:=so.nd
    have e:names ms=names (ms.take i)++names (ms.drop i):=by
     unfold names
     rw[<-EI,FT]
    rw[e]at nd
    have hlt:i<ms.length:=(EF.mp hm).1
    have hin:m.1∈names (ms.drop i):=by
     refine EH.mpr ⟨m,?_,rfl⟩
     refine EC (i:=0) ?_
     rw[IB]
     exact hm
    exact(Fw.mp nd).2.2 _ z _ hin rfl
   have lT:kT.length=(ms.take i).length:=(EW dT).symm
   have lG:kG.length=(ms.take i).length:=(EW dG).symm
   have l12:(ms.take i).length<=12:=by rw[EL];have:=so.ml;lia
   refine⟨q,_,rfl,cT.of h1,rfl,_,_,rfl,_,_,rfl,_,_,rfl,rfl,?_⟩
   refine⟨_,rfl,l,m.2.1,rfl,aR.of h2,by lia,λq3 n3=>⟨q3,_,rfl,.inl ⟨aR.of ae,λt3 m3=>?_⟩⟩⟩
   have s7:au H6 (upd (upd H6 q3 (.lst (aw (aI m.2.1)))) t3 (.tup (aw (aI m.2.1)))):=(ak n3).trans (ak m3)
   have e7t:(upd (upd H6 q3 (.lst (aw (aI m.2.1)))) t3 (.tup (aw (aI m.2.1)))) t3=some (.tup (aw (aI m.2.1))):=ae
   have nt6:H6 t3=none:=(ak (o:=.lst (aw (aI m.2.1))) n3).free m3
   have b7:iu p H (upd (upd H6 q3 (.lst (aw (aI m.2.1)))) t3 (.tup (aw (aI m.2.1)))):=b6.then s7
   generalize upd (upd H6 q3 (.lst (aw (aI m.2.1)))) t3 (.tup (aw (aI m.2.1)))=H7 at s7 e7t b7 ⊢
   refine⟨_,rfl,p,C,dx,_,_,rfl,s7 _ _ e6p,CT.cl,CT.nT,rP _ _ _ _,_,rfl,aT,_,rfl,jK.k (k:=Sum.inr m.1) (s7 _ _ e6T) (jt (by lia)),?_⟩
   have pk:putK kT (Sum.inr m.1:Key) (V.ref t3)=kT++[(Sum.inr m.1,V.ref t3)]:=fm _ (dT.none hnew)
   rw[pk]
   have tT:∀{b:Addr} {xs:List V},H7 b=some (.tup xs)->b≠aT:=λe=>aJ e (s7 _ _ e6T) (by intro z;cases z)
   have e8T:(upd H7 aT (.dK (kT++[(Sum.inr m.1,V.ref t3)]))) aT=some (.dK (kT++[(Sum.inr m.1,V.ref t3)])):=ae
   have up8:∀{b:Addr} {o:HO},b≠aT->H7 b=some o->(upd H7 aT (.dK (kT++[(Sum.inr m.1,V.ref t3)]))) b=some o:=λn e=>by rw[af n];exact e
   have e8p:=up8 pT (s7 _ _ e6p)
   have e8P:=up8 PT (s7 _ _ e6P)
   have e8S:=up8 ST (s7 _ _ e6S)
   have e8G:=up8 GT (s7 _ _ e6G)
   have e8t:=up8 (tT e7t) e7t
   have dT8:fA (upd H7 aT (.dK (kT++[(Sum.inr m.1,V.ref t3)]))) (·.2.1) (ms.take i++[m]) (kT++[(Sum.inr m.1,V.ref t3)]):=(dT.same λb xs e=>up8 (tT (s7 _ _ e)) (s7 _ _ e)).snoc e8t
   have dG8:fA (upd H7 aT (.dK (kT++[(Sum.inr m.1,V.ref t3)]))) (·.2.2) (ms.take i) kG:=dG.same λb xs e=>up8 (tT (s7 _ _ e)) (s7 _ _ e)
   have e8g:=up8 (aJ (s7 _ _ h3) (s7 _ _ e6T) (by intro z;cases z)) (s7 _ _ h3)
   have b8:iu p H (upd H7 aT (.dK (kT++[(Sum.inr m.1,V.ref t3)]))):=b7.new nT0
   generalize upd H7 aT (.dK (kT++[(Sum.inr m.1,V.ref t3)]))=H8 at e8T e8p e8P e8S e8G dT8 dG8 e8g b8 ⊢
   refine⟨_,rfl,g,m.2.2,rfl,aR.of e8g,by lia,λq4 n4=>⟨q4,_,rfl,.inl ⟨aR.of ae,λt4 m4=>?_⟩⟩⟩
   have s9:au H8 (upd (upd H8 q4 (.lst (aw (aI m.2.2)))) t4 (.tup (aw (aI m.2.2)))):=(ak n4).trans (ak m4)
   have e9t:(upd (upd H8 q4 (.lst (aw (aI m.2.2)))) t4 (.tup (aw (aI m.2.2)))) t4=some (.tup (aw (aI m.2.2))):=ae
   have b9:iu p H (upd (upd H8 q4 (.lst (aw (aI m.2.2)))) t4 (.tup (aw (aI m.2.2)))):=b8.then s9
   generalize upd (upd H8 q4 (.lst (aw (aI m.2.2)))) t4 (.tup (aw (aI m.2.2)))=H9 at s9 e9t b9 ⊢
   refine⟨_,rfl,p,C,dx,_,_,rfl,s9 _ _ e8p,CT.cl,CT.nG,y9 _ _ _ _,_,rfl,aG,_,rfl,jK.k (k:=Sum.inr m.1) (s9 _ _ e8G) (jt (by lia)),?_⟩
   have pk2:putK kG (Sum.inr m.1:Key) (V.ref t4)=kG++[(Sum.inr m.1,V.ref t4)]:=fm _ (dG.none hnew)
   rw[pk2]
   have tG:∀{b:Addr} {xs:List V},H9 b=some (.tup xs)->b≠aG:=λe=>aJ e (s9 _ _ e8G) (by intro z;cases z)
   have up9:∀{b:Addr} {o:HO},b≠aG->H9 b=some o->(upd H9 aG (.dK (kG++[(Sum.inr m.1,V.ref t4)]))) b=some o:=λn e=>by rw[af n];exact e
   have tki:ms.take (i+1)=ms.take i++[m]:=ar hm
   refine⟨kT++[(Sum.inr m.1,V.ref t3)],kG++[(Sum.inr m.1,V.ref t4)],_,_,_,rfl,up9 pG (s9 _ _ e8p),up9 PG (s9 _ _ e8P),up9 SG (s9 _ _ e8S),up9 GT.symm (s9 _ _ e8T),ae,?_,?_,b9.new nG0⟩
   ·rw[tki]
    exact dT8.same λb xs e=>up9 (tG (s9 _ _ e)) (s9 _ _ e)
   ·rw[tki]
    exact(dG8.same λb xs e=>up9 (tG (s9 _ _ e)) (s9 _ _ e)).snoc (up9 (tG e9t) e9t)
  ·rintro σ H6 ⟨kT,kG,v3,v4,v5,rfl,e6p,e6P,e6S,e6T,e6G,dT,dG,b6⟩
   rw[Et,lq,EN]at dT dG
   exact k H6 ⟨dx,aP,aS,aT,aG,kT,kG,e6p,e6P,e6S,e6T,e6G,dT,dG⟩ b6
end Uf
end
section
namespace UfRev
open PySem PySem.W PySem.Calls PyProof.Rows PyProof.V PySem.Spec
def yn:typeLookup (.type "list_reverseiterator") "__len__"=pure none:=by rw[He,Ge];kernel_rfl
def wo:typeLookup (.type "list_reverseiterator") "__length_hint__"=pure (some (.builtin "list_reverseiterator.__length_hint__")):=by rw[He,Ge];kernel_rfl
def xX:isSubtype (.type "list_reverseiterator") (.type "list_reverseiterator")=pure true:=by rw[Iy];kernel_rfl
def tW:splitId "list_reverseiterator.__length_hint__"=some ("list_reverseiterator", "__length_hint__"):=by decide +kernel
def xu{r:Addr}{Q:Bool->Shared->Prop}(hT:s.TypeIs (.ref r) "list_reverseiterator")(h:Q false s):wpAny (model prog w) A (Builtin.List.listLengthHint (.ref r)) Q E s:=by
 unfold Builtin.List.listLengthHint
 refine Em (Ih hT yn ?_)
 show wpAny _ A (specialOf (Value.ref r) (Str.ofString "__length_hint__") >>= _) _ _ _
 refine Em (Ih hT wo ?_)
 dsimp only
 rw[tW]
 dsimp only
 refine Em (IW (T:="list_reverseiterator") (b:=true) hT xX ?_)
 refine Gw (λz=>absurd z (by decide)) (λ_=>?_)
 refine Gw (λ_=>?_) (λz=>absurd (by decide +kernel) z)
 refine Gw (λz=>absurd z (by decide)) (λ_=>?_)
 exact Eo h
def yD(items:Array Value):Nat->Value->Prop:=λi v=>items[items.size-1-i]?=some v
def xQ{R:Result->Shared->Prop}{r l:Addr}{items:Array Value}(hh:A.handled=none)(hr:s.heap.IsRevIter r l ((items.size:Int)-1))(hl:s.heap.IsList l items)(hne:l≠r)(S:Addr)(hSr:S≠r)(hSl:S≠l)(res:Value)(c₀:Nat)(hS:s.heap.get? S=some { cls:=.type "list",data:=.seq #[] c₀ })
  (hR:∀h' tk acc' c',(∀b o,b≠S->b≠r->s.heap.get? b=some o->h'.get? b=some o)->h'.get? S=some { cls:=.type "list",dict:=none,data:=.seq acc' c',slots:=#[] }->ItemsOf (yD items) acc' items.size->R (.ok (.ret res)) { s with heap:=h',toks:=tk }) (hn:items.size<=sizeLine) :
  wpAny (model prog w) A.in1 (Builtin.List.listExtendWith (.ref S) (.ref r) res)
   (λfin s'=>match fin with|.done f=>R (.ok f) s'|.again c'=>c'.quiet=true/\codeAny (model prog w) A c' R s') (λe s'=>R (.error e) s') s:=by
 have hSf:S∉[r,l]:=by simp only[EB,Ft,GY,JR];exact⟨hSr,hSl⟩
 have W:=Walks.listRev (prog:=prog) (w:=w) (A:=A.in1) hh r l hne items
 have st:0<=items.size/\s.heap.IsRevIter r l ((items.size:Int)-1-((0:Nat):Int))/\s.heap.IsList l items:=⟨EV _,by simpa using hr,hl⟩
 have key:∀(h:Heap) (c₁ tk:Nat),(0<=items.size/\h.IsRevIter r l ((items.size:Int)-1-((0:Nat):Int))/\h.IsList l items)->(∀b o,b≠S->s.heap.get? b=some o->h.get? b=some o) ->
   h.get? S=some { cls:=.type "list",data:=.seq #[] c₁ }->codeAny (model prog w) A (.builtin "list.extend.loop" ⟨[.ref S,.ref r,res],[]⟩) R { s with heap:=h,toks:=tk }:=by
  intro h c₁ tk hst hk hS₁
  refine codeAny_extend_loopS W.toS hn S hSf res items.size 0 _ #[] c₁ rfl (EV _) hst hS₁ (ItemsOf.nil _) λs' acc' c' hm hS' hacc=>?_
  rw[Moved.eq_with hm]
  refine hR s'.heap s'.toks acc' c' (λb o hb hbr e=>hm.heap b o (λhmem=>?_) (hk b o hb e)) hS' hacc
  rcases EB.mp hmem with e'|hmem
  ·exact hb e'
  ·exact hbr (Gm.mp hmem)
 have hT:s.TypeIs (.ref r) "list_reverseiterator":=hr.typeIs
 unfold Builtin.List.listExtendWith
 refine Em (HI (T:="list_reverseiterator") hT ?_)
 have h1:Builtin.List.listSameRef (.ref S) (.ref r)=false:=by simp[Builtin.List.listSameRef,hSr]
 have h2:(Value.type "list_reverseiterator" == Value.type "list")=false:=by decide
 have h3:(Value.type "list_reverseiterator" == Value.type "tuple")=false:=by decide
 simp only[h1,h2,h3,JC,HH,IS]
 refine Em (wpAny_pyIter_revIter hr ?_)
 refine Em (FJ (xu hT ?_))
 refine Gw (λz=>absurd z (by decide)) (λ_=>Eo ⟨GA HD _,key _ c₀ _ st (λb o _ e=>e) hS⟩)
def lx{r l:Addr}{items:Array Value}{Q:Value->Shared->Prop}(hh:A.handled=none)(hr:s.heap.IsRevIter r l ((items.size:Int)-1))(hl:s.heap.IsList l items)(hne:l≠r)(hn:items.size<=sizeLine)
  (hQ:∀h' tk acc' c',(∀b o,b≠r->s.heap.get? b=some o->h'.get? b=some o)->h'.get? s.heap.objs.size=some { cls:=.type "list",dict:=none,data:=.seq acc' c',slots:=#[] }->ItemsOf (yD items) acc' items.size->Q (.ref s.heap.objs.size) { s with heap:=h',toks:=tk }) :
  wpAny (model prog w) A (call (.type "list") [.ref r]) Q E s:=by
 refine callType_codes (Q₁:=λobj s₁=>obj=.ref s.heap.objs.size/\s₁={ s with heap:=s.heap.push { cls:=.type "list",data:=.seq #[] } }) PySem.F.called_list (PySem.F.typeCall_list_1 _) PySem.F.entry_list_init
  (code_list_new _ ⟨rfl,rfl⟩) λobj s₁ h₁=>?_
 obtain⟨rfl,rfl⟩:=h₁
 have hS:(s.heap.push { cls:=.type "list",data:=.seq #[] }).get? s.heap.objs.size=some { cls:=.type "list",data:=.seq #[] }:=Ew _ rfl
 have rlt:r<s.heap.objs.size:=let ⟨_,y,_⟩:=hr;Er y
 have llt:l<s.heap.objs.size:=let ⟨_,y,_⟩:=hl;Er y
 refine⟨⟨_,hS,rfl⟩,PySem.F.args_list_init_2 _ _,?_⟩
 show wpAny _ _ (do let old <-Builtin.List.listItems (.ref s.heap.objs.size);Builtin.List.listUpdate (.ref s.heap.objs.size) (λ_=>#[]);letGo old.toList.reverse;Builtin.List.listExtendWith (.ref s.heap.objs.size) (.ref r) .none) _ _ _
 refine Em ?_
 unfold Builtin.List.listItems
 refine Em (Jr hS rfl (Eo ?_))
 show wpAny _ _ (updateSeq s.heap.objs.size (λ_=>#[]) >>= λ_=>letGo (#[]:Array Value).toList.reverse >>= λ_=>Builtin.List.listExtendWith (.ref s.heap.objs.size) (.ref r) .none) _ _ _
 refine Em (Jk hS rfl ?_)
 have hS₂:=E8 (Obj.mapSeq (λ_=>(#[]:Array Value))) hS rfl
 have oth:∀b o,b≠s.heap.objs.size->(s.heap.push { cls:=.type "list",data:=.seq #[] }).get? b=some o->((s.heap.push { cls:=.type "list",data:=.seq #[] }).update s.heap.objs.size (Obj.mapSeq (λ_=>(#[]:Array Value)))).get? b=some o :=
  λb o hb e=>(EU _ _ (E2 hb)).trans e
 have up:∀b o,s.heap.get? b=some o->((s.heap.push { cls:=.type "list",data:=.seq #[] }).update s.heap.objs.size (Obj.mapSeq (λ_=>(#[]:Array Value)))).get? b=some o:=λb o e =>
  oth b o (Ez (Er e)) (En _ e)
 refine Em (wpAny_letGo ?_)
 refine xQ (A:=A.in1) hh (hr.at λo e=>up _ _ e) (hl.at λo e=>up _ _ e) hne _ (FK rlt) (FK llt) .none _ hS₂ (λh' tk acc' c' hk hS' hacc=>?_) hn
 exact⟨rfl,hQ h' tk acc' c' (λb o hb e=>hk b o (Ez (Er e)) hb (up b o e)) hS' hacc⟩
end UfRev
namespace L2
open PySem PySem.Spec PyProof.Rows UfSrt
def tL{its:List Value}{acc:Array Value}(h:ItemsOf (UfRev.yD its.toArray) acc its.toArray.size):acc.toList=its.reverse:=by
 obtain⟨h1,h2⟩:=h
 have h1:acc.size=its.length:=by rw[h1,ED]
 refine List.ext_getElem? λj=>?_
 rw[FR]
 by_cases hj:j<acc.size
 ·have e:acc[j]?=some acc[j]:=Array.getElem?_eq_getElem hj
  have:=h2 j _ e
  unfold UfRev.yD at this
  rw[ED]at this
  rw[e,List.getElem?_reverse (by lia),<-this]
  simp
 ·rw[Array.getElem?_eq_none (by lia),Ho (by rw[JK];lia)]
section
variable {X:Cx}
def boot_reversed:bootBuiltins "reversed"=some (.type "reversed"):=by decide +kernel
def vw(K:PySem.W.Frag)(t:TA):TE:=λσ H Q=>t σ H λvs H1=>∃l ys,vs=[.ref l]/\aR K H1 l ys/\∀q,H1 q=none->Q (.ref q) (upd H1 q (.lst ys.reverse))
def qq{e:Expr}{t:TA}{p1 p2 pos pos2:Pos}(hc:X.calm=true)(hg:Gl X "list")(hm:X.mg "list"=none)(hb:bootBuiltins "list"=some (.type "list"))(hg2:Gl X "reversed")(hm2:X.mg "reversed"=none)(ha:PA X [e] t)
  (he:starEach [.Call (.Name "reversed" p2) [e] [] pos2] X.env=[(false,eval (.Call (.Name "reversed" p2) [e] [] pos2) X.env)]:=by rfl) (he2:starEach [e] X.env=[(false,eval e X.env)]:=by rfl) :
  PE X (.Call (.Name "list" p1) [.Call (.Name "reversed" p2) [e] [] pos2] [] pos) (vw X.K t):=by
 intro pins s σ H Q I h
 refine Fp (ir I hg hm hb ?_)
 refine FZ ?_ he rfl
 rw[he]
 refine HF ?_
 refine Fp (ir I hg2 hm2 boot_reversed ?_)
 refine FZ (bo (ha pos2 pins s σ H _ I h) λus s1 hZ=>?_) he2 rfl
 obtain⟨vs,H1,I1,r1,l,ys,ev,hl,q⟩:=hZ
 subst ev
 obtain⟨u,rfl,ru⟩:=vals1 r1
 cases ru
 obtain⟨its,rv,pl,hz⟩:=I1.list hl
 have hlen:=rv.length
 have lt:l<s1.heap.objs.size:=let ⟨_,y,_⟩:=pl.isList;Er y
 refine call_reversed_list pl.isList ?_
 refine II ?_
 refine UfRev.lx (l:=l) (items:=its.toArray) (I.ok.hd hc) ⟨_,Ew _ rfl,rfl,rfl⟩ (pl.isList.push _) (Ez lt) (by rw[ED];lia) λh' tk acc c k hq hit=>?_
 have hn:H1 (s1.heap.push (revObj l ((its.toArray.size:Int)-1))).objs.size=none:=I1.hok.fresh (by rw[Fh];exact Fq _)
 refine⟨.ref _,upd H1 _ (.lst ys.reverse),I1.laid (t':=tk) (λb o e=>k b o (Ez (Er e)) (En _ e)) (by rw[Fh];exact Fq _) ⟨by rw[JK];exact hz,its.reverse,c,rv.reverse,?_⟩,rfl,q _ hn⟩
 rw[hq,<-tL hit]
end
end L2
end
section
namespace Uf
open PySem L2 UfB
abbrev BB:Stmt:=top 34
abbrev iw:Stmt:=inClass BB 0
abbrev oB:Stmt:=inClass BB 11
def ya{H:Hp}{a:Addr}{o:HO}(h:H a=some o):upd H a o=H:=by
 funext b
 by_cases e:b=a
 ·rw[e,ae,h]
 ·rw[af e]
structure AU(K:PySem.W.Frag)(C:Addr):Prop where
 cl:uv K C
 nN:bV K C "base_net"
 nS:bV K C "spot_tuples"
 nO:bV K C "occurrence_tuples"
 nH:bV K C "numbers_there"
 nW:bV K C "own_bits"
 nG:bV K C "given_bits"
 nB:bV K C "beside_bits"
 nT:bV K C "taker_bits"
 nP:bV K C "place_bits"
structure AdF(fs:List (Str×V))(aS aT aB aP:Addr):Prop where
 s:fs.lookup ("spot_tuples":Str)=some (.ref aS)
 t:fs.lookup ("taker_bits":Str)=some (.ref aT)
 b:fs.lookup ("beside_bits":Str)=some (.ref aB)
 p:fs.lookup ("place_bits":Str)=some (.ref aP)
def jc(pl:List (Str×Nat)):List (Key×V):=pl.map λp=>(Sum.inr p.1,nat p.2)
abbrev iL(H:Hp):List (Str×Option Nat)->List Addr->Prop:=Paired λp q=>H q=some (.tup [.str p.1,gv p.2])
structure BU(C:Addr)(H:Hp)(x dx:Addr)(fs:List (Str×V))(aS aT aB aP:Addr)(W:rh):Prop where
 ins:H x=some (.ins C dx fs)
 sp:∃qs,H aS=some (.lst (qs.map V.ref))/\iL H W.sp qs
 tk:H aT=some (.lst (nats W.tk))
 be:H aB=some (.lst (nats W.be))
 pl:H aP=some (.dK (jc W.pl))
def kD(as:List Addr)(H H':Hp):Prop:=∀c o,H c=some o->c∉as->H' c=some o
def yG{pl:List (Str×Nat)}{x:Str}(h:x∈pl.map (·.1)):∃m,cA (jc pl) (Sum.inr x:Key)=some (nat m):=by
 induction pl with
 |nil=>simp at h
 |cons p pl ih =>
  by_cases e:p.1=x
  ·refine⟨p.2,?_⟩
   show cA ((Sum.inr p.1,nat p.2)::jc pl) _=_
   exact bJ (by rw[e])
  ·have h2:x∈pl.map (·.1):=by
    rcases EB.mp h with z|z
    ·exact absurd z.symm e
    ·exact z
   obtain⟨m,hm⟩:=ih h2
   refine⟨m,?_⟩
   show cA ((Sum.inr p.1,nat p.2)::jc pl) _=_
   rw[bA (λz=>e (HS z))]
   exact hm
def yL{pl:List (Str×Nat)}{x:Str}{m n:Nat}(hn:(pl.map (·.1)).Nodup)(h:cA (jc pl) (Sum.inr x:Key)=some (nat m)):putK (jc pl) (Sum.inr x:Key) (nat (m ||| 2 ^ n))=jc (jf pl x n):=by
 have e1:((jc pl).any λkv=>decide (kv.1=(Sum.inr x:Key)))=true:=by rw[gC,h];rfl
 unfold putK
 rw[EG e1]
 clear e1
 induction pl with
 |nil=>rfl
 |cons p pl ih =>
  obtain⟨n1,n2⟩:=Fi.mp (show(p.1::pl.map (·.1)).Nodup from hn)
  have h':cA ((Sum.inr p.1,nat p.2)::jc pl) (Sum.inr x:Key)=some (nat m):=h
  by_cases e:p.1=x
  ·rw[bJ (show((Sum.inr p.1,nat p.2):Key×V).1=Sum.inr x by rw[e])]at h'
   have em:p.2=m:=by
    have:=EO h'
    unfold nat at this
    have:=V.int.inj this
    lia
   have rest:(jc pl).map (λkv=>if kv.1=(Sum.inr x:Key) then(kv.1,nat (m ||| 2 ^ n)) else kv)=jc (jf pl x n):=by
    have e2:jf pl x n=pl:=by
     unfold jf
     conv=>rhs;rw[<-JT pl]
     refine Ir λq hq=>?_
     rw[Ex (λz=>n1 (by rw[e,<-z];exact EH.mpr ⟨q,hq,rfl⟩))]
     rfl
    rw[e2]
    unfold jc
    rw[Fo]
    refine Ir λq hq=>?_
    show(if (Sum.inr q.1:Key)=Sum.inr x then _ else _)=_
    rw[Ex (λz=>n1 (by rw[e,<-HS z];exact EH.mpr ⟨q,hq,rfl⟩))]
   show(if (Sum.inr p.1:Key)=Sum.inr x then((Sum.inr p.1:Key),nat (m ||| 2 ^ n)) else(Sum.inr p.1,nat p.2))::(jc pl).map (λkv=>if kv.1=(Sum.inr x:Key) then(kv.1,nat (m ||| 2 ^ n)) else kv)=jc ((if p.1=x then(p.1,p.2 ||| 2 ^ n) else p)::jf pl x n)
   rw[EG (by rw[e]),EG e,rest,em]
   rfl
  ·rw[bA (λz=>e (HS z))]at h'
   have:=ih n2 h'
   show(if (Sum.inr p.1:Key)=Sum.inr x then((Sum.inr p.1:Key),nat (m ||| 2 ^ n)) else(Sum.inr p.1,nat p.2))::(jc pl).map (λkv=>if kv.1=(Sum.inr x:Key) then(kv.1,nat (m ||| 2 ^ n)) else kv)=jc ((if p.1=x then(p.1,p.2 ||| 2 ^ n) else p)::jf pl x n)
   rw[Ex (λz=>e (HS z)),Ex e,this]
   rfl
def uN{ks:List Nat}{j:Nat}(h:j<ks.length):(nats ks)[j]?=some (nat (ks.getD j 0)):=by
 unfold nats
 rw[E4,EA h,E5,EA h]
 rfl
def ja(ks:List Nat):(nats ks).length=ks.length:=by unfold nats;rw[List.length_map]
def lN(ks:List Nat)(k:Nat):nats ks++[nat k]=nats (ks++[k]):=by unfold nats;rw[List.map_append];rfl
def uX(ks:List Nat)(j k:Nat):(nats ks).set j (nat k)=nats (ks.set j k):=by unfold nats;rw[List.map_set]
def xW{n j:Nat}(h:j<n):xE n (j:Int)=some j:=by
 unfold xE
 rw[EG (by lia),EG (by lia),Fv]
def qE(bs js:List Nat)(j n:Nat):eL bs (js++[j]) n=yE (eL bs js n) j n:=by
 unfold eL
 rw[Hl]
 rfl
theorem kD.upd{as:List Addr}{H H':Hp}{a:Addr}{o:HO}(h:kD as H H')(ha:a∈as):kD as H (upd H' a o):=λc o' e n=>by
 rw[af (λz=>n (by rw[z];exact ha))]
 exact h c o' e n
def kD.same{as:List Addr}{H H' H'':Hp}(h:kD as H H')(s:au H' H''):kD as H H'':=λc o e n=>s _ _ (h c o e n)
def iL.put{H:Hp}{a:Addr}{o:List V}{o':HO}{l:List (Str×Option Nat)}{qs:List Addr}(h:iL H l qs)(ha:H a=some (.lst o)):iL (upd H a o') l qs :=
 Paired.dy h λp q e=>by rw[af (aJ e ha (λz=>nomatch z))];exact e
def iL.putD{H:Hp}{a:Addr}{o:List (Key×V)}{o':HO}{l:List (Str×Option Nat)}{qs:List Addr}(h:iL H l qs)(ha:H a=some (.dK o)):iL (upd H a o') l qs :=
 Paired.dy h λp q e=>by rw[af (aJ e ha (λz=>nomatch z))];exact e
inductive zy(C:Addr)(kind:List V->HO)(vs:List V)(H:Hp)(Q:VK)(E:XK):Prop
 |mk (x dx pa aS aT aB aP:Addr) (fs:List (Str×V)) (W:rh) (g:Option Nat) (b:Nat) (xs:List Str) (_:vs=[.ref x,.ref pa,gv g,nat b]) (_:AdF fs aS aT aB aP) (_:aS≠aT) (_:aS≠aB) (_:aT≠aB) (_:BU C H x dx fs aS aT aB aP W) (_:H pa=some (kind (aw xs))) (_:pa∉[aS,aT,aB,aP]) (_:kN (W,b) xs) (_:∀H',BU C H' x dx fs aS aT aB aP (cZ g (W,b) xs).1->kD [aS,aT,aB,aP] H H'->Q .non H')
def pz:az ["self", "places", "giver", "beside", "place", "number", "other"] ["self", "places", "giver", "beside"] (aj oB):=gm
inductive Cg(C:Addr)(H:Hp)(x dx pa aS aT aB aP:Addr)(fs:List (Str×V))(W:rh)(g:Option Nat)(b:Nat)(xs:List Str)(i:Nat)(σ:St)(H2:Hp):Prop
 |mk (v4 v5 v6:Option V) (q0:σ=[some (.ref x),some (.ref pa),some (gv g),some (nat (cZ g (W,b) (xs.take i)).2),v4,v5,v6]) (q1:BU C H2 x dx fs aS aT aB aP (cZ g (W,b) (xs.take i)).1) (q2:kD [aS,aT,aB,aP] H H2)
def Cg.but{C:Addr}{H:Hp}{x dx pa aS aT aB aP:Addr}{fs:List (Str×V)}{W:rh}{g:Option Nat}{b:Nat}{xs:List Str}{i:Nat}{σ:St}{H2:Hp}(h:Cg C H x dx pa aS aT aB aP fs W g b xs i σ H2):kD [aS,aT,aB,aP] H H2:=by
 cases h
 assumption
inductive AdJ(H5:Hp)(x pa aB ml:Addr)(g:Option Nat)(b n:Nat)(z:Str)(bs:List Nat)(i:Nat)(σ:St)(H6:Hp):Prop
 |mk (v6:Option V) (q0:σ=[some (.ref x),some (.ref pa),some (gv g),some (nat b),some (.str z),some (nat n),v6]) (q1:H6=upd H5 aB (.lst (nats (eL bs ((mem b).take i) n))))
def yb{f C:Addr}{fd:FuncData}(F:d3 K "add_spots" "Web.add_spots" oB f fd)(T:Txt K mg)(CT:AU K C)(DM:kA P w K mg base "members" dN ["bits"] 1 lX)
  (DB:kA P w K mg base "bit" nZ ["number"] 1 zD):aM P w K mg base cW 2 f fd ["self", "places", "giver", "beside"] (zy C .tup):=by
 refine F.oK pz λcdv A outer s H vs Q E hr h=>?_
 ·obtain⟨x,dx,pa,aS,aT,aB,aP,fs,W,g,b,xs,rfl,fa,nST,nSB,nTB,hW,hpa,npa,hfit,kk⟩:=h
  have hsl:=E1
  have hu:=gh hr
  refine⟨_,aq (dU Fg rfl (qv (pv 1)) (la 4 pz)
   (ah (eR 5 pz (aD bu rfl T.len dM (aa (cM (pv 0) rfl) ag)))
   (ah (bD (gS E6 E9 Fb bC (cM (pv 0) rfl) (aa (dF (aa (pv 4) (aa (pv 2) ag))) ag)))
   (ah (bD (gS E6 E9 Fb bC (cM (pv 0) rfl) (aa av ag)))
   (ah (bD (gS E6 E9 Fb bC (cM (pv 0) rfl) (aa (pv 3) ag)))
   (ah (dU Fg rfl (bh (jR DM hr (aa (pv 3) ag))) (la 6 pz)
    (aq (qX (aK uG (cN gW (cM (pv 0) rfl) (pv 6) (λ_ _=>rfl)) (jR DB hr (aa (pv 5) ag))) (AB (cM (pv 0) rfl) (pv 6) set_list))))
   (ah (gZ hu (cM (pv 0) rfl) (pv 4) (aK uG (eX hu (cM (pv 0) rfl) (pv 4) (λ_ _=>rfl)) (jR DB hr (aa (pv 5) ag))) rfl)
   (aq (eR 3 pz (aK uG (pv 3) (jR DB hr (aa (pv 5) ag)))))))))))),?_⟩
  clear hu
  dsimp only[bz,Cx.ff]
  have nT:pa≠aS/\pa≠aT/\pa≠aB/\pa≠aP:=by simpa using npa
  refine⟨_,rfl,pa,rfl,⟨_,cT.of hpa⟩,x6 (K:=K) (a:=pa) (xs:=aw xs) (Cg C H x dx pa aS aT aB aP fs W g b xs)
   ⟨none,none,none,rfl,hW,λ_ _ z _=>z⟩ (λi σ H2 _ h=>cT.of (h.but pa _ hpa npa)) ?_ ?_⟩
  ·rintro i v σ H2 hi ⟨v4,v5,v6,rfl,hA,but⟩
   obtain⟨z,hz,rfl⟩:=cz hi
   have hil:=(EF.mp hz).1
   have etk:=ar hz
   have fit:kN (cZ g (W,b) (xs.take i)) (z::xs.drop (i+1)):=by
    refine kN.u4 (g:=g) ?_
    have e:xs.take i++z::xs.drop (i+1)=xs:=by
     have:=FT (i+1) xs
     rw[etk,FY]at this
     exact this
    rw[e]
    exact hfit
   have ep:cZ g (W,b) (xs.take (i+1))=jq g (cZ g (W,b) (xs.take i)) z:=by rw[etk,ot]
   have goal:∀H',BU C H' x dx fs aS aT aB aP (jq g (cZ g (W,b) (xs.take i)) z).1->kD [aS,aT,aB,aP] H H'->∀v4 v5 v6,Cg C H x dx pa aS aT aB aP fs W g b xs (i+1) [some (.ref x),some (.ref pa),some (gv g),some (nat (jq g (cZ g (W,b) (xs.take i)) z).2),v4,v5,v6] H':=λH' h1 h2 v4 v5 v6=>⟨v4,v5,v6,by rw[ep],by rw[ep];exact h1,h2⟩
   generalize cZ g (W,b) (xs.take i)=p at hA fit goal ⊢
   clear ep etk hi hz hil
   obtain⟨⟨sp,tk,be,pl⟩,b1⟩:=p
   obtain⟨ins,⟨qs,hS,hq⟩,hT,hB,hP⟩:=hA
   have lq:qs.length=sp.length:=(EW hq).symm
   have f1:tk.length=sp.length:=fit.tk
   have f2:be.length=sp.length:=fit.be
   have f3:b1<2 ^ sp.length:=fit.lt
   have f4:sp.length+(z::xs.drop (i+1)).length<=250:=fit.qN
   rw[ER]at f4
   have f5:z∈pl.map (·.1):=fit.key z EY
   have f6:(pl.map (·.1)).Nodup:=fit.nd
   have f7:pl.length<=12:=fit.sm
   dsimp only at hS hq hT hB hP
   refine⟨_,rfl,x,C,dx,_,_,rfl,ins,CT.cl,CT.nS,fa.s,_,sp.length,rfl,.inl ⟨_,aR.of hS,by rw[Et,lq]⟩,?_⟩
   refine⟨_,rfl,x,C,dx,_,_,rfl,ins,CT.cl,CT.nS,fa.s,.inl ⟨rfl,_,aR.of hS⟩,_,rfl,_,rfl,by show 2<=sizeLine;lia,λq nq=>?_⟩
   refine xF nq λH3 s3 hq3=>?_
   have hS3:=s3 _ _ hS
   have sq3:iL H3 (sp++[(z,g)]) (qs++[q]):=FW (Paired.dy hq λp q e=>s3 _ _ e) hq3
   refine⟨aS,_,_,rfl,rfl,hS3,by rw[Et];lia,?_⟩
   have es:qs.map V.ref++[V.ref q]=(qs++[q]).map V.ref:=by rw[EI];rfl
   rw[es]
   have xS:x≠aS:=aJ ins hS (λz=>nomatch z)
   have xT:x≠aT:=aJ ins hT (λz=>nomatch z)
   have xB:x≠aB:=aJ ins hB (λz=>nomatch z)
   have xP:x≠aP:=aJ ins hP (λz=>nomatch z)
   have SP:aS≠aP:=aJ hS hP (λz=>nomatch z)
   have TP:aT≠aP:=aJ hT hP (λz=>nomatch z)
   have BP:aB≠aP:=aJ hB hP (λz=>nomatch z)
   have b4:kD [aS,aT,aB,aP] H (upd H3 aS (.lst ((qs++[q]).map V.ref))):=(but.same s3).upd (by simp)
   have i4:(upd H3 aS (.lst ((qs++[q]).map V.ref))) x=some (.ins C dx fs):=by rw[af xS];exact s3 _ _ ins
   have S4:(upd H3 aS (.lst ((qs++[q]).map V.ref))) aS=some (.lst ((qs++[q]).map V.ref)):=ae
   have T4:(upd H3 aS (.lst ((qs++[q]).map V.ref))) aT=some (.lst (nats tk)):=by rw[af nST.symm];exact s3 _ _ hT
   have B4:(upd H3 aS (.lst ((qs++[q]).map V.ref))) aB=some (.lst (nats be)):=by rw[af nSB.symm];exact s3 _ _ hB
   have P4:(upd H3 aS (.lst ((qs++[q]).map V.ref))) aP=some (.dK (jc pl)):=by rw[af SP.symm];exact s3 _ _ hP
   have q4:=iL.put (o':=.lst ((qs++[q]).map V.ref)) sq3 hS3
   generalize upd H3 aS (.lst ((qs++[q]).map V.ref))=H4 at b4 i4 S4 T4 B4 P4 q4 ⊢
   refine⟨_,rfl,x,C,dx,_,_,rfl,i4,CT.cl,CT.nT,fa.t,.inl ⟨rfl,_,aR.of T4⟩,aT,_,_,rfl,rfl,T4,by rw[ja];lia,?_⟩
   have et:nats tk++[V.int 0]=nats (tk++[0]):=lN tk 0
   rw[et]
   have b5:=b4.upd (a:=aT) (o:=.lst (nats (tk++[0]))) (by simp)
   have i5:(upd H4 aT (.lst (nats (tk++[0])))) x=some (.ins C dx fs):=by rw[af xT];exact i4
   have S5:(upd H4 aT (.lst (nats (tk++[0])))) aS=some (.lst ((qs++[q]).map V.ref)):=by rw[af nST];exact S4
   have T5:(upd H4 aT (.lst (nats (tk++[0])))) aT=some (.lst (nats (tk++[0]))):=ae
   have B5:(upd H4 aT (.lst (nats (tk++[0])))) aB=some (.lst (nats be)):=by rw[af nTB.symm];exact B4
   have P5:(upd H4 aT (.lst (nats (tk++[0])))) aP=some (.dK (jc pl)):=by rw[af TP.symm];exact P4
   have q5:=iL.put (o':=.lst (nats (tk++[0]))) q4 T4
   generalize upd H4 aT (.lst (nats (tk++[0])))=H5 at b5 i5 S5 T5 B5 P5 q5 ⊢
   refine⟨_,rfl,x,C,dx,_,_,rfl,i5,CT.cl,CT.nB,fa.b,.inl ⟨rfl,_,aR.of B5⟩,_,rfl,aB,_,_,rfl,rfl,B5,by rw[ja];lia,?_⟩
   rw[lN]
   have b6:=b5.upd (a:=aB) (o:=.lst (nats (be++[b1]))) (by simp)
   have i6:(upd H5 aB (.lst (nats (be++[b1])))) x=some (.ins C dx fs):=by rw[af xB];exact i5
   have S6:(upd H5 aB (.lst (nats (be++[b1])))) aS=some (.lst ((qs++[q]).map V.ref)):=by rw[af nSB];exact S5
   have T6:(upd H5 aB (.lst (nats (be++[b1])))) aT=some (.lst (nats (tk++[0]))):=by rw[af nTB];exact T5
   have B6:(upd H5 aB (.lst (nats (be++[b1])))) aB=some (.lst (nats (be++[b1]))):=ae
   have P6:(upd H5 aB (.lst (nats (be++[b1])))) aP=some (.dK (jc pl)):=by rw[af BP.symm];exact P5
   have q6:=iL.put (o':=.lst (nats (be++[b1]))) q5 B5
   generalize upd H5 aB (.lst (nats (be++[b1])))=H6 at b6 i6 S6 T6 B6 P6 q6 ⊢
   have b256:b1<2 ^ 256:=EE f3 (Hu (by decide) (by lia))
   refine⟨_,rfl,b1,rfl,b256,λH7 ml s7 nml hml=>?_⟩
   have mB:ml≠aB:=(ai B6 nml).symm
   have b7:=b6.same s7
   have i7:=s7 _ _ i6
   have S7:=s7 _ _ S6
   have T7:=s7 _ _ T6
   have B7:=s7 _ _ B6
   have P7:=s7 _ _ P6
   have q7:iL H7 (sp++[(z,g)]) (qs++[q]):=Paired.dy q6 λp q e=>s7 _ _ e
   clear s7 nml
   refine⟨ml,rfl,⟨_,aR.of hml⟩,cO (K:=K) (a:=ml) (xs:=nats (mem b1)) (AdJ H7 x pa aB ml g b1 sp.length z (be++[b1]))
    ⟨_,rfl,?_⟩ (λj σ H8 _ h=>?_) ?_ ?_⟩
   ·show H7=upd H7 aB (.lst (nats (be++[b1])))
    rw[ya B7]
   ·obtain⟨v6,_,rfl⟩:=h
    refine aR.of ?_
    rw[af mB]
    exact hml
   ·rintro j v σ H8 hj ⟨v6,rfl,rfl⟩
    obtain⟨k,hk,rfl⟩:∃k,(mem b1)[j]?=some k/\v=nat k:=by
     unfold nats at hj
     rw[E4]at hj
     obtain⟨k,e1,e2⟩:=Hi.mp hj
     exact⟨k,e1,e2.symm⟩
    have kl:k<sp.length:=Aa f3 (EC hk)
    have ol:(eL (be++[b1]) ((mem b1).take j) sp.length).length=sp.length+1:=by rw[jd,Eu,f2];rfl
    have e8:(upd H7 aB (.lst (nats (eL (be++[b1]) ((mem b1).take j) sp.length)))) aB=some (.lst (nats (eL (be++[b1]) ((mem b1).take j) sp.length))):=ae
    have i8:(upd H7 aB (.lst (nats (eL (be++[b1]) ((mem b1).take j) sp.length)))) x=some (.ins C dx fs):=by rw[af xB];exact i7
    refine⟨_,rfl,x,C,dx,_,_,rfl,i8,CT.cl,CT.nB,fa.b,_,rfl,aB,_,_,_,rfl,rfl,aR.of e8,bY (uN (by rw[ol];lia)),_,rfl,sp.length,rfl,by lia,_,_,rfl,rfl,?_⟩
    dsimp only[nat]
    rw[nz]
    refine⟨_,rfl,x,C,dx,_,_,rfl,i8,CT.cl,CT.nB,fa.b,_,rfl,aB,_,_,k,rfl,rfl,e8,xW (by rw[ja,ol];lia),?_⟩
    refine⟨_,rfl,?_⟩
    rw[x9,ar hk,qE]
    have:=uX (eL (be++[b1]) ((mem b1).take j) sp.length) k ((eL (be++[b1]) ((mem b1).take j) sp.length).getD k 0 ||| 2 ^ sp.length)
    unfold nat at this
    rw[this]
    rfl
   ·rintro σ H8 ⟨v6,rfl,rfl⟩
    rw[ja,EN]
    generalize hbe:eL (be++[b1]) (mem b1) sp.length=be2
    have b8:=b7.upd (a:=aB) (o:=.lst (nats be2)) (by simp)
    have i8:(upd H7 aB (.lst (nats be2))) x=some (.ins C dx fs):=by rw[af xB];exact i7
    have S8:(upd H7 aB (.lst (nats be2))) aS=some (.lst ((qs++[q]).map V.ref)):=by rw[af nSB];exact S7
    have T8:(upd H7 aB (.lst (nats be2))) aT=some (.lst (nats (tk++[0]))):=by rw[af nTB];exact T7
    have B8:(upd H7 aB (.lst (nats be2))) aB=some (.lst (nats be2)):=ae
    have P8:(upd H7 aB (.lst (nats be2))) aP=some (.dK (jc pl)):=by rw[af BP.symm];exact P7
    have q8:=iL.put (o':=.lst (nats be2)) q7 B7
    generalize upd H7 aB (.lst (nats be2))=H8 at b8 i8 S8 T8 B8 P8 q8 ⊢
    obtain⟨m,hm⟩:=yG f5
    have dg:eQ H8 aP (V.str z) (some (nat m)):=by rw[<-hm];exact eQ.k (k:=Sum.inr z) P8
    refine⟨_,rfl,x,C,dx,_,_,rfl,i8,CT.cl,CT.nP,fa.p,_,rfl,aP,nat m,rfl,dg,_,rfl,sp.length,rfl,by lia,_,_,rfl,rfl,?_⟩
    dsimp only[nat]
    rw[nz]
    refine⟨_,rfl,x,C,dx,_,_,rfl,i8,CT.cl,CT.nP,fa.p,_,rfl,aP,_,rfl,jK.k (k:=Sum.inr z) P8 (by unfold jc;rw[List.length_map];lia),?_⟩
    have pk:=yL (n:=sp.length) f6 hm
    unfold nat at pk
    rw[pk]
    refine⟨_,rfl,_,rfl,sp.length,rfl,by lia,_,_,rfl,rfl,?_⟩
    dsimp only[nat]
    rw[nz]
    refine goal _ ⟨?_,⟨qs++[q],?_,?_⟩,?_,?_,?_⟩ (b8.upd (by simp)) _ _ _
    ·rw[af xP];exact i8
    ·rw[af SP];exact S8
    ·exact iL.putD q8 P8
    ·rw[af TP];exact T8
    ·rw[af BP,B8,<-hbe];rfl
    ·exact ae
  ·rintro σ H2 ⟨v4,v5,v6,rfl,hA,but⟩
   rw[ao,EN]at hA
   exact kk H2 hA but
end Uf
end
section
namespace Uf
open PySem L2 UfSrt
structure jL(K:PySem.W.Frag)(C:Addr)(x q:Str)(st:Stmt)(ps:List Str)(f:Addr)(fd:FuncData):Prop where
 fn:d3 K x q st f fd
 mt:Meth K C x f
 bd:Binds K fd ps []
structure vZ(P:Program)(w:World)(K:PySem.W.Frag)(mg:Str->Option Value)(base:Heap)(C:Addr)(x q:Str)(st:Stmt)(ps:List Str)(k:Nat)(sp:Sp) where
 f:Addr
 fd:FuncData
 d:jL K C x q st ps f fd
 g:aM P w K mg base cW k f fd ps sp
structure bK(C:Addr)(H:Hp)(p:Addr)(ms:List Mv)(st:List Str):Prop where
 at':oz C H p ms st
 so:Sound ms st
 tb:H TB=some wx
theorem bK.same{C:Addr}{H H':Hp}{p:Addr}{ms:List Mv}{st:List Str}(s:au H H')(h:bK C H p ms st):bK C H' p ms st:=⟨h.at'.same s,h.so,s _ _ h.tb⟩
theorem Sound.isNm{ms:List Mv}{st:List Str}(h:Sound ms st){m:Mv}(hm:m∈ms):Uf.isNm m.1=true:=Gb.mp h.nn _ (EH.mpr ⟨m,hm,rfl⟩)
def kU{x:Str}(h:isNm x=true):x.length<=8:=by
 unfold isNm at h
 have:=(ES.mp (ES.mp h).2).1
 exact FE this
inductive qY(C:Addr)(vs:List V)(H:Hp)(Q:VK)(E:XK):Prop
 |mk (p:Addr) (ms:List Mv) (st:List Str) (_:vs=[.ref p]) (_:bK C H p ms st) (_:∀H' q,au H H'->H q=none->H' q=some (.lst (aw (aI (names ms))))->Q (.ref q) H')
def A5:az ["self"] ["self"] (aj iJ):=gm
def xR{f C:Addr}{fd:FuncData}(F:d3 K "moves" "Net.moves" iJ f fd)(T:Txt K mg)(CT:iB K C):aM P w K mg base cW 1 f fd ["self"] (qY C):=by
 refine F.oK A5 λcdv A outer s H vs Q E hr h=>?_
 ·obtain⟨p,ms,st,rfl,N,k⟩:=h
  obtain⟨dx,aP,aS,aT,aG,kT,kG,h1,h2,h3,h4,h5,h6,h7⟩:=N.at'.ob
  refine⟨_,aq (aH (aD (qH rfl) rfl T.aI dO (aa (cM (pv 0) rfl) ag))),?_⟩
  try dsimp only[bz,Cx.ff,Cx.cG]
  refine⟨_,rfl,p,C,dx,_,_,rfl,h1,CT.cl,CT.nT,rP _ _ _ _,aT,kT,names ms,rfl,.inl h4,h6.keys,?_,λq nq=>k _ q (ak nq) nq ae⟩
  have:=N.so.ml
  unfold names
  rw[Et]
  lia
inductive nU(C:Addr)(vs:List V)(H:Hp)(Q:VK)(E:XK):Prop
 |mk (p:Addr) (ms:List Mv) (st:List Str) (_:vs=[.ref p]) (_:bK C H p ms st) (_:∀q,H q=some (.tup (aw (aI st)))->Q (.ref q) H)
def yh:az ["self"] ["self"] (aj fD):=gm
def wm{f C:Addr}{fd:FuncData}(F:d3 K "start" "Net.start" fD f fd)(CT:iB K C):aM P w K mg base cW 1 f fd ["self"] (nU C):=by
 refine F.oK yh λcdv A outer s H vs Q E hr h=>?_
 ·obtain⟨p,ms,st,rfl,N,k⟩:=h
  obtain⟨dx,aP,aS,aT,aG,kT,kG,h1,h2,h3,h4,h5,h6,h7⟩:=N.at'.ob
  refine⟨_,aq (aH (cM (pv 0) rfl)),?_⟩
  try dsimp only[bz,Cx.ff,Cx.cG]
  exact⟨_,rfl,p,C,dx,_,_,rfl,h1,CT.cl,CT.nS,Bs _ _ _ _,k aS h3⟩
inductive qB(C:Addr)(vs:List V)(H:Hp)(Q:VK)(E:XK):Prop
 |mk (p:Addr) (ms:List Mv) (st:List Str) (m:Mv) (_:vs=[.ref p,.str m.1]) (_:bK C H p ms st) (_:m∈ms) (_:∀H',au H H'->Q .non H')
def AJ:az ["self", "move"] ["self", "move"] (aj iH):=gm
def rm{f C fN:Addr}{fd fdN:FuncData}(F:d3 K "must_have" "Net.must_have" iH f fd)(T:Txt K mg)(CT:iB K C)(DN:Def K mg "is_name" cv ["thing"] fN fdN):aM P w K mg base cW 2 f fd ["self", "move"] (qB C):=by
 have GN:aM P w K mg base cW 1 fN fdN ["thing"] jZ:=mL DN.fn T
 refine F.oK AJ λcdv A outer s H vs Q E hr h=>?_
 ·obtain⟨p,ms,st,m,rfl,N,hm,k⟩:=h
  have hu:=gh hr
  refine⟨_,aq (cj (PW.pt (pw_or (cK (bU (cH GN hr rfl DN.mg DN.fn.kp DN.bd .nil bF (aa (pv 1) ag)))) (pw_or1 (gI (hV hu (pv 1) (cM (pv 0) rfl)))))) lO aZ),?_⟩
  clear hu
  dsimp only[bz,Cx.ff]
  have hnm:=N.so.isNm hm
  refine⟨_,rfl,m.1,rfl,by have:=kU hnm;lia,λH1 s1=>⟨_,rfl,?_⟩⟩
  obtain⟨dx,aP,aS,aT,aG,kT,kG,h1,h2,h3,h4,h5,h6,h7⟩:=(N.at'.same s1).ob
  rw[hnm]
  refine br ?_
  obtain⟨t,e,_⟩:=h6.get N.so.nd hm
  refine⟨_,rfl,_,rfl,p,C,dx,_,_,rfl,h1,CT.cl,CT.nT,rP _ _ _ _,aT,_,rfl,eQ.k (k:=Sum.inr m.1) h4,_,rfl,?_⟩
  rw[e]
  refine br ?_
  exact k H1 s1
inductive kB(C:Addr)(sel:Mv->List Str)(vs:List V)(H:Hp)(Q:VK)(E:XK):Prop
 |mk (p:Addr) (ms:List Mv) (st:List Str) (m:Mv) (_:vs=[.ref p,.str m.1]) (_:bK C H p ms st) (_:m∈ms) (_:∀H' q,au H H'->H q=none->H' q=some (.lst (aw (aI (sel m))))->Q (.ref q) H')
def yw:az ["self", "move"] ["self", "move"] (aj fe):=gm
def ym:az ["self", "move"] ["self", "move"] (aj fT):=gm
def yX:(("must_have":Str) == "place_names")=false:=by decide +kernel
def zg:(("must_have":Str) == "start_state")=false:=by decide +kernel
def zF:(("must_have":Str) == "taken_by")=false:=by decide +kernel
def yV:(("must_have":Str) == "given_by")=false:=by decide +kernel
def wR{f C fN fH:Addr}{fd fdN fdH:FuncData}(F:d3 K "takes" "Net.takes" fe f fd)(T:Txt K mg)(CT:iB K C)(DN:Def K mg "is_name" cv ["thing"] fN fdN)(DH:jL K C "must_have" "Net.must_have" iH ["self", "move"] fH fdH) :
  aM P w K mg base cW 3 f fd ["self", "move"] (kB C (·.2.1)):=by
 have GH:aM P w K mg base cW 2 fH fdH ["self", "move"] (qB C):=rm DH.fn T CT DN
 refine F.oK yw λcdv A outer s H vs Q E hr h=>?_
 ·obtain⟨p,ms,st,m,rfl,N,hm,k⟩:=h
  have hu:=gh hr
  refine⟨_,ah (bD (eU (pv 0) CT.cl DH.mt GH hr DH.bd .nil bF (aa (pv 1) ag))) (aq (aH (aX bj rfl T.lst dS (aa (eX hu (cM (pv 0) rfl) (pv 1) (λ_ _=>rfl)) ag)))),?_⟩
  clear hu
  dsimp only[bz,Cx.ff]
  obtain⟨dx,aP,aS,aT,aG,kT,kG,h1,h2,h3,h4,h5,h6,h7⟩:=N.at'.ob
  refine⟨_,rfl,p,dx,_,rfl,h1,dD _ _ _ _ yX zg zF yV,_,rfl,p,ms,st,m,rfl,N,hm,λH1 s1=>?_⟩
  obtain⟨t,e,ht⟩:=(h6.same λb xs e=>s1 _ _ e).get N.so.nd hm
  refine⟨_,rfl,p,C,dx,_,_,rfl,s1 _ _ h1,CT.cl,CT.nT,rP _ _ _ _,_,rfl,aT,_,rfl,(by rw[<-e];exact eQ.k (k:=Sum.inr m.1) (s1 _ _ h4)),t,_,rfl,.inr (cT.of ht),λq nq=>?_⟩
  exact k _ q (s1.trans (ak nq)) (s1.free nq) ae
def vE{f C fN fH:Addr}{fd fdN fdH:FuncData}(F:d3 K "gives" "Net.gives" fT f fd)(T:Txt K mg)(CT:iB K C)(DN:Def K mg "is_name" cv ["thing"] fN fdN)(DH:jL K C "must_have" "Net.must_have" iH ["self", "move"] fH fdH) :
  aM P w K mg base cW 3 f fd ["self", "move"] (kB C (·.2.2)):=by
 have GH:aM P w K mg base cW 2 fH fdH ["self", "move"] (qB C):=rm DH.fn T CT DN
 refine F.oK ym λcdv A outer s H vs Q E hr h=>?_
 ·obtain⟨p,ms,st,m,rfl,N,hm,k⟩:=h
  have hu:=gh hr
  refine⟨_,ah (bD (eU (pv 0) CT.cl DH.mt GH hr DH.bd .nil bF (aa (pv 1) ag))) (aq (aH (aX bj rfl T.lst dS (aa (eX hu (cM (pv 0) rfl) (pv 1) (λ_ _=>rfl)) ag)))),?_⟩
  clear hu
  dsimp only[bz,Cx.ff]
  obtain⟨dx,aP,aS,aT,aG,kT,kG,h1,h2,h3,h4,h5,h6,h7⟩:=N.at'.ob
  refine⟨_,rfl,p,dx,_,rfl,h1,dD _ _ _ _ yX zg zF yV,_,rfl,p,ms,st,m,rfl,N,hm,λH1 s1=>?_⟩
  obtain⟨t,e,ht⟩:=(h7.same λb xs e=>s1 _ _ e).get N.so.nd hm
  refine⟨_,rfl,p,C,dx,_,_,rfl,s1 _ _ h1,CT.cl,CT.nG,y9 _ _ _ _,_,rfl,aG,_,rfl,(by rw[<-e];exact eQ.k (k:=Sum.inr m.1) (s1 _ _ h5)),t,_,rfl,.inr (cT.of ht),λq nq=>?_⟩
  exact k _ q (s1.trans (ak nq)) (s1.free nq) ae
abbrev fV:Stmt:=top 24
abbrev d9:Stmt:=top 25
abbrev eY:Stmt:=top 26
abbrev pW:Stmt:=top 27
abbrev dR:Stmt:=top 28
abbrev gM:Stmt:=top 29
abbrev gP:Stmt:=top 30
abbrev gK:Stmt:=top 31
abbrev cF:Stmt:=top 32
def bO(tk s:List Str):Bool:=tk.any λx=>!decide (x∈s)
def second(tk gv s:List Str):Bool:=gv.any λx=>decide (x∈s) && !decide (x∈tk)
def behind(tk gv s:List Str):List Str:=aI ((s.filter λx=>!decide (x∈tk))++gv)
def oW{xs ys:List Str}(p:xs.Perm ys)(f:Str->Bool):xs.any f=ys.any f:=by
 rw[Gs,GV,GV]
 exact⟨λ⟨x,h,e⟩=>⟨x,p.mem_iff.mp h,e⟩,λ⟨x,h,e⟩=>⟨x,p.mem_iff.mpr h,e⟩⟩
def tR(tk s:List Str):bO (aI tk) s=bO tk s:=oW (dk tk) _
def qM(tk gv s:List Str):second (aI tk) (aI gv) s=second tk gv s:=by
 unfold second
 rw[oW (dk gv)]
 congr 1
 funext x
 rw[Hv.mpr (cQ (xs:=tk) (x:=x))]
def qW(tk gv s:List Str):behind (aI tk) (aI gv) s=behind tk gv s:=by
 unfold behind
 refine sF ?_
 have e:(s.filter λx=>!decide (x∈aI tk))=s.filter λx=>!decide (x∈tk):=by
  congr 1
  funext x
  rw[Hv.mpr (cQ (xs:=tk) (x:=x))]
 rw[e]
 exact(dk gv).append_left _
def eJ(xs:List Str):(aw xs).all fi=true:=by
 unfold aw
 rw[Ij,Gb]
 intro x _
 rfl
def jh(x:Str)(xs:List Str):An (.str x) (aw xs)=decide (x∈xs):=by
 unfold An aw
 rw[Ik,Gs,GV,HR]
 constructor
 ·rintro⟨y,hy,e⟩
  have e':rp (.str y) (.str x)=true:=e
  have:y=x:=by simpa[rp] using e'
  rw[<-this]
  exact hy
 ·intro h
  exact⟨x,h,by show rp (.str x) (.str x)=true;simp[rp]⟩
inductive jk(K:PySem.W.Frag)(C:Addr)(g:Mv->List Str->Bool)(vs:List V)(H:Hp)(Q:VK)(E:XK):Prop
 |mk (p a:Addr) (ms:List Mv) (st s:List Str) (m:Mv) (_:vs=[.ref p,.ref a,.str m.1]) (_:bK C H p ms st) (_:m∈ms) (_:cT K H a (aw s)) (_:s.length<=200) (_:∀H',au H H'->Q (.bl (g m s)) H')
def dP{K:PySem.W.Frag}{H H':Hp}{a:Addr}{xs:List V}(e:au H H')(h:cT K H a xs):cT K H' a xs:=by
 rcases h with(h|⟨o,h⟩)|h
 ·exact .inl (.inl (e _ _ h))
 ·exact .inl (.inr ⟨o,e _ _ h⟩)
 ·exact .inr h
def uE:(("takes":Str) == "place_names")=false:=by decide +kernel
def uJ:(("takes":Str) == "start_state")=false:=by decide +kernel
def wD:(("takes":Str) == "taken_by")=false:=by decide +kernel
def wb:(("takes":Str) == "given_by")=false:=by decide +kernel
def zf:(("gives":Str) == "place_names")=false:=by decide +kernel
def yY:(("gives":Str) == "start_state")=false:=by decide +kernel
def yZ:(("gives":Str) == "taken_by")=false:=by decide +kernel
def zd:(("gives":Str) == "given_by")=false:=by decide +kernel
def se:az ["net", "state", "move"] ["net", "state", "move"] (aj fV):=gm
def vS{f C:Addr}{fd:FuncData}(F:d3 K "lacks_bead" "lacks_bead" fV f fd)(T:Txt K mg)(hany:mg "any"=none)(CT:iB K C)(DT:vZ P w K mg base C "takes" "Net.takes" fe ["self", "move"] 3 (kB C (·.2.1))) :
  aM P w K mg base cW 4 f fd ["net", "state", "move"] (jk K C λm s=>bO m.2.1 s):=by
 refine F.oK se λcdv A outer s H vs Q E hr h=>?_
 ·obtain⟨p,a,ms,st,s',m,rfl,N,hm,ha,hz,k⟩:=h
  refine⟨_,aq (aH (aD (kL rfl) rfl hany vM (aa (cE (N:=["place", "state"]) (n:=1) (ci:=[1]) rfl (bh (eU (pv 0) CT.cl DT.d.mt DT.g hr DT.d.bd .nil bF (aa (pv 2) ag)))
    (o9 se)
    (λz=>⟨kZ 0,cR,dZ d5 (pv 0) (pv 1) (by with_unfolding_all rfl)⟩)) ag))),?_⟩
  try dsimp only[bz,Cx.ff,Cx.cG]
  obtain⟨dx,aP,aS,aT,aG,kT,kG,h1,_⟩:=N.at'.ob
  obtain⟨_,_,_,tk4,gv4⟩:=hU (N.so.mv m hm)
  refine⟨_,rfl,p,dx,_,rfl,h1,dD _ _ _ _ uE uJ wD wb,_,rfl,p,ms,st,m,rfl,N,hm,λH1 q s1 nq hq=>?_⟩
  refine⟨q,rfl,⟨_,aR.of hq⟩,λz D hD=>bN (a:=q) (xs:=aw (aI m.2.1)) (λi ys H2=>ys=((aI m.2.1).take i).map (λx=>V.bl (!decide (x∈s')))/\H2 D=some (.lst ys)/\au H1 H2) ⟨rfl,ae,ak hD⟩ (λi ys H2 _ p=>aR.of (p.2.2 _ _ hq)) ?_ ?_⟩
  ·rintro i v ys H2 hi ⟨rfl,hys,sm⟩
   obtain⟨x,hx,rfl⟩:=cz hi
   refine⟨_,rfl,_,rfl,a,aw s',rfl,.inr (dP (s1.trans sm) ha),rfl,eJ s',hys,?_,?_,ae,aF sm hD⟩
   ·rw[Et,EL,d2,E3]
    lia
   ·rw[ar hx,EI,jh]
    rfl
  ·rintro ys H2 ⟨rfl,hys,sm⟩
   rw[ao,EN]at hys
   refine⟨D,(aI m.2.1).map λx=>!decide (x∈s'),rfl,aR.of (by rw[hys,Fo];rfl),?_⟩
   have e:bO m.2.1 s'=((aI m.2.1).map λx=>!decide (x∈s')).any id:=by
    rw[<-tR,Ik]
    rfl
   rw[<-e]
   exact k H2 (s1.trans sm)
def kQ:az ["net", "state", "move", "taken"] ["net", "state", "move"] (aj d9):=gm
def sQ{f C:Addr}{fd:FuncData}(F:d3 K "gives_second" "gives_second" d9 f fd)(T:Txt K mg)(hany:mg "any"=none)(CT:iB K C)(DT:vZ P w K mg base C "takes" "Net.takes" fe ["self", "move"] 3 (kB C (·.2.1)))
  (DG:vZ P w K mg base C "gives" "Net.gives" fT ["self", "move"] 3 (kB C (·.2.2))) :
  aM P w K mg base cW 4 f fd ["net", "state", "move"] (jk K C λm s=>second m.2.1 m.2.2 s):=by
 refine F.oK kQ λcdv A outer s H vs Q E hr h=>?_
 ·obtain⟨p,a,ms,st,s',m,rfl,N,hm,ha,hz,k⟩:=h
  refine⟨_,ah (eR 3 kQ (eU (pv 0) CT.cl DT.d.mt DT.g hr DT.d.bd .nil bF (aa (pv 2) ag)))
   (aq (aH (aD (kL rfl) rfl hany vM (aa (cE (N:=["place", "state", "taken"]) (n:=1) (ci:=[1,3]) rfl (bh (eU (pv 0) CT.cl DG.d.mt DG.g hr DG.d.bd .nil bF (aa (pv 2) ag)))
    (o9 kQ)
    (λz=>⟨kZ 0,cR,nj (dZ my (pv 0) (pv 1) (by with_unfolding_all rfl)) (m9 (dZ d5 (pv 0) (pv 2) (by with_unfolding_all rfl)))⟩)) ag)))),?_⟩
  try dsimp only[bz,Cx.ff,Cx.cG]
  obtain⟨dx,aP,aS,aT,aG,kT,kG,h1,_⟩:=N.at'.ob
  obtain⟨_,_,_,tk4,gv4⟩:=hU (N.so.mv m hm)
  refine⟨_,rfl,p,dx,_,rfl,h1,dD _ _ _ _ uE uJ wD wb,_,rfl,p,ms,st,m,rfl,N,hm,λH1 q s1 nq hq=>?_⟩
  refine⟨_,rfl,p,dx,_,rfl,s1 _ _ h1,dD _ _ _ _ zf yY yZ zd,_,rfl,p,ms,st,m,rfl,N.same s1,hm,λH2 q2 s2 nq2 hq2=>?_⟩
  refine⟨q2,rfl,⟨_,aR.of hq2⟩,λz D hD=>bN (a:=q2) (xs:=aw (aI m.2.2)) (λi ys H3=>ys=((aI m.2.2).take i).map (λx=>V.bl (decide (x∈s') && !decide (x∈aI m.2.1)))/\H3 D=some (.lst ys)/\au H2 H3) ⟨rfl,ae,ak hD⟩ (λi ys H3 _ p=>aR.of (p.2.2 _ _ hq2)) ?_ ?_⟩
  ·rintro i v ys H3 hi ⟨rfl,hys,sm⟩
   obtain⟨x,hx,rfl⟩:=cz hi
   have hlen:(((aI m.2.2).take i).map (λx=>V.bl (decide (x∈s') && !decide (x∈aI m.2.1)))).length<sizeLine:=by
    rw[Et,EL,d2,E3]
    lia
   refine⟨_,rfl,_,rfl,a,aw s',rfl,.inr (dP (s1.trans (s2.trans sm)) ha),rfl,eJ s',_,rfl,?_⟩
   show if An (V.str x) (aw s')=true then _ else _
   rw[jh]
   cases c1:decide (x∈s') with
   |false =>
    refine br ⟨hys,hlen,?_,ae,aF sm hD⟩
    rw[ar hx,EI]
    simp[c1]
   |true =>
    refine bM ⟨_,rfl,_,rfl,q,aw (aI m.2.1),rfl,.inl (aR.of (sm _ _ (s2 _ _ hq))),rfl,eJ _,hys,hlen,?_,ae,aF sm hD⟩
    rw[ar hx,EI,jh]
    simp[c1]
  ·rintro ys H3 ⟨rfl,hys,sm⟩
   rw[ao,EN]at hys
   refine⟨D,(aI m.2.2).map λx=>decide (x∈s') && !decide (x∈aI m.2.1),rfl,aR.of (by rw[hys,Fo];rfl),?_⟩
   have e:second m.2.1 m.2.2 s'=((aI m.2.2).map λx=>decide (x∈s') && !decide (x∈aI m.2.1)).any id:=by
    rw[<-qM,Ik]
    rfl
   rw[<-e]
   exact k H3 (s1.trans (s2.trans sm))
def xj(ms:List Mv)(x:Str):List Str:=((ms.find? λm=>decide (m.1=x)).map (·.2.1)).getD []
def yr(ms:List Mv)(x:Str):List Str:=((ms.find? λm=>decide (m.1=x)).map (·.2.2)).getD []
theorem find_name:∀{ms:List Mv} {m:Mv},(names ms).Nodup->m∈ms->(ms.find? λn=>decide (n.1=m.1))=some m
 |[],_,_,h=>by simp at h
 |n::ms,m,hn,h=>by
  obtain⟨n1,n2⟩:=Fi.mp (show(n.1::names ms).Nodup from hn)
  rcases EB.mp h with rfl|h
  ·simp
  ·have ne:¬n.1=m.1:=λz=>n1 (by rw[z];exact EH.mpr ⟨m,h,rfl⟩)
   rw[Gv]
   simp only[ne,decide_false]
   exact find_name n2 h
def de{ms:List Mv}{m:Mv}(hn:(names ms).Nodup)(h:m∈ms):xj ms m.1=m.2.1:=by unfold xj;rw[find_name hn h];rfl
def ee{ms:List Mv}{m:Mv}(hn:(names ms).Nodup)(h:m∈ms):yr ms m.1=m.2.2:=by unfold yr;rw[find_name hn h];rfl
def cI(ms:List Mv)(s:List Str)(x:Str):Bool:=bO (xj ms x) s
def fk(ms:List Mv)(s:List Str)(x:Str):Bool:=second (xj ms x) (yr ms x) s
def cb(ms:List Mv)(s:List Str)(x:Str):List Str:=behind (xj ms x) (yr ms x) s
def iM(ms:List Mv)(s:List Str):List Str:=((aI (names ms)).filter λx=>!cI ms s x).filter λx=>!fk ms s x
def cU(ms:List Mv)(s:List Str):Option Str:=(aI (names ms)).find? λx=>!cI ms s x&&fk ms s x
def cP{ms:List Mv}{x:Str}(h:x∈aI (names ms)):∃m∈ms,m.1=x:=by
 obtain⟨m,hm,e⟩:=EH.mp (cQ.mp h)
 exact⟨m,hm,e⟩
inductive pC(K:PySem.W.Frag)(C:Addr)(vs:List V)(H:Hp)(Q:VK)(E:XK):Prop
 |mk (p a:Addr) (ms:List Mv) (st s:List Str) (m:Mv) (_:vs=[.ref p,.ref a,.str m.1]) (_:bK C H p ms st) (_:m∈ms) (_:cT K H a (aw s)) (_:s.length<=50) (_:∀H' q,au H H'->H q=none->H' q=some (.tup (aw (behind m.2.1 m.2.2 s)))->Q (.ref q) H')
def iE:az ["net", "state", "move", "taken", "left"] ["net", "state", "move"] (aj eY):=gm
def sZ{f C:Addr}{fd:FuncData}(F:d3 K "state_behind" "state_behind" eY f fd)(T:Txt K mg)(CT:iB K C)(DT:vZ P w K mg base C "takes" "Net.takes" fe ["self", "move"] 3 (kB C (·.2.1)))
  (DG:vZ P w K mg base C "gives" "Net.gives" fT ["self", "move"] 3 (kB C (·.2.2))) :
  aM P w K mg base cW 4 f fd ["net", "state", "move"] (pC K C):=by
 refine F.oK iE λcdv A outer s H vs Q E hr h=>?_
 ·obtain⟨p,a,ms,st,s',m,rfl,N,hm,ha,hz,k⟩:=h
  refine⟨_,ah (eR 3 iE (eU (pv 0) CT.cl DT.d.mt DT.g hr DT.d.bd .nil bF (aa (pv 2) ag)))
   (ah (jT (j:=4) (N:=["place", "taken"]) (n:=1) (ci:=[3]) rfl iE.nd rfl rfl (qv (pv 1))
    (o9 iE)
    (λz=>⟨kZ 0,iD (bH d5 (pv 0) (pv 1) (by with_unfolding_all rfl)),pv 0⟩))
   (aq (aH (aX bE rfl T.tup fE (aa (aD dE rfl T.aI dO (aa (aK jl (pv 4) (eU (pv 0) CT.cl DG.d.mt DG.g hr DG.d.bd .nil bF (aa (pv 2) ag))) ag)) ag))))),?_⟩
  try dsimp only[bz,Cx.ff,Cx.cG]
  obtain⟨dx,aP,aS,aT,aG,kT,kG,h1,_⟩:=N.at'.ob
  obtain⟨_,_,_,tk4,gv4⟩:=hU (N.so.mv m hm)
  refine⟨_,rfl,p,dx,_,rfl,h1,dD _ _ _ _ uE uJ wD wb,_,rfl,p,ms,st,m,rfl,N,hm,λH1 q s1 nq hq=>?_⟩
  refine⟨_,rfl,a,rfl,⟨_,dP s1 ha⟩,λz D hD=>o7 (a:=a) (xs:=aw s') (λi ys H2=>ys=aw ((s'.take i).filter λx=>!decide (x∈aI m.2.1))/\H2 D=some (.lst ys)/\au H1 H2) ⟨rfl,ae,ak hD⟩ (λi ys H2 _ p=>dP (s1.trans p.2.2) ha) ?_ ?_⟩
  ·rintro i v ys H2 hi ⟨rfl,hys,sm⟩
   obtain⟨x,hx,rfl⟩:=cz hi
   have hlen:(aw ((s'.take i).filter λx=>!decide (x∈aI m.2.1))).length<sizeLine:=by
    rw[ao,E3]
    have:=Fu (λx=>!decide (x∈aI m.2.1)) (s'.take i)
    rw[EL]at this
    lia
   refine⟨_,rfl,_,rfl,q,aw (aI m.2.1),rfl,.inl (aR.of (sm _ _ hq)),rfl,eJ _,_,rfl,?_⟩
   show if (!An (V.str x) (aw (aI m.2.1)))=true then _ else _
   rw[jh]
   cases c1:decide (x∈aI m.2.1) with
   |true =>
    refine br ⟨?_,hys,sm⟩
    rw[ar hx,FA]
    simp[c1]
   |false =>
    refine bM ⟨_,rfl,hys,hlen,?_,ae,aF sm hD⟩
    rw[ar hx,FA]
    unfold aw
    simp[c1]
  ·rintro ys H2 ⟨rfl,hys,sm⟩
   rw[ao,EN]at hys
   refine⟨_,rfl,_,rfl,p,dx,_,rfl,(s1.trans sm) _ _ h1,dD _ _ _ _ zf yY yZ zd,_,rfl,p,ms,st,m,rfl,N.same (s1.trans sm),hm,λH3 q2 s3 nq2 hq2=>?_⟩
   have lf:(s'.filter λx=>!decide (x∈aI m.2.1)).length<=50:=ET (Fu _ _) hz
   have hsl:=E1
   refine⟨D,q2,_,_,rfl,rfl,s3 _ _ hys,hq2,?_,λq3 nq3=>?_⟩
   ·rw[ao,ao,d2]
    try dsimp only
    lia
   have e1:aw (s'.filter λx=>!decide (x∈aI m.2.1))++aw (aI m.2.2)=aw ((s'.filter λx=>!decide (x∈aI m.2.1))++aI m.2.2):=by unfold aw;rw[List.map_append]
   rw[e1]
   refine⟨q3,_,rfl,aR.of ae,?_,λq4 nq4=>⟨q4,_,rfl,.inl ⟨aR.of ae,λq5 nq5=>?_⟩⟩⟩
   ·rw[Eu,d2]
    lia
   have s5:=(ak (o:=.lst (aw ((s'.filter λx=>!decide (x∈aI m.2.1))++aI m.2.2))) nq3).trans (ak (o:=.lst (aw (aI ((s'.filter λx=>!decide (x∈aI m.2.1))++aI m.2.2)))) nq4)
   have sA:au H H3:=s1.trans (sm.trans s3)
   refine k _ q5 ((sA.trans s5).trans (ak nq5)) ((sA.trans s5).free nq5) ?_
   rw[ae,<-qW]
   rfl
inductive zw(K:PySem.W.Frag)(C:Addr)(vs:List V)(H:Hp)(Q:VK)(E:XK):Prop
 |mk (p a:Addr) (ms:List Mv) (st s:List Str) (_:vs=[.ref p,.ref a]) (_:bK C H p ms st) (_:cT K H a (aw s)) (_:s.length<=50) (_:∀H' q,au H H'->H q=none->H' q=some (.lst (aw (iM ms s)))->Q (.ref q) H')
def rk:az ["net", "state", "supplied"] ["net", "state"] (aj pW):=gm
def zt:(("moves":Str) == "place_names")=false:=by decide +kernel
def zz:(("moves":Str) == "start_state")=false:=by decide +kernel
def zp:(("moves":Str) == "taken_by")=false:=by decide +kernel
def yT:(("moves":Str) == "given_by")=false:=by decide +kernel
def zX{f C:Addr}{fd:FuncData}(F:d3 K "may" "may" pW f fd)(CT:iB K C)(DM:vZ P w K mg base C "moves" "Net.moves" iJ ["self"] 1 (qY C))
  (DL:kA P w K mg base "lacks_bead" fV ["net", "state", "move"] 4 (jk K C λm s=>bO m.2.1 s))
  (DS:kA P w K mg base "gives_second" d9 ["net", "state", "move"] 4 (jk K C λm s=>second m.2.1 m.2.2 s)) :
  aM P w K mg base cW 5 f fd ["net", "state"] (zw K C):=by
 refine F.oK rk λcdv A outer s H vs Q E hr h=>?_
 ·obtain⟨p,a,ms,st,s',rfl,N,ha,hz,k⟩:=h
  refine⟨_,ah (jT (j:=2) (N:=["move", "net", "state"]) (n:=1) (ci:=[0,1]) rfl rk.nd rfl rfl (bh (fh (pv 0) CT.cl DM.d.mt DM.g (hr.mono (by decide)) DM.d.bd .nil bF))
    (o9 rk)
    (λz=>⟨kZ 0,iD (cK (bU (jR DL hr (aa (pv 1) (aa (pv 2) (aa (pv 0) ag)))))),pv 0⟩))
   (aq (aH (cE (N:=["move", "net", "state"]) (n:=1) (ci:=[0,1]) rfl (bh (pv 2))
    (o9 rk)
    (λz=>⟨kZ 0,iD (cK (bU (jR DS hr (aa (pv 1) (aa (pv 2) (aa (pv 0) ag)))))),pv 0⟩)))),?_⟩
  try dsimp only[bz,Cx.ff,Cx.cG]
  obtain⟨dx,aP,aS,aT,aG,kT,kG,h1,_⟩:=N.at'.ob
  have l12:(names ms).length<=12:=by unfold names;rw[List.length_map];exact N.so.ml
  have hsl:=E1
  refine⟨_,rfl,p,dx,_,rfl,h1,dD _ _ _ _ zt zz zp yT,p,ms,st,rfl,N,λH1 q s1 nq hq=>?_⟩
  refine⟨q,rfl,⟨_,aR.of hq⟩,λz D hD=>bN (a:=q) (xs:=aw (aI (names ms))) (λi ys H2=>ys=aw (((aI (names ms)).take i).filter λx=>!cI ms s' x)/\H2 D=some (.lst ys)/\au H1 H2) ⟨rfl,ae,ak hD⟩ (λi ys H2 _ p=>aR.of (p.2.2 _ _ hq)) ?_ ?_⟩
  ·rintro i v ys H2 hi ⟨rfl,hys,sm⟩
   obtain⟨x,hx,rfl⟩:=cz hi
   obtain⟨m,hm,rfl⟩:=cP (EC hx)
   have hlen:(aw (((aI (names ms)).take i).filter λx=>!cI ms s' x)).length<sizeLine:=by
    rw[ao,hsl]
    have:=Fu (λx=>!cI ms s' x) ((aI (names ms)).take i)
    rw[EL,d2]at this
    lia
   refine⟨_,rfl,_,rfl,_,rfl,p,a,ms,st,s',m,rfl,N.same (s1.trans sm),hm,dP (s1.trans sm) ha,by lia,λH3 s3=>⟨_,rfl,?_⟩⟩
   have el:bO m.2.1 s'=cI ms s' m.1:=by unfold cI;rw[de N.so.nd hm]
   show if (!bO m.2.1 s')=true then _ else _
   rw[el]
   cases c1:cI ms s' m.1 with
   |true =>
    refine br ⟨?_,s3 _ _ hys,sm.trans s3⟩
    rw[ar hx,FA]
    simp[c1]
   |false =>
    refine bM ⟨_,rfl,s3 _ _ hys,hlen,?_,ae,aF (sm.trans s3) hD⟩
    rw[ar hx,FA]
    unfold aw
    simp[c1]
  ·rintro ys H2 ⟨rfl,hys,sm⟩
   rw[ao,EN]at hys
   generalize hL:(aI (names ms)).filter (λx=>!cI ms s' x)=L at hys
   have LL:L.length<=12:=by
    rw[<-hL]
    have:=Fu (λx=>!cI ms s' x) (aI (names ms))
    rw[d2]at this
    lia
   have Lm:∀x∈L,∃m∈ms,m.1=x:=λx hx=>by
    rw[<-hL]at hx
    exact cP (Fx.mp hx).1
   have sA:au H H2:=s1.trans sm
   refine⟨_,rfl,D,rfl,⟨_,aR.of hys⟩,λz D2 hD2=>bN (a:=D) (xs:=aw L) (λi ys H3=>ys=aw ((L.take i).filter λx=>!fk ms s' x)/\H3 D2=some (.lst ys)/\au H2 H3) ⟨rfl,ae,ak hD2⟩ (λi ys H3 _ p=>aR.of (p.2.2 _ _ hys)) ?_ ?_⟩
   ·rintro i v ys H3 hi ⟨rfl,hys3,sm3⟩
    obtain⟨x,hx,rfl⟩:=cz hi
    obtain⟨m,hm,rfl⟩:=Lm x (EC hx)
    have hlen:(aw ((L.take i).filter λx=>!fk ms s' x)).length<sizeLine:=by
     rw[ao,hsl]
     have:=Fu (λx=>!fk ms s' x) (L.take i)
     rw[EL]at this
     lia
    refine⟨_,rfl,_,rfl,_,rfl,p,a,ms,st,s',m,rfl,N.same (sA.trans sm3),hm,dP (sA.trans sm3) ha,by lia,λH4 s4=>⟨_,rfl,?_⟩⟩
    have el:second m.2.1 m.2.2 s'=fk ms s' m.1:=by unfold fk;rw[de N.so.nd hm,ee N.so.nd hm]
    show if (!second m.2.1 m.2.2 s')=true then _ else _
    rw[el]
    cases c1:fk ms s' m.1 with
    |true =>
     refine br ⟨?_,s4 _ _ hys3,sm3.trans s4⟩
     rw[ar hx,FA]
     simp[c1]
    |false =>
     refine bM ⟨_,rfl,s4 _ _ hys3,hlen,?_,ae,aF (sm3.trans s4) hD2⟩
     rw[ar hx,FA]
     unfold aw
     simp[c1]
   ·rintro ys H3 ⟨rfl,hys3,sm3⟩
    rw[ao,EN]at hys3
    refine k H3 D2 (sA.trans sm3) (sA.free hD2) ?_
    rw[hys3,<-hL]
    rfl
end Uf
end
section
namespace UfBfs
variable {σ μ:Type}[DecidableEq σ]
structure G(σ μ:Type) where
 may:σ->List μ
 nxt:σ->μ->σ
 bad:σ->Option μ
inductive cg(g:G σ μ)(s:σ):List μ->σ->Prop where
 |nil:cg g s [] s
 |snoc {r:List μ} {t:σ} {m:μ}:cg g s r t->m∈g.may t->cg g s (r++[m]) (g.nxt t m)
def At(g:G σ μ)(s:σ)(k:Nat)(t:σ):Prop:=∃r,r.length=k/\cg g s r t
def At.zero(g:G σ μ)(s:σ):At g s 0 s:=⟨[],rfl,.nil⟩
def At.succ{g:G σ μ}{s t:σ}{k:Nat}{m:μ}(h:At g s k t)(hm:m∈g.may t):At g s (k+1) (g.nxt t m):=by
 obtain⟨r,hl,hr⟩:=h
 exact⟨r++[m],by simp[hl],.snoc hr hm⟩
def At.inv{g:G σ μ}{s t:σ}{k:Nat}(h:At g s (k+1) t):∃u m,At g s k u/\m∈g.may u/\t=g.nxt u m:=by
 obtain⟨r,hl,hr⟩:=h
 cases hr with
 |nil=>simp at hl
 |snoc hr hm=>exact⟨_,_,⟨_,by simpa using hl,hr⟩,hm,rfl⟩
def At.tZ{g:G σ μ}{s t:σ}(h:At g s 0 t):t=s:=by
 obtain⟨r,hl,hr⟩:=h
 cases hr with
 |nil=>rfl
 |snoc hr hm=>simp at hl
def Told(g:G σ μ)(s:σ):Option (List μ)->Prop
 |none=>∀k t,At g s k t->g.bad t=none
 |some row=>∃r t m,row=r++[m]/\cg g s r t/\g.bad t=some m/\∀k u,At g s k u->g.bad u≠none->r.length<=k
abbrev bL(σ μ:Type):=List (σ×Option (σ×μ))
def look(w:bL σ μ)(t:σ):Option (Option (σ×μ)):=(w.find? λp=>decide (p.1=t)).map (·.2)
def mq{w:bL σ μ}{t:σ}:look w t=none↔t∉w.map (·.1):=by
 unfold look
 rw[Option.map_eq_none_iff,HL]
 constructor
 ·intro h hm
  obtain⟨p,hp,e⟩:=EH.mp hm
  exact absurd (EM e) (by simpa using h p hp)
 ·intro h p hp
  simp only[HR]
  intro e
  exact h (EH.mpr ⟨p,hp,e⟩)
def gr{w v:bL σ μ}{t:σ}:look (w++v) t=(look w t).or (look v t):=by
 unfold look
 rw[List.find?_append]
 cases List.find? (λp=>decide (p.1=t)) w <;> simp
def dJ{w:bL σ μ}{t u:σ}{x:Option (σ×μ)}{y:Option (σ×μ)}(h:look w t=some y):look (w++[(u,x)]) t=some y:=by
 rw[gr,h];rfl
def ij{w:bL σ μ}{u:σ}{x:Option (σ×μ)}(h:look w u=none):look (w++[(u,x)]) u=some x:=by
 rw[gr,h]
 simp[look]
def gA(g:G σ μ)(t:σ)(acc:bL σ μ×List σ)(m:μ):bL σ μ×List σ :=
 if (look acc.1 (g.nxt t m)).isSome then acc else(acc.1++[(g.nxt t m,some (t,m))],acc.2++[g.nxt t m])
def tryAll(g:G σ μ)(acc:bL σ μ×List σ)(t:σ):bL σ μ×List σ:=(g.may t).foldl (gA g t) acc
def dX(g:G σ μ)(ts:List σ)(w:bL σ μ):bL σ μ×List σ:=ts.foldl (tryAll g) (w,[])
def pairs(g:G σ μ)(ts:List σ):List (σ×μ):=ts.flatMap λt=>(g.may t).map λm=>(t,m)
theorem pf(g:G σ μ):∀(ts:List σ) (acc:bL σ μ×List σ),ts.foldl (tryAll g) acc=(pairs g ts).foldl (λa p=>gA g p.1 a p.2) acc
 |[],acc=>rfl
 |t::ts,acc=>by
  rw[Gg,pf g ts]
  unfold pairs
  rw[List.flatMap_cons,Hl,List.foldl_map]
  rfl
def jo{g:G σ μ}{ts:List σ}{p:σ×μ}:p∈pairs g ts↔p.1∈ts/\p.2∈g.may p.1:=by
 unfold pairs
 rw[IZ]
 constructor
 ·rintro⟨t,ht,hm⟩
  obtain⟨m,hm',rfl⟩:=EH.mp hm
  exact⟨ht,hm'⟩
 ·rintro⟨h1,h2⟩
  exact⟨p.1,h1,EH.mpr ⟨p.2,h2,rfl⟩⟩
structure Cm(g:G σ μ)(w0:bL σ μ)(done:List (σ×μ))(w:bL σ μ)(r:List σ):Prop where
 old:∀t x,look w0 t=some x->look w t=some x
 new:∀t∈r,look w0 t=none/\∃p∈done,t=g.nxt p.1 p.2/\look w t=some (some p)
 only:∀t x,look w t=some x->look w0 t=some x\/t∈r
 full:∀p∈done,∃x,look w (g.nxt p.1 p.2)=some x
 keys:w.map (·.1)=w0.map (·.1)++r
 nd:(w0.map (·.1)).Nodup->(w.map (·.1)).Nodup
theorem ke(g:G σ μ)(w0:bL σ μ):∀(ps done:List (σ×μ)) (w:bL σ μ) (r:List σ),Cm g w0 done w r ->
  Cm g w0 (done++ps) (ps.foldl (λa p=>gA g p.1 a p.2) (w,r)).1 (ps.foldl (λa p=>gA g p.1 a p.2) (w,r)).2
 |[],done,w,r,h=>by simpa using h
 |p::ps,done,w,r,h=>by
  rw[Gg]
  have e:done++p::ps=(done++[p])++ps:=by simp
  rw[e]
  cases hl:look w (g.nxt p.1 p.2) with
  |some x =>
   have e1:gA g p.1 (w,r) p.2=(w,r):=by unfold gA;rw[if_pos (by rw[hl];rfl)]
   rw[e1]
   refine ke g w0 ps (done++[p]) w r ⟨h.old,λt ht=>?_,h.only,λq hq=>?_,h.keys,h.nd⟩
   ·obtain⟨h1,q,hq,h2,h3⟩:=h.new t ht
    exact⟨h1,q,Fc _ hq,h2,h3⟩
   ·rcases EX.mp hq with hq|hq
    ·exact h.full q hq
    ·have:q=p:=by simpa using hq
     subst this
     exact⟨x,hl⟩
  |none =>
   have e1:gA g p.1 (w,r) p.2=(w++[(g.nxt p.1 p.2,some p)],r++[g.nxt p.1 p.2]):=by
    unfold gA
    rw[Ex (by rw[hl];simp)]
   rw[e1]
   have hw0:look w0 (g.nxt p.1 p.2)=none:=by
    cases q:look w0 (g.nxt p.1 p.2) with
    |none=>rfl
    |some x=>rw[h.old _ _ q]at hl;cases hl
   refine ke g w0 ps (done++[p]) _ _ ⟨λt x q=>dJ (h.old t x q),λt ht=>?_,λt x q=>?_,λq hq=>?_,?_,λhn=>?_⟩
   ·rcases EX.mp ht with ht|ht
    ·obtain⟨h1,q,hq,h2,h3⟩:=h.new t ht
     exact⟨h1,q,Fc _ hq,h2,dJ h3⟩
    ·have:t=g.nxt p.1 p.2:=by simpa using ht
     subst this
     exact⟨hw0,p,by simp,rfl,ij hl⟩
   ·cases q0:look w t with
    |some y =>
     rw[dJ q0]at q
     have e2:y=x:=EO q
     subst e2
     rcases h.only t y q0 with z|z
     ·exact .inl z
     ·exact .inr (Fc _ z)
    |none =>
     rw[gr,q0]at q
     by_cases ht:g.nxt p.1 p.2=t
     ·exact .inr (by simp[ht])
     ·simp[look,ht]at q
   ·rcases EX.mp hq with hq|hq
    ·obtain⟨x,hx⟩:=h.full q hq
     exact⟨x,dJ hx⟩
    ·have:q=p:=by simpa using hq
     subst this
     exact⟨_,ij hl⟩
   ·rw[EI,h.keys]
    simp
   ·rw[EI]
    have hk:=mq.mp hl
    refine Fw.mpr ⟨h.nd hn,by simp,λa ha b hb=>?_⟩
    have:b=g.nxt p.1 p.2:=by simpa using hb
    subst this
    rintro rfl
    exact hk ha
def ma(g:G σ μ)(ts:List σ)(w:bL σ μ):Cm g w (pairs g ts) (dX g ts w).1 (dX g ts w).2:=by
 have h:=ke g w (pairs g ts) [] w [] ⟨λ_ _ q=>q,λt ht=>by simp at ht,λ_ _ q=>.inl q,λp hp=>by simp at hp,by simp,id⟩
 unfold dX
 rw[pf]
 simpa using h
def d4(g:G σ μ)(s:σ)(k:Nat)(t:σ):Prop:=At g s k t/\∀j,At g s j t->k<=j
def d4.uniq{g:G σ μ}{s t:σ}{k j:Nat}(h:d4 g s k t)(h':d4 g s j t):k=j:=Nat.le_antisymm (h.2 j h'.1) (h'.2 k h.1)
def At.dist{g:G σ μ}{s t:σ}:∀{k:Nat},At g s k t->∃j,j<=k/\d4 g s j t:=by
 intro k
 induction k using Nat.strongRecOn with
 |ind k ih =>
  intro h
  by_cases hm:∀j,At g s j t->k<=j
  ·exact⟨k,Ep _,h,hm⟩
  ·have ⟨j,hj⟩:=Classical.not_forall.mp hm
   have ⟨hj1,hj2⟩:=Classical.not_imp.mp hj
   obtain⟨i,hi,hd⟩:=ih j (by lia) hj1
   exact⟨i,by lia,hd⟩
def d4.pred{g:G σ μ}{s t:σ}{k:Nat}(h:d4 g s (k+1) t):∃u m,d4 g s k u/\m∈g.may u/\t=g.nxt u m:=by
 obtain⟨u,m,hu,hm,e⟩:=h.1.inv
 refine⟨u,m,⟨hu,λj hj=>?_⟩,hm,e⟩
 have:=h.2 (j+1) (by rw[e];exact hj.succ hm)
 lia
structure Good(g:G σ μ)(s:σ)(L:Nat)(w:bL σ μ)(ts:List σ):Prop where
 root:look w s=some none
 way:∀t x,look w t=some x->∃k,k<=L/\d4 g s k t/\(match x with|none=>t=s|some (u,m)=>∃j,k=j+1/\d4 g s j u/\m∈g.may u/\t=g.nxt u m)
 all:∀k t,k<=L->d4 g s k t->∃x,look w t=some x
 ts:∀t,t∈ts↔d4 g s L t
 fine:∀k t,k<L->d4 g s k t->g.bad t=none
def Good.start(g:G σ μ)(s:σ):Good g s 0 [(s,none)] [s]:=by
 have d0:d4 g s 0 s:=⟨At.zero g s,λ_ _=>EV _⟩
 refine⟨by simp[look],λt x h=>?_,λk t hk h=>?_,λt=>?_,λk t hk=>absurd hk (Nat.not_lt_zero _)⟩
 ·by_cases ht:s=t
  ·subst ht
   have:x=none:=by simpa[look] using h.symm
   subst this
   exact⟨0,Ep _,d0,rfl⟩
  ·simp[look,ht]at h
 ·have:k=0:=by lia
  subst this
  have:=h.1.tZ
  subst this
  exact⟨none,by simp[look]⟩
 ·constructor
  ·intro h
   have:t=s:=by simpa using h
   subst this
   exact d0
  ·intro h
   have:=h.1.tZ
   simp[this]
def Good.next{g:G σ μ}{s:σ}{L:Nat}{w:bL σ μ}{ts:List σ}(h:Good g s L w ts)(hb:∀t∈ts,g.bad t=none):Good g s (L+1) (dX g ts w).1 (dX g ts w).2:=by
 have lv:=ma g ts w
 have hnew:∀t∈(dX g ts w).2,d4 g s (L+1) t/\∃p:σ×μ,d4 g s L p.1/\p.2∈g.may p.1/\t=g.nxt p.1 p.2/\look (dX g ts w).1 t=some (some p):=λt ht=>by
  obtain⟨h0,p,hp,e,hl⟩:=lv.new t ht
  obtain⟨p1,p2⟩:=jo.mp hp
  have dp:=(h.ts p.1).mp p1
  have at1:At g s (L+1) t:=by rw[e];exact dp.1.succ p2
  refine⟨⟨at1,λj hj=>?_⟩,p,dp,p2,e,hl⟩
  obtain⟨i,hi,di⟩:=hj.dist
  by_cases hiL:i<=L
  ·obtain⟨x,hx⟩:=h.all i t hiL di
   rw[h0]at hx
   cases hx
  ·lia
 refine⟨lv.old _ _ h.root,λt x hx=>?_,λk t hk hd=>?_,λt=>⟨λht=>(hnew t ht).1,λhd=>?_⟩,λk t hk hd=>?_⟩
 ·rcases lv.only t x hx with q|q
  ·obtain⟨k,hk,hd,hx⟩:=h.way t x q
   exact⟨k,by lia,hd,hx⟩
  ·obtain⟨hd,p,dp,pm,e,hl⟩:=hnew t q
   rw[hl]at hx
   cases hx
   exact⟨L+1,Ep _,hd,L,rfl,dp,pm,e⟩
 ·by_cases hkL:k<=L
  ·obtain⟨x,hx⟩:=h.all k t hkL hd
   exact⟨x,lv.old _ _ hx⟩
  ·have:k=L+1:=by lia
   subst this
   obtain⟨u,m,du,hm,e⟩:=hd.pred
   rw[e]
   exact lv.full (u,m) (jo.mpr ⟨(h.ts u).mpr du,hm⟩)
 ·obtain⟨u,m,du,hm,e⟩:=hd.pred
  obtain⟨x,hx⟩:=lv.full (u,m) (jo.mpr ⟨(h.ts u).mpr du,hm⟩)
  rw[<-e]at hx
  rcases lv.only t x hx with q|q
  ·obtain⟨k,hk,hd',_⟩:=h.way t x q
   have:=hd.uniq hd'
   lia
  ·exact q
 ·by_cases hkL:k<L
  ·exact h.fine k t hkL hd
  ·have:k=L:=by lia
   subst this
   exact hb t ((h.ts t).mpr hd)
theorem Good.none{g:G σ μ}{s:σ}{L:Nat}{w:bL σ μ}(h:Good g s L w []):Told g s (none:Option (List μ)):=by
 have far:∀d k t,k=L+d->¬d4 g s k t:=by
  intro d
  induction d with
  |zero =>
   rintro k t rfl hd
   have:=(h.ts t).mpr hd
   simp at this
  |succ d ih =>
   rintro k t rfl hd
   obtain⟨u,_,du,_⟩:=d4.pred (k:=L+d) hd
   exact ih _ u rfl du
 intro k t hk
 obtain⟨j,_,dj⟩:=hk.dist
 by_cases hj:j<L
 ·exact h.fine j t hj dj
 ·exact absurd dj (far (j-L) j t (by lia))
def eZ(w:bL σ μ):Nat->σ->List μ
 |0,_=>[]
 |n+1,t=>match look w t with
  |some (some (u,m))=>eZ w n u++[m]
  |_=>[]
theorem Good.row{g:G σ μ}{s:σ}{L:Nat}{w:bL σ μ}{ts:List σ}(h:Good g s L w ts):∀(k:Nat) (t:σ),k<=L->d4 g s k t->cg g s (eZ w k t) t/\(eZ w k t).length=k
 |0,t,_,hd=>by
  have:=hd.1.tZ
  subst this
  exact⟨.nil,rfl⟩
 |k+1,t,hk,hd=>by
  obtain⟨x,hx⟩:=h.all (k+1) t hk hd
  obtain⟨j,hj,hd',hm⟩:=h.way t x hx
  have e:j=k+1:=hd'.uniq hd
  subst e
  cases x with
  |none =>
   have:t=s:=hm
   subst this
   have:=hd.2 0 (At.zero g t)
   lia
  |some um =>
   obtain⟨u,m⟩:=um
   obtain⟨i,ei,du,hmay,et⟩:=hm
   have:i=k:=by lia
   subst this
   obtain⟨q1,q2⟩:=Good.row h i u (by lia) du
   unfold eZ
   rw[hx]
   dsimp only
   refine⟨?_,by simp[q2]⟩
   rw[et]
   exact .snoc q1 hmay
theorem Good.some{g:G σ μ}{s t:σ}{L:Nat}{w:bL σ μ}{ts:List σ}{m:μ}(h:Good g s L w ts)(ht:t∈ts)(hb:g.bad t=some m):Told g s (some (eZ w L t++[m])):=by
 have hd:=(h.ts t).mp ht
 obtain⟨q1,q2⟩:=h.row L t (Ep _) hd
 refine⟨_,t,m,rfl,q1,hb,λk u hk hu=>?_⟩
 rw[q2]
 obtain⟨j,hj,dj⟩:=hk.dist
 by_cases hjL:j<L
 ·exact absurd (h.fine j u hjL dj) hu
 ·lia
end UfBfs
end
section
namespace UfBfs
variable {σ μ:Type}[DecidableEq σ]
structure QI(g:G σ μ)(s:σ)(k:Nat)(ws:List (σ×Nat)):Prop where
 nd:(ws.map (·.1)).Nodup
 dist:∀p∈ws,d4 g s p.2 p.1
 mono:ws.Pairwise λp q=>p.2<=q.2
 head:ws[0]?=some (s,0)
 closed:∀p∈ws.take k,∀m∈g.may p.1,g.nxt p.1 m∈ws.map (·.1)
 fine:∀p∈ws.take k,g.bad p.1=none
 near:∀q,ws[k]?=some q->∀p∈ws,p.2<=q.2+1
def QI.start(g:G σ μ)(s:σ):QI g s 0 [(s,0)]:=by
 refine⟨by simp,λp hp=>?_,by simp,rfl,λp hp=>by simp at hp,λp hp=>by simp at hp,λq hq p hp=>?_⟩
 ·have:p=(s,0):=by simpa using hp
  subst this
  exact⟨At.zero g s,λ_ _=>EV _⟩
 ·have:p=(s,0):=by simpa using hp
  subst this
  exact EV _
theorem QI.qb{g:G σ μ}{s:σ}{k:Nat}{ws:List (σ×Nat)}{q:σ×Nat}(h:QI g s k ws)(hq:ws[k]?=some q):∀(i:Nat) (u:σ),d4 g s i u->i<q.2->(u,i)∈ws.take k
 |0,u,hd,hi=>by
  have:=hd.1.tZ
  subst this
  have hk:0<k:=by
   cases k with
   |zero =>
    rw[h.head]at hq
    cases hq
    exact absurd hi (Fe _)
   |succ k=>lia
  have:(ws.take k)[0]?=some (u,0):=by rw[HG hk];exact h.head
  exact EC this
 |i+1,u,hd,hi=>by
  obtain⟨v,m,dv,hm,e⟩:=hd.pred
  have hv:=QI.qb h hq i v dv (by lia)
  have hu:=h.closed _ hv m hm
  rw[<-e]at hu
  obtain⟨p,hp,e2⟩:=EH.mp hu
  obtain⟨u',d⟩:=p
  have e2:u'=u:=e2
  subst e2
  have ed:d=i+1:=(h.dist _ hp).uniq hd
  subst ed
  obtain⟨j,hj⟩:=Ju.mp hp
  have hjk:j<k:=by
   by_cases hjk:j<k
   ·exact hjk
   ·exfalso
    by_cases hjk2:j=k
    ·subst hjk2
     rw[hq]at hj
     cases hj
     exact absurd hi (Fe _)
    ·obtain⟨hk',ek⟩:=EF.mp hq
     obtain⟨hj',ej⟩:=EF.mp hj
     have:=IM.mp h.mono k j hk' hj' (by lia)
     rw[ek,ej]at this
     have this:q.2<=i+1:=this
     lia
  have:(ws.take k)[j]?=some (u',i+1):=by rw[HG hjk];exact hj
  exact EC this
def addQ(g:G σ μ)(t:σ)(d:Nat)(ws:List (σ×Nat))(m:μ):List (σ×Nat):=if g.nxt t m∈ws.map (·.1) then ws else ws++[(g.nxt t m,d+1)]
def uk{g:G σ μ}{t:σ}{d:Nat}{ws:List (σ×Nat)}{m:μ}{k:Nat}(h:k<=ws.length):(addQ g t d ws m).take k=ws.take k:=by
 unfold addQ
 split
 ·rfl
 ·rw[List.take_append_of_le_length h]
def QI.add{g:G σ μ}{s t:σ}{k d:Nat}{ws:List (σ×Nat)}{m:μ}(h:QI g s k ws)(hq:ws[k]?=some (t,d))(hm:m∈g.may t):QI g s k (addQ g t d ws m):=by
 have hk:k<ws.length:=(EF.mp hq).1
 by_cases hin:g.nxt t m∈ws.map (·.1)
 ·have e:addQ g t d ws m=ws:=by unfold addQ;rw[if_pos hin]
  rw[e];exact h
 ·have e:addQ g t d ws m=ws++[(g.nxt t m,d+1)]:=by unfold addQ;rw[if_neg hin]
  have hmem:(t,d)∈ws:=EC hq
  have at1:At g s (d+1) (g.nxt t m):=(h.dist _ hmem).1.succ hm
  have dn:d4 g s (d+1) (g.nxt t m):=by
   refine⟨at1,λj hj=>?_⟩
   obtain⟨i,hi,di⟩:=hj.dist
   by_cases hid:i<=d
   ·exfalso
    cases i with
    |zero =>
     have:=di.1.tZ
     rw[this]at hin
     exact hin (EH.mpr ⟨(s,0),EC h.head,rfl⟩)
    |succ i =>
     obtain⟨v,m',dv,hm',ev⟩:=di.pred
     have hv:=h.qb hq i v dv (by show i<d;lia)
     have:=h.closed _ hv m' hm'
     rw[<-ev]at this
     exact hin this
   ·lia
  have tk:=uk (g:=g) (t:=t) (d:=d) (m:=m) (Hm hk)
  rw[e]at tk
  rw[e]
  refine⟨?_,λp hp=>?_,?_,?_,λp hp m' hm'=>?_,λp hp=>?_,λq hq' p hp=>?_⟩
  ·rw[EI]
   refine Fw.mpr ⟨h.nd,by simp,λa ha b hb=>?_⟩
   have:b=g.nxt t m:=by simpa using hb
   subst this
   rintro rfl
   exact hin ha
  ·rcases EX.mp hp with hp|hp
   ·exact h.dist p hp
   ·have:p=(g.nxt t m,d+1):=by simpa using hp
    subst this
    exact dn
  ·refine List.pairwise_append.mpr ⟨h.mono,by simp,λa ha b hb=>?_⟩
   have:b=(g.nxt t m,d+1):=by simpa using hb
   subst this
   exact h.near _ hq a ha
  ·rw[FO (by lia)];exact h.head
  ·rw[tk]at hp
   rw[EI]
   exact Fc _ (h.closed p hp m' hm')
  ·rw[tk]at hp
   exact h.fine p hp
  ·rw[FO hk,hq]at hq'
   cases hq'
   rcases EX.mp hp with hp|hp
   ·exact h.near _ hq p hp
   ·have:p=(g.nxt t m,d+1):=by simpa using hp
    subst this
    exact Ep _
def QI.step{g:G σ μ}{s t:σ}{k d:Nat}{ws:List (σ×Nat)}(h:QI g s k ws)(hq:ws[k]?=some (t,d))(hb:g.bad t=none)(hc:∀m∈g.may t,g.nxt t m∈ws.map (·.1)):QI g s (k+1) ws:=by
 have hk:k<ws.length:=(EF.mp hq).1
 have tk:ws.take (k+1)=ws.take k++[(t,d)]:=by rw[List.take_add_one,hq];rfl
 refine⟨h.nd,h.dist,h.mono,h.head,λp hp=>?_,λp hp=>?_,λq hq' p hp=>?_⟩
 ·rw[tk]at hp
  rcases EX.mp hp with hp|hp
  ·exact h.closed p hp
  ·have:p=(t,d):=by simpa using hp
   subst this
   exact hc
 ·rw[tk]at hp
  rcases EX.mp hp with hp|hp
  ·exact h.fine p hp
  ·have:p=(t,d):=by simpa using hp
   subst this
   exact hb
 ·have h1:=h.near _ hq p hp
  obtain⟨hk1,e1⟩:=EF.mp hq
  obtain⟨hk2,e2⟩:=EF.mp hq'
  have:=IM.mp h.mono k (k+1) hk1 hk2 (by lia)
  rw[e1,e2]at this
  have this:d<=q.2:=this
  have h1:p.2<=d+1:=h1
  lia
def QI.done{g:G σ μ}{s:σ}{ws:List (σ×Nat)}(h:QI g s ws.length ws):∀k t,At g s k t->g.bad t=none:=by
 have tk:ws.take ws.length=ws:=EN
 have all:∀k t,At g s k t->t∈ws.map (·.1):=by
  intro k
  induction k with
  |zero =>
   intro t ht
   have:=ht.tZ
   subst this
   exact EH.mpr ⟨(t,0),EC h.head,rfl⟩
  |succ k ih =>
   intro t ht
   obtain⟨u,m,hu,hm,e⟩:=ht.inv
   obtain⟨p,hp,e2⟩:=EH.mp (ih u hu)
   rw[e,<-e2]
   exact h.closed p (by rw[tk];exact hp) m (by rw[e2];exact hm)
 intro k t ht
 obtain⟨p,hp,e⟩:=EH.mp (all k t ht)
 rw[<-e]
 exact h.fine p (by rw[tk];exact hp)
def QI.found{g:G σ μ}{s t:σ}{k d:Nat}{ws:List (σ×Nat)}(h:QI g s k ws)(hq:ws[k]?=some (t,d)):At g s d t/\∀j u,At g s j u->g.bad u≠none->d<=j:=by
 refine⟨(h.dist _ (EC hq)).1,λj u hj hu=>?_⟩
 obtain⟨i,hi,di⟩:=hj.dist
 by_cases hid:i<d
 ·exact absurd (h.fine _ (h.qb hq i u di hid)) hu
 ·lia
end UfBfs
end
section
namespace Uf
open PySem L2 UfSrt
def Dv:Option Str->V
 |some x=>.str x
 |none=>.non
def x8{L:List Str}{p:Str->Bool}{i:Nat}{x:Str}(hx:L[i]?=some x)(hp:p x=true)(hb:∀y∈L.take i,p y=false):L.find? p=some x:=by
 have e:L=L.take i++(x::L.drop (i+1)):=by
  have hi:=(EF.mp hx).1
  have e2:L.drop i=x::L.drop (i+1):=by
   rw[GD hi]
   rw[EA hi]at hx
   rw[EO hx]
  rw[<-e2,FT]
 rw[e,List.find?_append]
 have n:(L.take i).find? p=none:=HL.mpr λy hy=>by rw[hb y hy];simp
 rw[n]
 simp[hp]
inductive mw(K:PySem.W.Frag)(C:Addr)(vs:List V)(H:Hp)(Q:VK)(E:XK):Prop
 |mk (p a:Addr) (ms:List Mv) (st s:List Str) (_:vs=[.ref p,.ref a]) (_:bK C H p ms st) (_:cT K H a (aw s)) (_:s.length<=50) (_:∀H',au H H'->Q (Dv (cU ms s)) H')
def lZ:az ["net", "state", "move"] ["net", "state"] (aj dR):=gm
def qP{f C:Addr}{fd:FuncData}(F:d3 K "crowder" "crowder" dR f fd)(CT:iB K C)(DM:vZ P w K mg base C "moves" "Net.moves" iJ ["self"] 1 (qY C))
  (DL:kA P w K mg base "lacks_bead" fV ["net", "state", "move"] 4 (jk K C λm s=>bO m.2.1 s))
  (DS:kA P w K mg base "gives_second" d9 ["net", "state", "move"] 4 (jk K C λm s=>second m.2.1 m.2.2 s)) :
  aM P w K mg base cW 5 f fd ["net", "state"] (mw K C):=by
 refine F.oK lZ λcdv A outer s H vs Q E hr h=>?_
 ·obtain⟨p,a,ms,st,s',rfl,N,ha,hz,k⟩:=h
  refine⟨_,ah (dU Fg rfl (bh (fh (pv 0) CT.cl DM.d.mt DM.g (hr.mono (by decide)) DM.d.bd .nil bF)) (la 2 lZ)
    (aq (cj (PW.pt (pw_and (cK (bU (jR DL hr (aa (pv 0) (aa (pv 1) (aa (pv 2) ag)))))) (pw_and1 (bU (jR DS hr (aa (pv 0) (aa (pv 1) (aa (pv 2) ag)))))))) (aq (aH (pv 2))) aZ)))
   (aq (aH jx)),?_⟩
  try dsimp only[bz,Cx.ff,Cx.cG]
  obtain⟨dx,aP,aS,aT,aG,kT,kG,h1,_⟩:=N.at'.ob
  refine⟨_,rfl,p,dx,_,rfl,h1,dD _ _ _ _ zt zz zp yT,p,ms,st,rfl,N,λH1 q s1 nq hq=>?_⟩
  refine⟨q,rfl,⟨_,aR.of hq⟩,cO (K:=K) (a:=q) (xs:=aw (aI (names ms))) (λi σ H2=>∃v:Option V,σ=[some (.ref p),some (.ref a),v]/\au H1 H2/\∀y∈(aI (names ms)).take i,(!cI ms s' y&&fk ms s' y)=false)
   ⟨none,rfl,au.refl _,λy hy=>by simp at hy⟩ (λi σ H2 _ ⟨_,_,sm,_⟩=>aR.of (sm _ _ hq)) ?_ ?_⟩
  ·rintro i v σ H2 hi ⟨v0,rfl,sm,hb⟩
   obtain⟨x,hx,rfl⟩:=cz hi
   obtain⟨m,hm,rfl⟩:=cP (EC hx)
   have sA:au H H2:=s1.trans sm
   refine⟨_,rfl,_,rfl,_,rfl,p,a,ms,st,s',m,rfl,N.same sA,hm,dP sA ha,by lia,λH3 s3=>⟨_,rfl,?_⟩⟩
   have el:bO m.2.1 s'=cI ms s' m.1:=by unfold cI;rw[de N.so.nd hm]
   have es:second m.2.1 m.2.2 s'=fk ms s' m.1:=by unfold fk;rw[de N.so.nd hm,ee N.so.nd hm]
   show if (!bO m.2.1 s')=true then _ else _
   rw[el]
   have more:(!cI ms s' m.1&&fk ms s' m.1)=false->∀y∈(aI (names ms)).take (i+1),(!cI ms s' y&&fk ms s' y)=false:=λe y hy=>by
    rw[ar hx]at hy
    rcases EX.mp hy with hy|hy
    ·exact hb y hy
    ·have:y=m.1:=by simpa using hy
     rw[this]
     exact e
   cases c1:cI ms s' m.1 with
   |true =>
    refine br ?_
    refine br ?_
    exact⟨_,rfl,sm.trans s3,more (by rw[c1];rfl)⟩
   |false =>
    refine bM ?_
    refine⟨_,rfl,_,rfl,_,rfl,p,a,ms,st,s',m,rfl,N.same (sA.trans s3),hm,dP (sA.trans s3) ha,by lia,λH4 s4=>⟨_,rfl,?_⟩⟩
    show if second m.2.1 m.2.2 s'=true then _ else _
    rw[es]
    cases c2:fk ms s' m.1 with
    |false =>
     refine br ?_
     exact⟨_,rfl,(sm.trans s3).trans s4,more (by rw[c1,c2];rfl)⟩
    |true =>
     refine bM ?_
     refine⟨_,rfl,?_⟩
     have e:cU ms s'=some m.1:=x8 hx (by rw[c1,c2];rfl) hb
     have q1:=k H4 (sA.trans (s3.trans s4))
     rw[e]at q1
     exact q1
  ·rintro σ H2 ⟨v0,rfl,sm,hb⟩
   rw[ao,EN]at hb
   have e:cU ms s'=none:=HL.mpr λy hy=>by rw[hb y hy];simp
   have q1:=k H2 (s1.trans sm)
   rw[e]at q1
   exact q1
end Uf
end
section
namespace Uf
open PySem L2 UfSrt UfFin
def graph(ms:List Mv):UfBfs.G (List Str) Str:=⟨iM ms,cb ms,cU ms⟩
def dQ(t:List Str):List Key:=t.map Sum.inr
def d6(t:List Str):(dQ t).map kV=aw t:=by
 unfold dQ aw
 rw[Fo]
 rfl
theorem iG:∀{t u:List Str},dQ t=dQ u->t=u
 |[],[],_=>rfl
 |[],_::_,h=>by simp[dQ]at h
 |_::_,[],h=>by simp[dQ]at h
 |x::t,y::u,h=>by
  unfold dQ at h
  rw[Ff,Ff]at h
  obtain⟨h1,h2⟩:=JD h
  have e:x=y:=by injection h1
  rw[e,iG (t:=t) (u:=u) h2]
def kX(H:Hp)(a:Addr)(ts:List (List Str)):Prop:=∃qs:List Addr,H a=some (.lst (qs.map V.ref))/\Paired (λt q=>H q=some (.tup (aw t))) ts qs
def qC(H:Hp)(x:Option (List Str×Str))(v:V):Prop:=match x with
 |none=>v=.non
 |some (u,m)=>∃q b,v=.ref q/\H q=some (.tup [.ref b,.str m])/\H b=some (.tup (aw u))
def nh(H H':Hp):Prop:=∀b xs,H b=some (.tup xs)->H' b=some (.tup xs)
def _root_.L2.au.bQ{H H':Hp}(s:au H H'):nh H H':=λb xs e=>s b _ e
def gu{H:Hp}{a:Addr}{o u:HO}(e:H a=some o)(n:∀xs,o≠.tup xs):nh H (upd H a u):=λb xs q=>by
 rw[af (aJ q e (λz=>n xs z.symm))]
 exact q
def qC.bQ{H H':Hp}{x:Option (List Str×Str)}{v:V}(s:nh H H')(h:qC H x v):qC H' x v:=by
 cases x with
 |none=>exact h
 |some p =>
  obtain⟨q,b,h1,h2,h3⟩:=h
  exact⟨q,b,h1,s _ _ h2,s _ _ h3⟩
abbrev WP(H:Hp):UfBfs.bL (List Str) Str->List (List Key×V)->Prop:=Paired λp kv=>kv.1=dQ p.1/\qC H p.2 kv.2
def ix(H:Hp)(d:Addr)(w:UfBfs.bL (List Str) Str):Prop:=∃kvs,H d=some (.dT kvs)/\WP H w kvs
theorem WP.bQ{H H':Hp}{w:UfBfs.bL (List Str) Str}{kvs:List (List Key×V)}(s:nh H H')(h:WP H w kvs):WP H' w kvs:=Paired.dy h λ_ _ z=>⟨z.1,z.2.bQ s⟩
theorem WP.none{H:Hp}{t:List Str}:∀{w:UfBfs.bL (List Str) Str} {kvs:List (List Key×V)},WP H w kvs->UfBfs.look w t=none->cA kvs (dQ t)=.none
 |_,_,.nil,_=>rfl
 |p::w,kv::kvs,.cons h r,e=>by
  by_cases ht:p.1=t
  ·simp[UfBfs.look,ht]at e
  ·have e':UfBfs.look w t=Option.none:=by simpa[UfBfs.look,ht] using e
   rw[bA (λz=>ht (iG (h.1.symm.trans z)))]
   exact WP.none r e'
theorem WP.some{H:Hp}{t:List Str}{x:Option (List Str×Str)}:∀{w:UfBfs.bL (List Str) Str} {kvs:List (List Key×V)},WP H w kvs->UfBfs.look w t=some x->∃v,cA kvs (dQ t)=.some v/\qC H x v
 |_,_,.nil,e=>by simp[UfBfs.look]at e
 |p::w,kv::kvs,.cons h r,e=>by
  by_cases ht:p.1=t
  ·have e':p.2=x:=by simpa[UfBfs.look,ht] using e
   refine⟨kv.2,bJ (by rw[h.1,ht]),?_⟩
   rw[<-e']
   exact h.2
  ·have e':UfBfs.look w t=Option.some x:=by simpa[UfBfs.look,ht] using e
   rw[bA (λz=>ht (iG (h.1.symm.trans z)))]
   exact WP.some r e'
structure fu(ms:List Mv)(st t:List Str):Prop where
 ris:dh t
 sub:∀x∈t,x∈cD ms st
def pd(ms:List Mv)(st:List Str):dh (cD ms st):=dh.aI (UfSet.kg _)
def fu.len{ms:List Mv}{st t:List Str}(so:Sound ms st)(h:fu ms st t):t.length<=12:=ET (fz h.ris.nd h.sub) so.pl
def j6{ms:List Mv}{st:List Str}(so:Sound ms st){l:List (List Str)}(hn:l.Nodup)(h:∀t∈l,fu ms st t):l.length<=4096:=by
 have h1:=fz hn λt ht=>(h t ht).ris.yq (pd ms st) (h t ht).sub
 rw[pO]at h1
 refine ET h1 (ET (Hu (by decide) so.pl) (by decide))
def pR{ms:List Mv}{st:List Str}{x:Str}:x∈cD ms st↔x∈st\/∃m∈ms,x∈m.2.1\/x∈m.2.2:=by
 unfold cD
 rw[cQ,UfSet.m7,EX]
 unfold je
 rw[IZ]
 simp only[EX]
def iy{ms:List Mv}{st:List Str}(so:Sound ms st):fu ms st (aI st):=⟨dh.aI (gU so.su),λx hx=>pR.mpr (.inl (cQ.mp hx))⟩
def jS{ms:List Mv}{t:List Str}{x:Str}:x∈iM ms t↔x∈names ms/\cI ms t x=false/\fk ms t x=false:=by
 unfold iM
 rw[Fx,Fx,cQ]
 simp[and_assoc]
def mh{ms:List Mv}{st t:List Str}{m:Mv}(so:Sound ms st)(h:fu ms st t)(hm:m∈ms)(hs:second m.2.1 m.2.2 t=false):fu ms st (behind m.2.1 m.2.2 t):=by
 obtain⟨_,u2,_⟩:=hU (so.mv m hm)
 have gn:m.2.2.Nodup:=gU u2
 refine⟨dh.aI (Fw.mpr ⟨h.ris.nd.sublist GZ,gn,λa ha b hb=>?_⟩),λx hx=>?_⟩
 ·rintro rfl
  obtain⟨h1,h2⟩:=Fx.mp ha
  have h3:second m.2.1 m.2.2 t=true:=GV.mpr ⟨a,hb,by simp at h2;simp[h1,h2]⟩
  rw[hs]at h3
  cases h3
 ·unfold behind at hx
  rcases EX.mp (cQ.mp hx) with z|z
  ·exact h.sub x (Fx.mp z).1
  ·exact pR.mpr (.inr ⟨m,hm,.inr z⟩)
def kI{ms:List Mv}{st t:List Str}{x:Str}(so:Sound ms st)(h:fu ms st t)(hx:x∈iM ms t):∃m∈ms,m.1=x/\bO m.2.1 t=false/\second m.2.1 m.2.2 t=false/\cb ms t x=behind m.2.1 m.2.2 t/\fu ms st (cb ms t x):=by
 obtain⟨h1,h2,h3⟩:=jS.mp hx
 obtain⟨m,hm,rfl⟩:=EH.mp h1
 unfold cI at h2
 unfold fk at h3
 rw[de so.nd hm]at h2 h3
 rw[ee so.nd hm]at h3
 have e:cb ms t m.1=behind m.2.1 m.2.2 t:=by
  unfold cb
  rw[de so.nd hm,ee so.nd hm]
 exact⟨m,hm,rfl,h2,h3,e,by rw[e];exact mh so h hm h3⟩
def bK.but{C:Addr}{H H':Hp}{p d:Addr}{ms:List Mv}{st:List Str}{kvs:List (List Key×V)}(hd:H d=some (.dT kvs))(b:iu d H H')(h:bK C H p ms st):bK C H' p ms st:=by
 obtain⟨⟨dx,aP,aS,aT,aG,kT,kG,h1,h2,h3,h4,h5,h6,h7⟩,so,tb⟩:=h
 have up:∀{c:Addr} {o:HO},H c=some o->(∀k,o≠.dT k)->H' c=some o:=λe n=>b _ _ e (aJ e hd (n _))
 exact⟨⟨dx,aP,aS,aT,aG,kT,kG,up h1 (λ_ z=>nomatch z),up h2 (λ_ z=>nomatch z),up h3 (λ_ z=>nomatch z),up h4 (λ_ z=>nomatch z),up h5 (λ_ z=>nomatch z),h6.same λc xs e=>up e (λ_ z=>nomatch z),h7.same λc xs e=>up e (λ_ z=>nomatch z)⟩,so,up tb (λ_ z=>nomatch z)⟩
structure Acc(ms:List Mv)(st:List Str)(acc:UfBfs.bL (List Str) Str×List (List Str)):Prop where
 nd:(acc.1.map (·.1)).Nodup
 fine:∀t∈acc.1.map (·.1),fu ms st t
 len:acc.2.length<=acc.1.length
def Acc.try{ms:List Mv}{st t:List Str}{acc:UfBfs.bL (List Str) Str×List (List Str)}{m:Str}(h:Acc ms st acc)(hf:fu ms st (cb ms t m)):Acc ms st (UfBfs.gA (graph ms) t acc m):=by
 unfold UfBfs.gA
 show Acc ms st (if (UfBfs.look acc.1 (cb ms t m)).isSome=true then acc else(acc.1++[(cb ms t m,some (t,m))],acc.2++[cb ms t m]))
 cases e:UfBfs.look acc.1 (cb ms t m) with
 |some x=>exact h
 |none =>
  have hn:=UfBfs.mq.mp e
  refine⟨?_,λu hu=>?_,by have:=h.len;simp;lia⟩
  ·show((acc.1++[(cb ms t m,some (t,m))]).map (·.1)).Nodup
   rw[EI]
   refine Fw.mpr ⟨h.nd,by simp,λa ha b hb=>?_⟩
   have:b=cb ms t m:=by simpa using hb
   subst this
   rintro rfl
   exact hn ha
  ·have hu:u∈(acc.1++[(cb ms t m,some (t,m))]).map (·.1):=hu
   rw[EI]at hu
   rcases EX.mp hu with z|z
   ·exact h.fine u z
   ·have:u=cb ms t m:=by simpa using z
    rw[this]
    exact hf
def Acc.qN{ms:List Mv}{st:List Str}{acc:UfBfs.bL (List Str) Str×List (List Str)}(so:Sound ms st)(h:Acc ms st acc):acc.1.length<=4096:=by
 have:=j6 so h.nd h.fine
 rw[Et]at this
 exact this
inductive rM(C:Addr)(vs:List V)(H:Hp)(Q:VK)(E:XK):Prop
 |mk (p a d:Addr) (ms:List Mv) (st:List Str) (ts:List (List Str)) (wy:UfBfs.bL (List Str) Str) (_:vs=[.ref p,.ref a,.ref d]) (_:bK C H p ms st) (_:kX H a ts) (_:ix H d wy) (_:(∀t∈ts,fu ms st t)) (_:Acc ms st (wy,[])) (_:∀H' q,iu d H H'->H q=none->kX H' q (UfBfs.dX (graph ms) ts wy).2->ix H' d (UfBfs.dX (graph ms) ts wy).1->Acc ms st (UfBfs.dX (graph ms) ts wy)->Q (.ref q) H')
def iU:az ["net", "states", "ways", "reached", "state", "move", "behind"] ["net", "states", "ways"] (aj gM):=gm
inductive DQ(H:Hp)(p a d r:Addr)(ms:List Mv)(st:List Str)(ts:List (List Str))(wy:UfBfs.bL (List Str) Str)(i:Nat)(σ:St)(H2:Hp):Prop
 |mk (v4 v5 v6:Option V) (acc:UfBfs.bL (List Str) Str×List (List Str)) (q0:acc=(ts.take i).foldl (UfBfs.tryAll (graph ms)) (wy,[])) (q1:σ=[some (.ref p),some (.ref a),some (.ref d),some (.ref r),v4,v5,v6]) (q2:iu d H H2) (q3:kX H2 r acc.2) (q4:ix H2 d acc.1) (q5:Acc ms st acc)
inductive Cz(H:Hp)(p a d r tq q:Addr)(ms:List Mv)(st t:List Str)(acc:UfBfs.bL (List Str) Str×List (List Str))(j:Nat)(σ:St)(H4:Hp):Prop
 |mk (v5 v6:Option V) (acc':UfBfs.bL (List Str) Str×List (List Str)) (q0:acc'=((iM ms t).take j).foldl (UfBfs.gA (graph ms) t) acc) (q1:σ=[some (.ref p),some (.ref a),some (.ref d),some (.ref r),some (.ref tq),v5,v6]) (q2:iu d H H4) (q3:H4 q=some (.lst (aw (iM ms t)))) (q4:kX H4 r acc'.2) (q5:ix H4 d acc'.1) (q6:Acc ms st acc')
def DQ.but{H:Hp}{p a d r:Addr}{ms:List Mv}{st:List Str}{ts:List (List Str)}{wy:UfBfs.bL (List Str) Str}{i:Nat}{σ:St}{H2:Hp}(h:DQ H p a d r ms st ts wy i σ H2):iu d H H2:=by
 cases h
 assumption
def Cz.at_{H:Hp}{p a d r tq q:Addr}{ms:List Mv}{st t:List Str}{acc:UfBfs.bL (List Str) Str×List (List Str)}{j:Nat}{σ:St}{H4:Hp}(h:Cz H p a d r tq q ms st t acc j σ H4):H4 q=some (.lst (aw (iM ms t))):=by
 cases h
 assumption
def vR{f C:Addr}{fd:FuncData}(F:d3 K "newly_reached" "newly_reached" gM f fd)
  (DM:kA P w K mg base "may" pW ["net", "state"] 5 (zw K C))
  (DB:kA P w K mg base "state_behind" eY ["net", "state", "move"] 4 (pC K C)) :
  aM P w K mg base cW 6 f fd ["net", "states", "ways"] (rM C):=by
 refine F.oK iU λcdv A outer s H vs Q E hr h=>?_
 ·obtain⟨p,a,d,ms,st,ts,wy,rfl,N,⟨qs,hq,hp⟩,⟨kvs0,hd0,wp0⟩,hts,ac0,k⟩:=h
  have hu:=gh hr
  refine⟨_,ah (eR 3 iU (bZ ag))
   (ah (dU Fg rfl (bh (pv 1)) (la 4 iU)
    (aq (dU Fg rfl (bh (jR DM hr (aa (pv 0) (aa (pv 4) ag)))) (la 5 iU)
     (ah (eR 6 iU (jR DB (hr.mono (by decide)) (aa (pv 0) (aa (pv 4) (aa (pv 5) ag)))))
      (aq (cj (gI (hV hu (pv 6) (pv 2)))
       (ah (gZ hu (pv 2) (pv 6) (dF (aa (pv 4) (aa (pv 5) ag))) rfl)
        (aq (bD (gS E6 E9 Fb bC (pv 3) (aa (pv 6) ag))))) aZ))))))
   (aq (aH (pv 3)))),?_⟩
  clear hu
  dsimp only[bz,Cx.ff]
  refine⟨EV _,λr nr=>?_⟩
  have s0:au H (upd H r (.lst [])):=ak nr
  have so:=N.so
  have hsl:=E1
  have nda:a≠d:=aJ hq hd0 (λz=>nomatch z)
  refine⟨_,rfl,a,rfl,⟨_,aR.of (s0 _ _ hq)⟩,cO (K:=K) (a:=a) (xs:=qs.map V.ref) (DQ H p a d r ms st ts wy)
   ⟨none,none,none,(wy,[]),rfl,rfl,λc o e _=>s0 _ _ e,⟨[],ae,.nil⟩,⟨kvs0,s0 _ _ hd0,wp0.bQ s0.bQ⟩,ac0⟩ (λi σ H2 _ h=>aR.of (h.but _ _ hq nda)) ?_ ?_⟩
  ·rintro i v σ H2 hi ⟨v4,v5,v6,acc,ea,rfl,b2,S2,W2,ac2⟩
   obtain⟨tq,hqi,rfl⟩:=cX hi
   obtain⟨t,ht,htq⟩:=bf hp hqi
   have hft:fu ms st t:=hts t (EC ht)
   have ntd:tq≠d:=aJ htq hd0 (λz=>nomatch z)
   have htq2:=b2 _ _ htq ntd
   refine⟨_,rfl,_,rfl,p,tq,ms,st,t,rfl,N.but hd0 b2,cT.of htq2,by have:=hft.len so;lia,λH3 q s3 nq hq3=>?_⟩
   obtain⟨rs2,hr2,hrp2⟩:=S2
   obtain⟨kvs2,hd2,wp2⟩:=W2
   have nqd:d≠q:=ai hd2 nq
   have nqr:r≠q:=ai hr2 nq
   have ets:ts.take (i+1)=ts.take i++[t]:=ar ht
   refine⟨q,rfl,⟨_,aR.of hq3⟩,cO (K:=K) (a:=q) (xs:=aw (iM ms t)) (Cz H p a d r tq q ms st t acc)
    ⟨v5,v6,acc,rfl,rfl,b2.then s3,hq3,⟨rs2,s3 _ _ hr2,Paired.dy hrp2 λ_ _ e=>s3 _ _ e⟩,⟨kvs2,s3 _ _ hd2,wp2.bQ s3.bQ⟩,ac2⟩ (λj σ H4 _ h=>aR.of h.at_) ?_ ?_⟩
   ·rintro j v σ H4 hj ⟨v5,v6,acc',ea',rfl,b4,hq4,S4,W4,ac4⟩
    obtain⟨x,hx,rfl⟩:=cz hj
    obtain⟨m,hm,rfl,_,hsec,eb,hfb⟩:=kI so hft (EC hx)
    refine⟨_,rfl,_,rfl,_,rfl,p,tq,ms,st,t,m,rfl,N.but hd0 b4,hm,cT.of (b4 _ _ htq ntd),by have:=hft.len so;lia,λH5 q5 s5 nq5 hq5=>?_⟩
    obtain⟨rs4,hr4,hrp4⟩:=S4
    obtain⟨kvs4,hd4,wp4⟩:=W4
    have hd5:=s5 _ _ hd4
    have hr5:=s5 _ _ hr4
    have wp5:WP H5 acc'.1 kvs4:=wp4.bQ s5.bQ
    have hrp5:=Paired.dy hrp4 λt q (e:H4 q=some (.tup (aw t)))=>s5 q _ e
    have hq5k:H5 q5=some (.tup ((dQ (cb ms t m.1)).map kV)):=by rw[d6,eb];exact hq5
    have etk:(iM ms t).take (j+1)=(iM ms t).take j++[m.1]:=ar hx
    have efold:((iM ms t).take (j+1)).foldl (UfBfs.gA (graph ms) t) acc=UfBfs.gA (graph ms) t acc' m.1:=by rw[etk,Hl,<-ea'];rfl
    have qN:=ac4.qN so
    have lkv:kvs4.length=acc'.1.length:=(EW wp4).symm
    have lrs:rs4.length=acc'.2.length:=(EW hrp4).symm
    have al:=ac4.len
    refine⟨_,rfl,_,rfl,d,_,rfl,eQ.t hd5 hq5k,_,rfl,?_⟩
    cases hl:UfBfs.look acc'.1 (cb ms t m.1) with
    |some y =>
     obtain⟨v,hv,_⟩:=wp5.some hl
     rw[hv]
     refine br ?_
     have e1:UfBfs.gA (graph ms) t acc' m.1=acc':=by
      unfold UfBfs.gA
      exact EG (by show(UfBfs.look acc'.1 (cb ms t m.1)).isSome=true;rw[hl];rfl)
     exact⟨_,_,acc',by rw[efold,e1],rfl,b4.then s5,s5 _ _ hq4,⟨rs4,hr5,hrp5⟩,⟨kvs4,hd5,wp5⟩,ac4⟩
    |none =>
     rw[wp5.none hl]
     refine bM ?_
     have e1:UfBfs.gA (graph ms) t acc' m.1=(acc'.1++[(cb ms t m.1,some (t,m.1))],acc'.2++[cb ms t m.1]):=by
      unfold UfBfs.gA
      exact Ex (by show ¬(UfBfs.look acc'.1 (cb ms t m.1)).isSome=true;rw[hl];simp)
     refine⟨_,rfl,_,rfl,by show 2<=sizeLine;lia,λq6 nq6=>?_⟩
     have s6:au H5 (upd H5 q6 (.tup [.ref tq,.str m.1])):=ak nq6
     have hd6:=s6 _ _ hd5
     have hr6:=s6 _ _ hr5
     have h6:(upd H5 q6 (.tup [.ref tq,.str m.1])) q6=some (.tup [.ref tq,.str m.1]):=ae
     have b6:iu d H (upd H5 q6 (.tup [.ref tq,.str m.1])):=(b4.then s5).then s6
     have wp6:=wp5.bQ s6.bQ
     have hrp6:=Paired.dy hrp5 λt q (e:H5 q=some (.tup (aw t)))=>s6 q _ e
     have hq6k:=s6 _ _ hq5k
     have hq6:=s6 _ _ hq5
     have hqq6:=s6 _ _ (s5 _ _ hq4)
     have htq6:=b6 _ _ htq ntd
     generalize upd H5 q6 (.tup [.ref tq,.str m.1])=H6 at s6 hd6 hr6 h6 b6 wp6 hrp6 hq6k hq6 hqq6 htq6 ⊢
     refine⟨_,rfl,_,rfl,d,_,rfl,jK.t hd6 hq6k (by lia),?_⟩
     have pk:putK kvs4 (dQ (cb ms t m.1)) (V.ref q6)=kvs4++[(dQ (cb ms t m.1),V.ref q6)]:=fm _ (wp5.none hl)
     rw[pk]
     have t7:nh H6 (upd H6 d (.dT (kvs4++[(dQ (cb ms t m.1),V.ref q6)]))):=gu hd6 (λ_ z=>nomatch z)
     have nrd:r≠d:=aJ hr6 hd6 (λz=>nomatch z)
     have nqd6:q≠d:=aJ hqq6 hd6 (λz=>nomatch z)
     have hr7:(upd H6 d (.dT (kvs4++[(dQ (cb ms t m.1),V.ref q6)]))) r=some (.lst (rs4.map V.ref)):=by rw[af nrd];exact hr6
     refine⟨_,rfl,.inl ⟨rfl,_,aR.of hr7⟩,_,rfl,r,_,_,rfl,rfl,hr7,by rw[Et];lia,?_⟩
     have hd7:(upd H6 d (.dT (kvs4++[(dQ (cb ms t m.1),V.ref q6)]))) d=some (.dT (kvs4++[(dQ (cb ms t m.1),V.ref q6)])):=ae
     have hq7:(upd H6 d (.dT (kvs4++[(dQ (cb ms t m.1),V.ref q6)]))) q=some (.lst (aw (iM ms t))):=by rw[af nqd6];exact hqq6
     have b7:iu d H (upd H6 d (.dT (kvs4++[(dQ (cb ms t m.1),V.ref q6)]))):=b6.put
     have w7:WP (upd H6 d (.dT (kvs4++[(dQ (cb ms t m.1),V.ref q6)]))) (acc'.1++[(cb ms t m.1,some (t,m.1))]) (kvs4++[(dQ (cb ms t m.1),V.ref q6)]) :=
      FW (wp6.bQ t7) ⟨rfl,q6,tq,rfl,t7 _ _ h6,t7 _ _ htq6⟩
     have r7:=FW (Paired.dy hrp6 λt q (e:H6 q=some (.tup (aw t)))=>t7 q _ e) (a:=cb ms t m.1) (b:=q5) (by have z:=t7 _ _ hq6;rw[<-eb]at z;exact z)
     generalize upd H6 d (.dT (kvs4++[(dQ (cb ms t m.1),V.ref q6)]))=H7 at t7 hr7 hd7 hq7 b7 w7 r7 ⊢
     have t8:nh H7 (upd H7 r (.lst (rs4.map V.ref++[V.ref q5]))):=gu hr7 (λ_ z=>nomatch z)
     have nqr7:q≠r:=λz=>nqr z.symm
     refine⟨_,_,(acc'.1++[(cb ms t m.1,some (t,m.1))],acc'.2++[cb ms t m.1]),by rw[efold,e1],rfl,b7.new nr,by rw[af nqr7];exact hq7,⟨rs4++[q5],by rw[ae,EI];rfl,Paired.dy r7 λt q (e:H7 q=some (.tup (aw t)))=>t8 q _ e⟩,⟨_,by rw[af nrd.symm];exact hd7,w7.bQ t8⟩,?_⟩
     have:=ac4.try (t:=t) (m:=m.1) hfb
     rw[e1]at this
     exact this
   ·rintro σ H4 ⟨v5,v6,acc',ea',rfl,b4,hq4,S4,W4,ac4⟩
    rw[ao,EN]at ea'
    refine⟨_,_,_,acc',?_,rfl,b4,S4,W4,ac4⟩
    rw[ets,Hl,<-ea,ea']
    rfl
  ·rintro σ H2 ⟨v4,v5,v6,acc,ea,rfl,b2,S2,W2,ac2⟩
   have el:(qs.map V.ref).length=ts.length:=by rw[Et,<-EW hp]
   rw[el,EN]at ea
   have e:acc=UfBfs.dX (graph ms) ts wy:=ea
   subst e
   exact⟨_,rfl,k H2 r b2 nr S2 W2 ac2⟩
inductive si(vs:List V)(H:Hp)(Q:VK)(E:XK):Prop
 |mk (d a:Addr) (t s:List Str) (wy:UfBfs.bL (List Str) Str) (g:UfBfs.G (List Str) Str) (L k:Nat) (ts:List (List Str)) (_:vs=[.ref d,.ref a]) (_:ix H d wy) (_:H a=some (.tup (aw t))) (_:UfBfs.Good g s L wy ts) (_:k<=L) (_:L<=5000) (_:UfBfs.d4 g s k t) (_:∀H' q,au H H'->H q=none->H' q=some (.lst (aw (UfBfs.eZ wy k t)))->Q (.ref q) H')
def jU:az ["ways", "state", "row", "way"] ["ways", "state"] (aj gP):=gm
def uP{f:Addr}{fd:FuncData}(F:d3 K "row_by_ways" "row_by_ways" gP f fd)(T:Txt K mg)(hrev:mg "reversed"=none):aM P w K mg base cW 1 f fd ["ways", "state"] si:=by
 refine F.oK jU λcdv A outer s H vs Q E hr h=>?_
 ·obtain⟨d,a,t,s0,wy,g,L,k,ts,rfl,⟨kvs,hd,wp⟩,ha,good,hkL,hL,hdist,kk⟩:=h
  have hu:=gh hr
  have hsl:=E1
  refine⟨_,ah (eR 2 jU (bZ ag))
   (ah (eR 3 jU (eX hu (pv 0) (pv 1) (λ_ _=>rfl)))
   (ah (iI Fg (gI (mP (pv 3)))
    (ah (bD (gS E6 E9 Fb bC (pv 2) (aa (cN dC (pv 3) av (λ_ _=>rfl)) ag)))
    (aq (eR 3 jU (eX hu (pv 0) (cN dC (pv 3) av (λ_ _=>rfl)) (λ_ _=>rfl))))))
   (aq (aH (qq rfl rfl T.lst dS rfl hrev (aa (pv 2) ag)))))),?_⟩
  clear hu
  dsimp only[bz,Cx.ff]
  refine⟨EV _,λr nr=>?_⟩
  have sm0:au H (upd H r (.lst [])):=ak nr
  have ndr:d≠r:=ai hd nr
  obtain⟨x0,hx0⟩:=good.all k t hkL hdist
  obtain⟨v0,hv0,wv0⟩:=(wp.bQ sm0.bQ).some hx0
  have ha0:(upd H r (.lst [])) a=some (.tup ((dQ t).map kV)):=by rw[d6];exact sm0 _ _ ha
  refine⟨_,rfl,_,rfl,d,v0,rfl,(by rw[<-hv0];exact eQ.t (sm0 _ _ hd) ha0),?_⟩
  refine⟨λm σ H2=>∃(u:List Str) (x:Option (List Str×Str)) (v:V) (rl:List Str),m<=k/\UfBfs.d4 g s0 m u/\UfBfs.look wy u=some x/\qC H2 x v/\σ=[some (.ref d),some (.ref a),some (.ref r),some v]/\au H H2/\H2 r=some (.lst (aw rl))/\rl.length+m=k/\UfBfs.eZ wy k t=UfBfs.eZ wy m u++rl.reverse,
   ⟨k,t,x0,v0,[],Ep _,hdist,hx0,wv0,rfl,sm0,ae,by simp,by simp⟩,?_⟩
  rintro m σ H2 ⟨u,x,v,rl,hmk,hdu,hxu,wv,rfl,sm,hr2,hlen,erow⟩
  obtain⟨k',hk',hd',hway⟩:=good.way u x hxu
  have ek:k'=m:=hd'.uniq hdu
  subst ek
  refine⟨_,rfl,_,rfl,?_⟩
  cases x with
  |none =>
   have ev:v=.non:=wv
   subst ev
   refine br ?_
   have eu:u=s0:=hway
   subst eu
   have h0:k'=0:=by
    have:=hdu.2 0 (UfBfs.At.zero g u)
    lia
   subst h0
   have e2:UfBfs.eZ wy k t=rl.reverse:=by rw[erow];rfl
   refine⟨_,rfl,r,aw rl,rfl,aR.of hr2,λq nq=>?_⟩
   refine kk _ q (sm.trans (ak nq)) (sm.free nq) ?_
   rw[ae,e2]
   unfold aw
   rw[List.map_reverse]
  |some um =>
   obtain⟨u',m'⟩:=um
   obtain⟨q,b,ev,hq,hb⟩:=wv
   subst ev
   obtain⟨j,ej,hdj,hmay,eu⟩:=hway
   subst ej
   refine bM ?_
   obtain⟨x',hx'⟩:=good.all j u' (by lia) hdj
   refine⟨λσ' H'=>∃(u:List Str) (x:Option (List Str×Str)) (v:V) (rl:List Str),j<=k/\UfBfs.d4 g s0 j u/\UfBfs.look wy u=some x/\qC H' x v/\σ'=[some (.ref d),some (.ref a),some (.ref r),some v]/\au H H'/\H' r=some (.lst (aw rl))/\rl.length+j=k/\UfBfs.eZ wy k t=UfBfs.eZ wy j u++rl.reverse,
    λσ' H' h=>⟨j,FI _,h⟩,?_⟩
   refine⟨_,rfl,.inl ⟨rfl,_,aR.of hr2⟩,_,rfl,q,_,1,_,rfl,rfl,cT.of hq,bY (j:=1) rfl,r,_,_,rfl,rfl,hr2,(by rw[ao];lia),?_⟩
   have t3:nh H2 (upd H2 r (.lst (aw rl++[V.str m']))):=gu hr2 (λ_ z=>nomatch z)
   have sm3:au H (upd H2 r (.lst (aw rl++[V.str m']))):=aF sm nr
   have hb3:(upd H2 r (.lst (aw rl++[V.str m']))) b=some (.tup ((dQ u').map kV)):=by rw[d6];exact t3 _ _ hb
   obtain⟨v',hv',wv'⟩:=((wp.bQ sm.bQ).bQ t3).some hx'
   refine⟨_,rfl,_,rfl,q,_,0,_,rfl,rfl,cT.of (t3 _ _ hq),bY (j:=0) rfl,d,v',rfl,(by rw[<-hv'];exact eQ.t (sm3 _ _ hd) hb3),?_⟩
   refine⟨u',x',v',rl++[m'],by lia,hdj,hx',wv',rfl,sm3,?_,by simp;lia,?_⟩
   ·rw[ae]
    unfold aw
    simp
   ·rw[erow]
    have e3:UfBfs.eZ wy (j+1) u=UfBfs.eZ wy j u'++[m']:=by
     simp only[UfBfs.eZ,hxu]
    rw[e3]
    simp
end Uf
end
section
namespace L2
open PySem PySem.Spec PyProof.Rows
structure xn where
 q:Str
 params:Arguments
 g:Str
 n:Str
 s:Str
 scope:Scope
 p1:Pos
 p2:Pos
 p3:Pos
 p4:Pos
 pos:Pos
abbrev xn.body(l:xn):Expr:=.Call (.Name l.g l.p1) [.Name l.n l.p2,.Name l.s l.p3] [] l.p4
structure zl(l:xn):Prop where
 kind:l.scope.kind=.function
 co:l.scope.isCoroutine=false
 gen:l.scope.isGenerator=false
 ls:l.scope.names.lookup l.s=some .local
 ln:l.scope.names.lookup l.n=some .free
 lg:l.scope.names.lookup l.g=some .globalImplicit
 nc:∀x∈l.scope.names,x.2≠.cell
 dn:(l.n==("__debug__":Str))=false
 dn2:(l.n==("__classdict__":Str))=false
 ds:(l.s==("__debug__":Str))=false
 dg:(l.g==("__debug__":Str))=false
structure u5(l:xn)(H:Hp)(f p c0 c':Addr)(pm ctv:Value)(oc ocl:Obj):Prop where
 hf:H f=some (.frz (PySem.W.kla_obj "<lambda>" l.q l.params l.body l.scope [(l.n,c0)] pm c' ctv) (.own f))
 hc:H c'=some (.frz oc (.own c'))
 cd:Aq oc l.q
 hl:H c0=some (.frz ocl (.own c0))
 cl:ocl.data=.cell (some (.ref p))
inductive BI(l:xn)(sp:Sp)(f c0 c':Addr)(pm ctv:Value)(vs:List V)(H:Hp)(Q:VK)(E:XK):Prop
 |mk (p t:Addr) (oc ocl:Obj) (e:vs=[.ref t]) (L:u5 l H f p c0 c' pm ctv oc ocl) (k:sp [.ref p,.ref t] H Q E)
section
variable {P:Program}{w:World}{K:PySem.W.Frag}{mg:Str->Option Value}{base:Heap}{H:Hp}
def nC{h:Heap}{a:Addr}{o:Obj}{u:HO}(hok:gF P w H h)(e:H a=some (.frz o u)):h.get? a=some o:=(hok a _ e).1
def AL{l:xn}{k:Nat}{sp:Sp}{f fC c0 c':Addr}{fdC:FuncData}{psC:List Str}{pm ctv:Value}(lo:zl l)(G:aM P w K mg base cW k fC fdC psC sp)(hm:mg l.g=some (.ref fC))(hk:PySem.W.keepIn K (.ref fC)=true)(hb:Binds K fdC psC []) :
  aM P w K mg base cW (k+1) f (PySem.W.kla_fn "<lambda>" l.q l.params l.body l.scope [(l.n,c0)] pm (.ref c') ctv) [l.s] (BI l sp f c0 c' pm ctv):=by
 refine⟨λvs H Q E h=>?_,λA outer s H args us vs Q E hr e0 hbd hv hsp=>?_⟩
 ·obtain⟨p,t,oc,ocl,rfl,_⟩:=h
  rfl
 ·obtain⟨p,t,oc,ocl,rfl,L,hsp⟩:=hsp
  obtain⟨u,rfl,ru⟩:=hv.one
  obtain rfl:u=Value.ref t:=ru
  have gf:=nC e0.hok L.hf
  have gc:=nC e0.hok L.hc
  have gl:=nC e0.hok L.hl
  obtain⟨cvs,ct,cd1,cd2⟩:=L.cd
  have hcd:s.heap.CodeRec (.ref c') l.q:=⟨c',oc,cvs,ct,rfl,gc,cd1,cd2⟩
  have lim:s.heap.NoLimit:=e0.mod.nolimit.keeps λb o e=>(e0.bs b o e).1
  refine PySem.W.kla_callFunE hr.depth gf rfl lo.co lo.gen rfl hcd (hbd _ _ _ _ ?_)
  refine Ii lo.nc (λy hy=>?_) (λh1 hns hsb=>?_) lo.kind
  ·have:y=(l.s,Value.ref t):=by simpa using hy
   rw[this]
   exact lo.ls
  have kept:∀b o,s.heap.get? b=some o->h1.get? b=some o:=λb o e=>(hsb.2 b (Ez (Er e))).trans (En _ e)
  refine⟨lim.keeps kept,PySem.W.kla_codeExpr ?_⟩
  have KX:K.In h1:=e0.mod.kin.keeps λb o e=>kept b o (e0.bs b o e).1
  have gn:h1.Ns mainGlobals mg:=e0.mod.glob.keeps λb o e=>kept b o (e0.bs b o e).1
  have cellK:h1.IsCell c0 (some (.ref p)):=⟨ocl,kept _ _ gl,L.cl⟩
  have fr1:gF P w H h1:=e0.hok.kept kept
  have locs:h1.Ns s.heap.objs.size (λx=>([l.s].zip [Value.ref t]).reverse.lookup x):=hns
  have e1:nF P w K mg base (A.deeper (PySem.W.envX l.q l.scope s.heap.objs.size f (.ref c') [(l.n,c0)])) (PySem.W.envX l.q l.scope s.heap.objs.size f (.ref c') [(l.n,c0)]::outer) { s with heap:=h1,toks:=s.toks+([l.s].zip [Value.ref t]).length } H :=
   ⟨Around.frames_deeper e0.frames,e0.mod,λb o e=>⟨kept b o (e0.bs b o e).1,(e0.bs b o e).2⟩,ET e0.bsz (Hm hns.lt),
    .cons (by show l.scope.kind≠_;rw[lo.kind];decide) rfl hns (FH e0.bsz) (e0.fG.of_keeps λb o e _=>⟨o,kept b o e,rfl⟩),λb hb=>by
     rcases EB.mp (show b∈s.heap.objs.size::fJ outer from hb) with rfl|hb
     ·exact e0.hok.fresh (Ep _)
     ·exact e0.frf b hb,fr1,e0.bare⟩
  have hl2:([Value.ref p,Value.ref t]++([]:List Value)).length=psC.length:=(G.len _ _ _ _ hsp)
  refine Fp (Gy lo.kind lo.lg (HM gn hm ?_) lo.dg)
  refine Gd (K:=K) (h₀:=base) e0.mod.kin hk ?_ rfl rfl
  refine HF (IK (wpAny_loadName_free lo.kind lo.ln (show List.lookup l.n [(l.n,c0)]=some c0 from Jv) cellK ?_ lo.dn2) lo.dn)
  refine HF (IK (wpAny_loadName_local lo.kind lo.ls locs (show List.lookup l.s [(l.s,Value.ref t)]=some (Value.ref t) from Jv) ?_) lo.ds)
  refine II ⟨KX,?_⟩
  refine Hd (FL (G.run _ _ _ H ⟨[Value.ref p,Value.ref t],[]⟩ [Value.ref p,Value.ref t] [.ref p,.ref t] Q E (hr.deeper _) e1 (hb _ _ KX hl2) (.cons rfl (.cons rfl .nil)) hsp) λr s' hq=>?_)
  cases r with
  |error e=>exact False.elim hq
  |ok fl =>
   cases fl with
   |next=>exact False.elim hq
   |brk=>exact False.elim hq
   |cont=>exact False.elim hq
   |ret u =>
    obtain⟨v,H',os,bare,un,hok',rv,q⟩:=hq
    have nL:∀b o,s.heap.get? b=some o->b≠s.heap.objs.size:=λb o e=>Ez (Er e)
    have nf:∀b o,s.heap.get? b=some o->b∉fJ outer->b∉fJ (PySem.W.envX l.q l.scope s.heap.objs.size f (.ref c') [(l.n,c0)]::outer):=λb o e h z=>(EB.mp (show b∈s.heap.objs.size::fJ outer from z)).elim (nL b o e) h
    refine⟨v,H',os,bare,⟨λb o e n hb hx=>un.keep b o (kept b o e) n (nf b o e hb) hx,λb o e n hb hx=>un.slot b o (kept b o e) n (EK _ hb) hx,λb o e n hx=>un.free b o (kept b o e) n hx,λb o e hx=>un.there b o (kept b o e) hx,un.bQ,un.frzs,un.tbls⟩,hok',rv,q⟩
end
def nR{p q:Pos}(h1:p.line=q.line)(h2:p.col=q.col):∀l:List Value,codeAmong p l=codeAmong q l:=λl=>by
 fun_induction codeAmong p l <;> simp_all[codeAmong]
def oM(mg:Str->Option Value)(base:Heap):Prop:=∃bm ob,mg "__builtins__"=some (.ref bm)/\bm≠builtinsNs/\base.get? bm=some ob/\ob.cls=.type "module"/\ob.dict=some builtinsNs/\ob.data=.plain
inductive DD(l:xn)(TB c0:Addr)(σ:St)(H:Hp)(Q:VK):Prop
 |mk (ht:H TB=some (.tbl (lz l.pos l.q))) (k:∀f c' pm ctv oc H1,au H H1->H f=none->H1 f=some (.frz (PySem.W.kla_obj "<lambda>" l.q l.params l.body l.scope [(l.n,c0)] pm c' ctv) (.own f))->H1 c'=some (.frz oc (.own c'))->Aq oc l.q->Q (.ref f) H1)
section
variable {X:Cx}
def zW{l:xn}{TB c0 c:Addr}(hcode:X.env.code=.ref c)(hch:PySem.W.codeHdIn X.K c TB=true)(hcl:closureFor l.scope X.env=pure [(l.n,c0)])(hq:X.env.qual++"<lambda>"=l.q)(hdef:defaultsOf l.params X.env=([],[]))(hbm:oM X.mg X.base) :
  PE X (.Lambda l.params l.body l.scope l.pos) (DD l TB c0):=by
 intro pins s σ H Q I h
 obtain⟨ht,kk⟩:=h
 obtain⟨pos,q,qs,e1,e2,e3,e4⟩:=(show rj H s.heap TB _ from I.hok TB _ ht)
 have eq:q=l.q/\pos.line=l.pos.line/\pos.col=l.pos.col:=by
  unfold lz at e1
  simp only[Array.mk.injEq,List.cons.injEq,Value.str.injEq,and_true]at e1
  exact⟨e1.1.1.symm,e1.1.2.symm,e1.2.2.symm⟩
 obtain⟨rfl,p1,p2⟩:=eq
 rw[nR p1 p2]at e4
 have CH:=JL I.eD hch
 have gn:=I.mod.glob.keeps I.bk
 obtain⟨bm,ob,b1,b2,b3,b4,b5,b6⟩:=hbm
 have b3':=I.bk _ _ b3
 have nbT:bm≠TB:=λz=>by rw[z,e2]at b3';cases b3';cases b4
 have ngT:mainGlobals≠TB:=λz=>by
  obtain⟨o,es,ep,a1,a2,_⟩:=gn
  rw[z,e2]at a1
  cases a1
  cases a2
 have nbG:bm≠mainGlobals:=λz=>by
  obtain⟨o,es,ep,a1,a2,_⟩:=gn
  rw[<-z,b3']at a1
  cases a1
  rw[b6]at a2
  cases a2
 have BA:s.heap.BuiltinsAt X.mg TB:=⟨bm,ob,b1,b2,nbG,nbT,b3',b4,b5,b6⟩
 refine PySem.W.kla_eval hdef ?_
 rw[hq]
 rcases e4 with e4|⟨c',oc,e4,e5,e6⟩
 ·refine PySem.W.kla_makeFunction hcl I.ok.glob gn hcode CH e2 e3 e4 ngT BA λc' ctv h' tk hx hge hlt hrec htb=>?_
  obtain⟨c2,oc,vs,t,hc2,hoc,hd,hv⟩:=hrec
  cases hc2
  have lt:∀b u,H b=some u->b<s.heap.objs.size:=λb u e=>I.hok.lt e
  have nc:∀b,b<s.heap.objs.size->b≠c'/\b≠h'.objs.size:=λb hb=>⟨by lia,by lia⟩
  have ncf:c'≠h'.objs.size:=Ez hlt
  have up:∀{b u},H b=some u->(upd (upd H c' (.frz oc (.own c'))) h'.objs.size (.frz (PySem.W.kla_obj "<lambda>" l.q l.params l.body l.scope [(l.n,c0)] ((X.mg "__name__").getD .none) c' ctv) (.own h'.objs.size))) b=some u:=λ{b u} e=>by
   have:=nc b (lt b u e)
   rw[af this.2,af this.1]
   exact e
  have uc:(upd (upd H c' (.frz oc (.own c'))) h'.objs.size (.frz (PySem.W.kla_obj "<lambda>" l.q l.params l.body l.scope [(l.n,c0)] ((X.mg "__name__").getD .none) c' ctv) (.own h'.objs.size))) c'=some (.frz oc (.own c')):=by rw[af ncf,ae]
  have keepT:∀b o,b≠TB->s.heap.get? b=some o->(h'.push (PySem.W.kla_obj "<lambda>" l.q l.params l.body l.scope [(l.n,c0)] ((X.mg "__name__").getD .none) c' ctv)).get? b=some o:=λb o n e=>En _ (hx b o n e)
  have nT:∀b,H b=none->b≠TB:=λb n z=>by rw[z,ht]at n;cases n
  have hgf:(h'.push (PySem.W.kla_obj "<lambda>" l.q l.params l.body l.scope [(l.n,c0)] ((X.mg "__name__").getD .none) c' ctv)).get? h'.objs.size=some (PySem.W.kla_obj "<lambda>" l.q l.params l.body l.scope [(l.n,c0)] ((X.mg "__name__").getD .none) c' ctv):=Ew _ rfl
  have hgc:=En (PySem.W.kla_obj "<lambda>" l.q l.params l.body l.scope [(l.n,c0)] ((X.mg "__name__").getD .none) c' ctv) hoc
  have hgT:=En (PySem.W.kla_obj "<lambda>" l.q l.params l.body l.scope [(l.n,c0)] ((X.mg "__name__").getD .none) c' ctv) htb
  refine⟨.ref h'.objs.size,_,I.un (t':=tk) (h':=h'.push (PySem.W.kla_obj "<lambda>" l.q l.params l.body l.scope [(l.n,c0)] ((X.mg "__name__").getD .none) c' ctv)) (H':=upd (upd H c' (.frz oc (.own c'))) h'.objs.size (.frz (PySem.W.kla_obj "<lambda>" l.q l.params l.body l.scope [(l.n,c0)] ((X.mg "__name__").getD .none) c' ctv) (.own h'.objs.size)))
   ⟨λb o e n _ _=>keepT b o (nT b n) e,λb o e n _ _=>⟨o.slots,keepT b o (nT b n) e⟩,λb o e n _=>?_,λb o e _=>?_,λb xs e=>up e,λb o u e=>up e,λb ps e=>⟨#[],by rw[up e];simp⟩⟩ (λb u e=>?_),rfl,kk _ c' _ ctv oc _ (λb o e=>up e) (I.hok.fresh (ET hge (Hm hlt))) ae uc ⟨vs,t,hd,hv⟩⟩
  ·have:=nc b (Er e)
   rw[af this.2,af this.1]
   exact n
  ·by_cases hb:b=TB
   ·rw[hb];exact⟨_,hgT⟩
   ·exact⟨o,keepT b o hb e⟩
  ·by_cases hb:b=h'.objs.size
   ·subst hb
    rw[ae]at e
    cases e
    exact⟨hgf,_,hgf⟩
   ·rw[af hb]at e
    by_cases hb2:b=c'
    ·subst hb2
     rw[ae]at e
     cases e
     exact⟨hgc,_,hgc⟩
    ·rw[af hb2]at e
     by_cases hb3:b=TB
     ·subst hb3
      rw[ht]at e
      cases e
      refine⟨l.pos,l.q,_,rfl,hgT,?_,.inr ⟨c',oc,?_,uc,vs,t,hd,hv⟩⟩
      ·rw[JM]
       exact TriplesOk_snoc _ _ _ _ e3
      ·rw[JM]
       exact codeAmong_snoc _ e3 e4
     ·refine(I.hok b u e).ib (λc v hc q=>keepT c v ?_ q) (λc q=>up q) (λc xs q=>up q) λc _ _ q _=>up q
      rcases hc with rfl|hc
      ·exact hb3
      ·intro z
       rw[z,ht]at hc
       cases hc
 ·refine PySem.W.kla_makeFunctionHit hcl I.ok.glob gn hcode CH e2 e3 e4 BA λctv h' tk hk hsz=>?_
  have hf:=I.hok.fresh hsz
  have nf:c'≠h'.objs.size:=Ez (EE (I.hok.lt e5) hsz)
  have hgf:(h'.push (PySem.W.kla_obj "<lambda>" l.q l.params l.body l.scope [(l.n,c0)] ((X.mg "__name__").getD .none) c' ctv)).get? h'.objs.size=some (PySem.W.kla_obj "<lambda>" l.q l.params l.body l.scope [(l.n,c0)] ((X.mg "__name__").getD .none) c' ctv):=Ew _ rfl
  exact⟨.ref h'.objs.size,_,I.laid (a:=h'.objs.size) (t':=tk) (o:=.frz (PySem.W.kla_obj "<lambda>" l.q l.params l.body l.scope [(l.n,c0)] ((X.mg "__name__").getD .none) c' ctv) (.own h'.objs.size)) (λb u q=>En _ (hk b u q)) hsz ⟨hgf,_,hgf⟩,rfl,
   kk _ c' _ ctv oc _ (λb o e=>by rw[af (ai e hf)];exact e) hf ae (by rw[af nf];exact e5) e6⟩
def yW(c0:Addr)(H:Hp):Hp:=λb=>if b=c0 then none else H b
def jm{c0 b:Addr}{H:Hp}(h:b≠c0):yW c0 H b=H b:=Ex h
def Aw{c0 b:Addr}{H:Hp}{u:HO}(h:yW c0 H b=some u):b≠c0/\H b=some u:=by
 by_cases e:b=c0
 ·unfold yW at h
  rw[EG e]at h
  cases h
 ·exact⟨e,(jm e).symm.trans h⟩
inductive JCc(i:Nat)(c0:Addr)(sp:Sp)(σ:St)(Q:VK)(vs:List V)(H1:Hp):Prop
 |mk (p:Addr) (hv:σ[i]?=some (some (.ref p))) (k:∀ocl:Obj,ocl.data=.cell (some (.ref p))->H1 c0=none->sp vs (upd H1 c0 (.frz ocl (.own c0))) (λv H'=>Q v (yW c0 H')) E0)
def AK(i:Nat)(c0:Addr)(sp:Sp)(t:TA):TE:=λσ H Q=>t σ H (JCc i c0 sp σ Q)
def vX{k:Nat}{f c0:Addr}{fd:FuncData}{ps:List Str}{sp:Sp}{x n:Str}{i:Nat}{p pos:Pos}{e:Expr}{es:List Expr}{t:TA}(F:aM X.prog X.w X.K X.mg X.base cW k f fd ps sp)(hr:bB k X.A)(hg:Gl X x)(hm:X.mg x=some (.ref f))(hk:PySem.W.keepIn X.K (.ref f)=true)(hb:Binds X.K fd ps [])
  (ha:PA X (e::es) t) (hN:X.N[i]?=some n) (hkd:X.env.kindOf n=some .cell) (hc0:X.env.cells.lookup n=some c0) (hfn:X.fn n=true) (hdb:(x==("__debug__":Str))=false:=by decide) (he:starEach (e::es) X.env=(false,eval e X.env)::starEach es X.env:=by rfl) (hpl:(backTo pos (starEach es X.env)).any (·.1)=false:=by rfl) :
  PE X (.Call (.Name x p) (e::es) [] pos) (AK i c0 sp t):=by
 intro pins s σ H Q I h
 refine Fp (gg I hg hm ?_ hdb)
 refine Gd (h₀:=X.base) I.ok.mod.kin hk (bo (ha pos pins s σ H _ I h) λus s1 ⟨vs,H1,I1,r,q⟩=>⟨I1.eD,?_⟩) he hpl
 obtain⟨p,hv,kk⟩:=q
 have n0:H1 c0=none:=I1.freeC n c0 hc0
 obtain⟨ocl,hgl,hcl⟩:∃ocl,s1.heap.get? c0=some ocl/\ocl.data=.cell (some (.ref p)):=by
  obtain⟨m,hn,hl⟩:=I1.loc
  obtain⟨u,ru,lk⟩:=hl i n (.ref p) hN hv (.inr (.inl hkd))
  obtain rfl:u=Value.ref p:=ru
  rcases lk with⟨z,_⟩|⟨_,c,e1,o,e2,e3⟩
  ·rw[hkd]at z
   cases z
  ·rw[hc0]at e1
   cases e1
   exact⟨o,e2,e3⟩
 have q2:=kk ocl hcl n0
 have hlo:X.s₀.heap.objs.size<=c0:=I1.ok.cab n c0 hfn hc0
 have u2:∀{b u},H1 b=some u->upd H1 c0 (.frz ocl (.own c0)) b=some u:=λ{b u} e=>by rw[af (ai e n0)];exact e
 have nb:∀b,b∈fJ X.stack->b≠c0:=λb hb=>by
  rcases EB.mp (I1.ji b hb) with e|hb
  ·rw[e];exact(I1.uw n c0 hc0).symm
  ·obtain⟨_,o,ho,_⟩:=I1.ok.fG.mem hb
   exact Ez (EE (Er ho) hlo)
 have hok2:gF X.prog X.w (upd H1 c0 (.frz ocl (.own c0))) s1.heap:=λb u e=>by
  by_cases hb:b=c0
  ·subst hb
   rw[ae]at e
   cases e
   exact⟨hgl,_,hgl⟩
  ·rw[af hb]at e
   exact(I1.hok b u e).ib (λc v _ q=>q) (λc q=>u2 q) (λc xs q=>u2 q) λc _ _ q _=>u2 q
 have e0:=I1.vU
 have e2:nF X.prog X.w X.K X.mg X.base X.A X.stack s1 (upd H1 c0 (.frz ocl (.own c0))) :=
  ⟨e0.frames,e0.mod,λb o e=>⟨(e0.bs b o e).1,by rw[af (Ez (EE (Er (I1.ok.bs b o e).1) hlo))];exact(e0.bs b o e).2⟩,e0.bsz,e0.fG,λb hb=>by rw[af (nb b hb)];exact e0.frf b hb,hok2,e0.bare⟩
 have r2:Vals vs us:=r
 have hl:(us++([]:List Value)).length=ps.length:=by rw[Gu,<-r2.length];exact F.len _ _ _ _ q2
 have hbb:=hb s1 us I1.eD hl
 rw[Gu]at hbb
 refine Hd (FL (F.run X.A X.stack s1 _ ⟨us,[]⟩ us vs _ E0 hr e2 hbb r2 q2) λr s' hq=>?_)
 cases r with
 |error e=>exact False.elim hq
 |ok fl =>
  cases fl with
  |next=>exact False.elim hq
  |brk=>exact False.elim hq
  |cont=>exact False.elim hq
  |ret u =>
   obtain⟨v,H',os,bare,un,hok',rv,q⟩:=hq
   have hc':H' c0=some (.frz ocl (.own c0)):=un.frzs c0 _ _ ae
   have g':=(hok' c0 _ hc').1
   have up:∀{b u},H1 b=some u->∀{u'},H' b=some u'->yW c0 H' b=some u':=λ{b u} e {u'} e'=>by rw[jm (ai e n0)];exact e'
   refine I1.after ⟨v,yW c0 H',os,bare,⟨λb o e n hb hx=>?_,λb o e n hb hx=>?_,λb o e n hx=>?_,λb o e hx=>un.there b o e hx,λb xs e=>up e (un.bQ b xs (u2 e)),λb o u e=>up e (un.frzs b o u (u2 e)),λb ps e=>?_⟩,λb u e=>?_,rv,q⟩
   ·by_cases hb0:b=c0
    ·subst hb0
     rw[hgl]at e
     cases e
     exact g'
    ·exact un.keep b o e (by rw[af hb0];exact n) hb hx
   ·exact un.slot b o e (by rw[af (nb b hb)];exact n) hb hx
   ·by_cases hb0:b=c0
    ·exact EG hb0
    ·rw[jm hb0]
     exact un.free b o e (by rw[af hb0];exact n) hx
   ·obtain⟨more,e'⟩:=un.tbls b ps (u2 e)
    exact⟨more,up e e'⟩
   ·obtain⟨hb0,e⟩:=Aw e
    have n1:∀{c u},H' c=some u->(c=c0->False)->yW c0 H' c=some u:=λ{c u} e z=>by rw[jm z];exact e
    refine(hok' b u e).ib (λc v _ q=>q) (λc q=>n1 q λz=>?_) (λc xs q=>n1 q λz=>?_) λc o u q d=>n1 q λz=>?_
    ·rw[z,hc']at q;cases q
    ·rw[z,hc']at q;cases q
    ·rw[z,hc']at q
     cases q
     obtain⟨vs,d⟩:=d
     rw[hcl]at d
     cases d
inductive JCv(f:Addr)(o:Obj)(sp:Sp)(Q:VK)(vs:List V)(H1:Hp):Prop
 |mk (h:H1 f=some (.frz o (.own f))) (k:sp vs H1 Q E0)
inductive A0(i:Nat)(f:Addr)(o:Obj)(sp:Sp)(t:TA)(σ:St)(H:Hp)(Q:VK):Prop
 |mk (e:σ[i]?=some (some (.ref f))) (k:t σ H (JCv f o sp Q))
def uz{k:Nat}{f:Addr}{o:Obj}{fd:FuncData}{ps:List Str}{sp:Sp}{x:Str}(i:Nat){p pos:Pos}{e:Expr}{es:List Expr}{t:TA}(F:aM X.prog X.w X.K X.mg X.base cW k f fd ps sp)(hr:bB k X.A)(ho:o.data=.func fd)(hb:Binds X.K fd ps [])(ha:PA X (e::es) t)
  (hN:X.N[i]?=some x:=by rfl) (hv:Bh X.env.scope x:=by first|exact Or.inl rfl|exact Or.inr (Or.inl rfl)|exact Or.inr (Or.inr rfl)) (hd:(x==("__debug__":Str))=false:=by decide) (hcd:(x==("__classdict__":Str))=false:=by decide)
  (he:starEach (e::es) X.env=(false,eval e X.env)::starEach es X.env:=by rfl) (hpl:(backTo pos (starEach es X.env)).any (·.1)=false:=by rfl):PE X (.Call (.Name x p) (e::es) [] pos) (A0 i f o sp t):=by
 intro pins s σ H Q I h
 obtain⟨e0,h⟩:=h
 refine Fp (bo (uB (i:=i) hN hv hd hcd pins s σ H (λv H1=>v=.ref f/\H1=H) I ⟨.ref f,e0,rfl,rfl⟩) λu s1 hZ=>?_)
 obtain⟨v,H1,I1,rv,rfl,rfl⟩:=hZ
 obtain rfl:u=Value.ref f:=rv
 have hg:=ha pos pins s1 σ H1 _ I1 h
 rw[he]at hg ⊢
 refine PySem.W.callWith_of (P:=λh=>h.get? f=some o) (by show((false || (backTo pos (starEach es X.env)).any (·.1)) || false)=false;rw[hpl];rfl) (λh hP=>⟨.frame,.inl rfl,(PySem.W.Looks.ld (part:=none) hP).andThen ?_⟩) (Ig (bo hg λus s2 hZ=>?_))
 ·rw[ho]
  exact .now
 ·obtain⟨vs,H2,I2,r,hf,q⟩:=hZ
  exact⟨(I2.hok f _ hf).1,mW F hr hb .nil bF I2 r (by rw[Gu];exact q)⟩
end
def d3.okD{x qual:Str}{st:Stmt}{f:Addr}{fd:FuncData}{N ps:List Str}{k:Nat}{sp:Sp}(F:d3 K x qual st f fd)(S:az N ps (aj st))(len:∀vs H Q E,sp vs H Q E->vs.length=ps.length)
  (hbody:∀(cdv:Value) (A:Around) (outer:List Env) (s:Shared) (H:Hp) (vs:List V) (Q:VK) (E:XK),fd.code = cdv->bB k (A.deeper (envOfC qual (aj st) s.heap.objs.size f cdv))->sp vs H Q E ->
   ∃t,lK (bz cW P w K mg base N qual (aj st) f cdv A outer s H E).ff (ay st) t/\t { nx:=λ_ H'=>Q .non H',rt:=Q } (start N vs) H):aM P w K mg base cW (k+1) f fd ps sp:=by
 obtain⟨oc,od,kV,doc,pm,an,cdv,ct,osl,rfl,lk,hcd⟩:=F.ex
 refine xy lk hcd S len λA outer s H vs Q E hr hsp=>?_
 obtain⟨t,h,q⟩:=hbody cdv A outer s H vs Q E rfl hr hsp
 exact⟨t,h.ff,q⟩
end L2
end
section
namespace Uf
open PySem L2 UfSrt UfFin
def wk:(("start":Str) == "place_names")=false:=by decide +kernel
def vg:(("start":Str) == "start_state")=false:=by decide +kernel
def vp:(("start":Str) == "taken_by")=false:=by decide +kernel
def v9:(("start":Str) == "given_by")=false:=by decide +kernel
def Be(st:Stmt):xn:=match ay st with
 |.Return (some (.Call _ (_::.Lambda a (.Call (.Name g p1) (.Name n p2::.Name s p3::_) _ p4) sc pos::_) _ _)) _::_=>⟨"crowding.<locals>.<lambda>",a,g,n,s,sc,p1,p2,p3,p4,pos⟩
 |_=>⟨"",aE st, "", "", "",aj st,⟨0,0,0,0⟩,⟨0,0,0,0⟩,⟨0,0,0,0⟩,⟨0,0,0,0⟩,⟨0,0,0,0⟩⟩
abbrev ju:xn:=Be cF
def yz:zl ju:=⟨rfl,rfl,rfl,rfl,rfl,rfl,by decide +kernel,by decide +kernel,by decide +kernel,by decide +kernel,by decide +kernel⟩
def ur(K:PySem.W.Frag)(c0 c':Addr)(pm ctv:Value):Binds K (PySem.W.kla_fn "<lambda>" ju.q ju.params ju.body ju.scope [(ju.n,c0)] pm (.ref c') ctv) ["state"] []:=.all λus hl=>by
 obtain⟨a,rfl⟩:=Jp.mp hl
 rfl
def _root_.L2.u5.same{l:xn}{H H':Hp}{f p c0 c':Addr}{pm ctv:Value}{oc ocl:Obj}(h:u5 l H f p c0 c' pm ctv oc ocl)(s:au H H'):u5 l H' f p c0 c' pm ctv oc ocl:=⟨s _ _ h.hf,s _ _ h.hc,h.cd,s _ _ h.hl,h.cl⟩
def j0(C:Addr):Sp:=λvs H Q _=>∃(p:Addr) (ms:List Mv) (st:List Str),vs=[.ref p]/\bK C H p ms st /\
 (∀H',au H H'->UfBfs.Told (graph ms) (aI st) none->Q .non H')/\∀H' q row,au H H'->UfBfs.Told (graph ms) (aI st) (some row)->row.length<=5001->H q=none->H' q=some (.lst (aw row))->Q (.ref q) H'
inductive rF(C:Addr)(vs:List V)(H:Hp)(Q:VK)(E:XK):Prop
 |mk (p lf c0 c':Addr) (ms:List Mv) (st:List Str) (pm ctv:Value) (oc ocl:Obj) (_:vs=[.ref p,.ref lf]) (_:bK C H p ms st) (_:u5 ju H lf p c0 c' pm ctv oc ocl)
  (_:∀H',au H H'->UfBfs.Told (graph ms) (aI st) none->Q .non H') (_:∀H' q row,au H H'->UfBfs.Told (graph ms) (aI st) (some row)->row.length<=5001->H q=none->H' q=some (.lst (aw row))->Q (.ref q) H')
def gY:az ["net", "last_in", "ways", "states", "state", "move"] ["net", "last_in"] (aj gK):=gm
def vi{f C:Addr}{fd:FuncData}(F:d3 K "shortest_row" "shortest_row" gK f fd)(CT:iB K C)(DS:vZ P w K mg base C "start" "Net.start" fD ["self"] 1 (nU C))
  (DC:kA P w K mg base "crowder" dR ["net", "state"] 5 (mw K C))
  (DN:kA P w K mg base "newly_reached" gM ["net", "states", "ways"] 6 (rM C))
  (DR:kA P w K mg base "row_by_ways" gP ["ways", "state"] 1 si) :
  aM P w K mg base cW 7 f fd ["net", "last_in"] (rF C):=by
 refine F.oK gY λcdv A outer s H vs Q E hr h=>?_
 ·obtain⟨p,lf,c0,c',ms,st,pm,ctv,oc,ocl,rfl,N,LH,kn,ks⟩:=h
  have GL:=AL (f:=lf) (c0:=c0) (c':=c') (pm:=pm) (ctv:=ctv) yz DC.g DC.d.mg DC.d.fn.kp DC.d.bd
  have hr6:bB 6 _:=hr.mono (by decide)
  have hu:=gh hr
  have hr1:bB 1 _:=hr.mono (by decide)
  have hr5:bB 5 _:=hr.mono (by decide)
  refine⟨_,ah (eR 2 gY (mE hu (fh (pv 0) CT.cl DS.d.mt DS.g hr1 DS.d.bd .nil bF) jx))
   (ah (eR 3 gY (bZ (aa (fh (pv 0) CT.cl DS.d.mt DS.g hr1 DS.d.bd .nil bF) ag)))
   (ah (iI Fg (oh (pv 3) (λ_=>rfl))
    (ah (dU Fg rfl (bh (pv 3)) (la 4 gY)
     (ah (eR 5 gY (uz (o:=PySem.W.kla_obj "<lambda>" ju.q ju.params ju.body ju.scope [(ju.n,c0)] pm c' ctv) 1 GL hr6 rfl (ur _ _ _ _ _) (aa (pv 4) ag)))
      (aq (cj (gI (mP (pv 5))) (aq (aH (aK jl (jR DR hr1 (aa (pv 2) (aa (pv 4) ag))) (bZ (aa (pv 5) ag))))) aZ))))
    (aq (eR 3 gY (jR DN hr (aa (pv 0) (aa (pv 3) (aa (pv 2) ag))))))))
   (aq (aH jx)))),?_⟩
  clear hu
  dsimp only[bz,Cx.ff]
  have so:=N.so
  have hsl:=E1
  intro d nd
  have sd:au H (upd H d (.dT [])):=ak nd
  have N1:=N.same sd
  obtain⟨dx,aP,aS,aT,aG,kT,kG,h1,_⟩:=N1.at'.ob
  refine⟨_,rfl,p,dx,_,rfl,h1,dD _ _ _ _ wk vg vp v9,p,ms,st,rfl,N1,λq hq=>?_⟩
  refine⟨ae,dQ (aI st),q,rfl,(by rw[d6];exact hq),?_⟩
  have nqd:q≠d:=aJ hq ae (λz=>nomatch z)
  have s2:au H (upd (upd H d (.dT [])) d (.dT [(dQ (aI st),V.non)])):=aF sd nd
  have hd2:(upd (upd H d (.dT [])) d (.dT [(dQ (aI st),V.non)])) d=some (.dT [(dQ (aI st),V.non)]):=ae
  have hq2:(upd (upd H d (.dT [])) d (.dT [(dQ (aI st),V.non)])) q=some (.tup (aw (aI st))):=by rw[af nqd];exact hq
  generalize upd (upd H d (.dT [])) d (.dT [(dQ (aI st),V.non)])=H2 at s2 hd2 hq2 ⊢
  have N2:=N.same s2
  obtain⟨dx2,aP2,aS2,aT2,aG2,kT2,kG2,h2,_⟩:=N2.at'.ob
  refine⟨_,rfl,p,dx2,_,rfl,h2,dD _ _ _ _ wk vg vp v9,p,ms,st,rfl,N2,λq' hq'=>⟨by show 1<=sizeLine;lia,λa na=>?_⟩⟩
  have s3:au H2 (upd H2 a (.lst [.ref q'])):=ak na
  have fs:=iy so
  have hsf:∀t∈[aI st],fu ms st t:=λt ht=>by
   have e:t=aI st:=by simpa using ht
   rw[e]
   exact fs
  have ac0:Acc ms st ([(aI st,none)],[]):=⟨by simp,hsf,by simp⟩
  refine⟨λm σ H4=>∃(L:Nat) (wy:UfBfs.bL (List Str) Str) (ts:List (List Str)) (a:Addr) (v3 v4:Option V),σ=[some (.ref p),some (.ref lf),some (.ref d),some (.ref a),v3,v4]/\au H H4/\H a=none/\kX H4 a ts/\ix H4 d wy/\UfBfs.Good (graph ms) (aI st) L wy ts/\Acc ms st (wy,[])/\(∀t∈ts,fu ms st t)/\(ts≠[]->L+1<=wy.length)/\m=2*(5000-wy.length)+(if ts=[] then 0 else 1),
   ⟨_,0,[(aI st,none)],[aI st],a,none,none,rfl,s2.trans s3,s2.free na,⟨[q'],ae,.cons (s3 _ _ hq') .nil⟩,⟨_,s3 _ _ hd2,.cons ⟨rfl,rfl⟩ .nil⟩,UfBfs.Good.start _ _,ac0,hsf,λ_=>by simp,rfl⟩,?_⟩
  rintro m σ H4 ⟨L,wy,ts,a,v3,v4,rfl,s4,na4,S4,W4,good,ac,hf,hL,em⟩
  obtain⟨qs,ha4,hp4⟩:=id S4
  refine⟨_,rfl,_,.inl ⟨_,aR.of ha4,rfl⟩,?_⟩
  have qN:wy.length<=4096:=ac.qN so
  by_cases hts:ts=[]
  ·subst hts
   cases hp4
   refine br ?_
   exact kn H4 s4 good.none
  ·have eq:(!(qs.map V.ref).isEmpty)=true:=by
    cases hp4 with
    |nil=>exact absurd rfl hts
    |cons _ _=>rfl
   rw[eq]
   refine bM ?_
   have hL':=hL hts
   refine⟨λσ' H'=>∃m',m'<m/\∃(L:Nat) (wy:UfBfs.bL (List Str) Str) (ts:List (List Str)) (a:Addr) (v3 v4:Option V),σ'=[some (.ref p),some (.ref lf),some (.ref d),some (.ref a),v3,v4]/\au H H'/\H a=none/\kX H' a ts/\ix H' d wy/\UfBfs.Good (graph ms) (aI st) L wy ts/\Acc ms st (wy,[])/\(∀t∈ts,fu ms st t)/\(ts≠[]->L+1<=wy.length)/\m'=2*(5000-wy.length)+(if ts=[] then 0 else 1),
    λσ' H' h=>h,?_⟩
   refine⟨_,rfl,a,rfl,⟨_,aR.of ha4⟩,cO (K:=K) (a:=a) (xs:=qs.map V.ref) (λi σ H5=>∃(v3 v4:Option V),σ=[some (.ref p),some (.ref lf),some (.ref d),some (.ref a),v3,v4]/\au H4 H5/\∀u∈ts.take i,cU ms u=none)
    ⟨v3,v4,rfl,au.refl _,λu hu=>by simp at hu⟩ (λi σ H5 _ ⟨_,_,_,s5,_⟩=>aR.of (s5 _ _ ha4)) ?_ ?_⟩
   ·rintro i v σ H5 hi ⟨v3,v4,rfl,s5,hbad⟩
    obtain⟨tq,hqi,rfl⟩:=cX hi
    obtain⟨t,ht,htq⟩:=bf hp4 hqi
    have hmt:t∈ts:=EC ht
    have hft:fu ms st t:=hf t hmt
    have L5:=LH.same (s4.trans s5)
    refine⟨rfl,_,rfl,L5.hf,p,tq,oc,ocl,rfl,L5,p,tq,ms,st,t,rfl,N.same (s4.trans s5),cT.of (s5 _ _ htq),by have:=hft.len so;lia,λH6 s6=>?_⟩
    refine⟨_,rfl,_,rfl,?_⟩
    cases hc:cU ms t with
    |none =>
     refine br ?_
     refine⟨_,_,rfl,s5.trans s6,λu hu=>?_⟩
     rw[ar ht]at hu
     rcases EX.mp hu with z|z
     ·exact hbad u z
     ·have e:u=t:=by simpa using z
      rw[e]
      exact hc
    |some x =>
     refine bM ?_
     have s46:=s5.trans s6
     obtain⟨kvs4,hd4,wp4⟩:=id W4
     refine⟨_,rfl,_,rfl,d,tq,t,aI st,wy,graph ms,L,L,ts,rfl,⟨kvs4,s46 _ _ hd4,wp4.bQ s46.bQ⟩,s46 _ _ htq,good,Ep _,by lia,(good.ts t).mp hmt,λH7 q7 s7 nq7 hq7=>?_⟩
     refine⟨_,rfl,by show 1<=sizeLine;lia,λq8 nq8=>?_⟩
     have n78:q7≠q8:=ai hq7 nq8
     have told:=good.some hmt (show(graph ms).bad t=some x from hc)
     obtain⟨q1,q2⟩:=good.row L t (Ep _) ((good.ts t).mp hmt)
     refine⟨q7,q8,_,_,rfl,rfl,(by rw[af n78];exact hq7),ae,?_,λq9 nq9=>?_⟩
     ·rw[ao,q2]
      show L+1<=sizeLine
      lia
     have s8:au H7 (upd H7 q8 (.lst [V.str x])):=ak nq8
     have sA:=(s4.trans s46).trans (s7.trans s8)
     refine ks _ q9 _ (sA.trans (ak nq9)) told (by rw[Eu,q2];show L+1<=5001;lia) (sA.free nq9) ?_
     rw[ae]
     unfold aw
     rw[EI]
     rfl
   ·rintro σ H5 ⟨v3,v4,rfl,s5,hbad⟩
    have el:(qs.map V.ref).length=ts.length:=by rw[Et,<-EW hp4]
    rw[el,EN]at hbad
    obtain⟨kvs4,hd4,wp4⟩:=id W4
    refine⟨_,rfl,_,rfl,_,rfl,p,a,d,ms,st,ts,wy,rfl,N.same (s4.trans s5),⟨qs,s5 _ _ ha4,Paired.dy hp4 λ_ _ e=>s5 _ _ e⟩,⟨kvs4,s5 _ _ hd4,wp4.bQ s5.bQ⟩,hf,ac,λH6 q6 b6 nq6 S6 W6 ac6=>?_⟩
    have lv:=UfBfs.ma (graph ms) ts wy
    have gn:=good.next hbad
    have sB:au H H6:=λc o e=>b6 c o ((s4.trans s5) c o e) (ai e nd)
    have lk:(UfBfs.dX (graph ms) ts wy).1.length=wy.length+(UfBfs.dX (graph ms) ts wy).2.length:=by
     have:=Gz List.length lv.keys
     rw[Eu,Et,Et]at this
     exact this
    have few6:=ac6.qN so
    refine⟨_,?_,L+1,(UfBfs.dX (graph ms) ts wy).1,(UfBfs.dX (graph ms) ts wy).2,q6,_,_,rfl,sB,(s4.trans s5).free nq6,S6,W6,gn,⟨ac6.nd,ac6.fine,EV _⟩,λt ht=>?_,λhne=>?_,rfl⟩
    ·rw[em,Ex hts]
     by_cases h0:(UfBfs.dX (graph ms) ts wy).2=[]
     ·rw[EG h0,lk,h0]
      simp
     ·rw[Ex h0]
      have:=JN.mpr h0
      lia
    ·refine ac6.fine t ?_
     rw[lv.keys]
     exact E7 _ ht
    ·have:=JN.mpr hne
     lia
def qL:az ["net"] ["net"] (aj cF):=gm
def oG{f C c:Addr}{fd:FuncData}(F:d3 K "crowding" "crowding" cF f fd)(hfc:fd.code=.ref c)(hch:PySem.W.codeHdIn K c TB=true)(hbm:oM mg base)
  (DR:kA P w K mg base "shortest_row" gK ["net", "last_in"] 7 (rF C)):aM P w K mg base cW 8 f fd ["net"] (j0 C):=by
 refine F.okD qL (λvs H Q E h=>?_) (λcdv A outer s H vs Q E hcv hr h=>?_)
 ·obtain⟨p,ms,st,rfl,_⟩:=h
  rfl
 ·obtain⟨p,ms,st,rfl,N,kn,ks⟩:=h
  have hcd:cdv=.ref c:=hcv.symm.trans hfc
  refine⟨_,aq (aH (vX (i:=0) (n:="net") (c0:=s.heap.objs.size+1) DR.g hr rfl DR.d.mg DR.d.fn.kp DR.d.bd (aa (pv 0) (aa (zW (l:=ju) (TB:=TB) (c:=c) (c0:=s.heap.objs.size+1) hcd hch rfl rfl rfl hbm) ag)) rfl rfl rfl rfl)),?_⟩
  try dsimp only[bz,Cx.ff,Cx.cG]
  refine⟨_,rfl,N.tb,λlf c' pm ctv oc H1 s1 nlf hlf hc' icd=>⟨p,rfl,λocl hcl n0=>?_⟩⟩
  have s2:au H1 (upd H1 (s.heap.objs.size+1) (.frz ocl (.own (s.heap.objs.size+1)))):=ak n0
  have un:∀{H':Hp},au (upd H1 (s.heap.objs.size+1) (.frz ocl (.own (s.heap.objs.size+1)))) H'->au H (yW (s.heap.objs.size+1) H'):=λ{H'} s3 b o e=>by
   rw[jm (ai (s1 _ _ e) n0)]
   exact(s1.trans (s2.trans s3)) _ _ e
  refine⟨p,lf,s.heap.objs.size+1,c',ms,st,pm,ctv,oc,ocl,rfl,N.same (s1.trans s2),⟨s2 _ _ hlf,s2 _ _ hc',icd,ae,hcl⟩,λH' s3 t=>kn _ (un s3) t,λH' q row s3 t lr nq hq=>ks _ q row (un s3) t lr ((s1.trans s2).free nq) ?_⟩
  rw[jm (aJ hq (s3 _ _ ae) (λz=>nomatch z))]
  exact hq
end Uf
end
section
namespace UfX
open PySem
def gx(o:Obj)(f):(o.mapFields f).dict=o.dict:=by
 obtain⟨c,d,dt,sl⟩:=o;cases dt <;> rfl
inductive Exc(h:Heap)(e:Addr)(cls a0:Value)(dx:Option Addr)(hd:Option Addr):Prop
 |mk (oe:Obj) (vs:Array Value) (at_:h.get? e=some oe) (cl:oe.cls=cls) (dc:oe.dict=dx) (dt:oe.data=.fields vs) (first:vs[0]?=some a0) (none_:hd=none->vs[1]?=some .none)
   (some_:∀T,hd=some T->vs[1]?=some (.ref T)/\T≠e/\∃oT ts,h.get? T=some oT/\oT.data=.fields ts/\ts[3]?=some Value.none)
structure Step(fr:List Addr)(e:Addr)(hd:Option Addr)(h h':Heap):Prop where
 keep:∀b o,h.get? b=some o->b∉fr->b≠e->hd≠some b->h'.get? b=some o
 slot:∀b o,h.get? b=some o->b∈fr->∃sl,h'.get? b=some { o with slots:=sl }
 size:h.objs.size<=h'.objs.size
section
variable {M:Model}{A:Around}{E:Value->Shared->Prop}{s:Shared}{base:Heap}{env:Env}{outer:List Env}{L e:Addr}{Q:Unit->Shared->Prop}
def entry{oe:Obj}{vs:Array Value}{a0 head:Value}{b:Bool}(hfr:A.frames=some (env::outer))(hl:s.heap.FunFrames base (env::outer))(hf:env.frame=some L)(he:s.heap.get? e=some oe)(hdt:oe.data=.fields vs)(hsz:1<vs.size)(h0:vs[0]?=some a0)
  (k:∀h' T,Exc h' e oe.cls a0 oe.dict (some T)->s.heap.objs.size<=T->Step ((env::outer).filterMap (·.frame)) e none s.heap h'->Q () { s with heap:=h' }) :
  wpAny M A (do
   let fo <-frameOf env
   let pl <-entryPlaceOf L b
   let nw <-EntryCells.newEntry head fo .none (rawInt L) .none pl
   setField (.ref e) 1 nw) (λ_ s'=>wpAny M A (setFlight (.ref e) none) Q E s') E s:=by
 have nof:∀b o us,s.heap.get? b=some o->o.data=.fields us->b∉(env::outer).filterMap (·.frame):=λb o us h1 h2 hm=>by
  obtain⟨_,o',ho',hn⟩:=hl.mem hm
  rw[h1]at ho'
  cases ho'
  exact hn us h2
 have nef:=nof e oe vs he hdt
 refine Em (wpAny_frameOf_fun hfr hl hf λh1 sl1=>?_)
 refine Em (wpAny_entryPlaceOf λpl ip=>?_)
 unfold EntryCells.newEntry
 unfold newFields
 refine Em (FF ?_ (ip.sizeOk5 _ _ _ _ _))
 have he1:h1.get? e=some oe:=(sl1.2.1 e nef).trans he
 generalize hob:({ cls:=.type "traceback",dict:=none,data:=.fields ([head,.ref L,.none,rawInt L,.none]++(if pl.isEmpty then List.replicate 6 Value.none else pl)).toArray }:Obj)=ob
 have hobd:ob.data=.fields ([head,.ref L,.none,rawInt L,.none]++(if pl.isEmpty then List.replicate 6 Value.none else pl)).toArray:=by rw[<-hob]
 have hobf:ob.isFreed=false:=Gx hobd
 have he2:(h1.push ob).get? e=some oe:=En ob he1
 have hT2:(h1.push ob).get? h1.objs.size=some ob:=Ew h1 hobf
 have hTe:h1.objs.size≠e:=FK (Er he1)
 refine Fj he2 hdt hsz ?_
 show wpAny M A (setFlight (.ref e) none) Q E { s with heap:=(h1.push ob).update e (Obj.mapFields (·.setIfInBounds 1 (.ref h1.objs.size))) }
 have hd3:=Gn hdt (·.setIfInBounds 1 (Value.ref h1.objs.size))
 have he3:=E8 (Obj.mapFields (·.setIfInBounds 1 (Value.ref h1.objs.size))) he2 (Gx hd3)
 have hT3:=(EU (h1.push ob) (Obj.mapFields (·.setIfInBounds 1 (Value.ref h1.objs.size))) (E2 hTe)).trans hT2
 unfold setFlight
 refine Em (GJ he3 hd3 (x:=.ref h1.objs.size) (by simp[hsz]) ?_)
 rw[EG (show(Value.ref h1.objs.size != Value.none)=true from by simp)]
 refine Fj hT3 hobd (by simp only[ED,Eu,ER,Jj];lia) (k _ h1.objs.size ?_ ?_ ?_)
 ·refine⟨_,_,(EU _ _ hTe).trans he3,Obj.cls_mapFields _ _,gx _ _,hd3,?_,(λz=>nomatch z),λT hT=>?_⟩
  ·rw[Ic (by decide)];exact h0
  ·cases hT
   refine⟨by simp[hsz],hTe,_,_,E8 _ hT3 (Gx (Gn hobd _)),Gn hobd _,?_⟩
   simp
 ·exact JO sl1.1.symm
 ·have other:∀b o,b≠e->h1.get? b=some o->(((h1.push ob).update e (Obj.mapFields (·.setIfInBounds 1 (.ref h1.objs.size)))).update h1.objs.size (Obj.mapFields (·.setIfInBounds 3 ((none:Option Addr).elim Value.none λf=>rawInt f)))).get? b=some o:=λb o hbe hb=>by
   have hbT:h1.objs.size≠b:=FK (Er hb)
   rw[EU _ _ hbT,EU _ _ (E2 hbe)]
   exact En _ hb
  refine⟨λb o hb hnf hbe _=>other b o hbe ((sl1.2.1 b hnf).trans hb),λb o hb hm=>?_,?_⟩
  ·obtain⟨sl,h2⟩:=sl1.2.2 b o hb
   exact⟨sl,other b _ (λz=>nef (z ▸ hm)) h2⟩
  ·rw[FN,FN,Fh,sl1.1]
   exact Fq _
def leave{cls a0:Value}{dx hd:Option Addr}(hfr:A.frames=some (env::outer))(hl:s.heap.FunFrames base (env::outer))(hf:env.frame=some L)(x:Exc s.heap e cls a0 dx hd)
  (k:∀h' T,Exc h' e cls a0 dx (some T)->s.heap.objs.size<=T->Step ((env::outer).filterMap (·.frame)) e hd s.heap h'->Q () { s with heap:=h' }):wpAny M A («leaving» env (.ref e)) Q E s:=by
 obtain⟨oe,vs,he,rfl,rfl,hdt,h0,hn,hs⟩:=x
 unfold «leaving» noteFrame
 simp only[hf]
 cases hd with
 |none =>
  have h1:=hn rfl
  refine Em (Em (GJ he hdt h1 ?_))
  rw[Ex (by decide)]
  exact entry hfr hl hf he hdt (Fn.mp h1).1 h0 k
 |some T =>
  obtain⟨h1,hTe,oT,ts,hT,hTd,h3⟩:=hs T rfl
  refine Em (Em (GJ he hdt h1 ?_))
  rw[EG (by simp:(Value.ref T != Value.none)=true)]
  refine Em (GJ hT hTd h3 ?_)
  rw[Ex (by simp[rawInt]:¬((Value.none==rawInt L)=true))]
  refine Em (Fj hT hTd (Fn.mp h3).1 ?_)
  have other:∀c,c≠T->(s.heap.update T (Obj.mapFields (·.setIfInBounds 3 Value.none))).get? c=s.heap.get? c:=λ_ hc=>EU _ _ (E2 hc)
  have nT:∀b o,s.heap.get? b=some o->(∀us,o.data≠.fields us)->b≠T:=λb o hb hnf z=>by
   subst z
   rw[hT]at hb
   cases hb
   exact hnf ts hTd
  refine entry hfr (hl.of_keeps λb o hb hnf=>⟨o,(other b (nT b o hb hnf)).trans hb,rfl⟩) hf ((other e (E2 hTe)).trans he) hdt (Fn.mp h1).1 h0 λh' T' x1 x2 x3=>k h' T' x1 ?_ ?_
  ·rwa[FN]at x2
  ·refine⟨λb o hb h1 h2 h3=>x3.keep b o ((other b λz=>h3 (by rw[z])).trans hb) h1 h2 (λz=>nomatch z),λb o hb hm=>?_,?_⟩
   ·obtain⟨_,o',ho',hn'⟩:=hl.mem hm
    have e':o'=o:=EO (ho'.symm.trans hb)
    subst e'
    exact x3.slot b o' ((other b (nT b o' hb hn')).trans hb) hm
   ·have:=x3.size
    rwa[FN]at this
end
end UfX
end
section
namespace L2
open PySem PySem.Spec PyProof.Rows UfX
inductive Fly(P:Program)(w:World)(outer:List Env)(H:Hp)(s:Shared)(E:XK)(e:Value)(s':Shared):Prop
 |mk (a T:Addr) (cls a0:Value) (dx:Option Addr) (H':Hp) (he:e=.ref a) (os:s'.os=s.os) (bare:AllBare s'.gens) (un:Un (fJ outer) [] H H' s.heap s'.heap) (hok:gF P w H' s'.heap)
   (x:Exc s'.heap a cls a0 dx (some T)) (na:s.heap.get? a=none) (nT:s.heap.get? T=none) (ha:H' a=none) (hT:H' T=none) (q:E cls dx H')
abbrev sk(P:Program)(w:World):pX:=λouter H s E e s'=>Fly P w outer H s E e s'
section
variable {P:Program}{w:World}{K:PySem.W.Frag}{mg:Str->Option Value}{base:Heap}{N:List Str}{qual:Str}{scope:Scope}{f:Addr}{cd:Value}{A:Around}{outer:List Env}{s:Shared}{H:Hp}{E:XK}
def zv{pins:List (Addr×Obj)}{σ:St}{H':Hp}{s':Shared}{a:Addr}{cls a0:Value}{dx hd:Option Addr}(I:Inv (bz (sk P w) P w K mg base N qual scope f cd A outer s H E) pins σ H' s')
  (x:Exc s'.heap a cls a0 dx hd) (ha:H' a=none) (na:s.heap.get? a=none) (hh:∀T,hd=some T->H' T=none/\s.heap.get? T=none) (q:E cls dx H') :
  (bz (sk P w) P w K mg base N qual scope f cd A outer s H E).xe (.ref a) s':=by
 refine UfX.leave (base:=base) I.ok.frames I.stack rfl x λh' T x1 lT st=>?_
 have b0:Un (fJ outer) [] H H' s.heap s'.heap:=I.base
 have fr:∀b o,H' b=some o->b∉fJ (envOfC qual scope s.heap.objs.size f cd::outer):=λb o e hm=>by
  rw[I.jP b hm]at e
  cases e
 have kt:∀b o u,H' b=some o->s'.heap.get? b=some u->h'.get? b=some u:=λb o u e hu =>
  st.keep b u hu (fr b o e) (λz=>by rw[z,ha]at e;cases e) λz=>by rw[(hh b z).1]at e;cases e
 have old:∀b o,s.heap.get? b=some o->b≠a/\hd≠some b:=λb o e=>⟨λz=>(by rw[z,na]at e;cases e),λz=>(by rw[(hh b z).2]at e;cases e)⟩
 have nL:∀b o,s.heap.get? b=some o->b≠s.heap.objs.size:=λb o e z=>by
  have:=Er e
  rw[z]at this
  exact Fe _ this
 have mem:∀b,b∈fJ (envOfC qual scope s.heap.objs.size f cd::outer)->b=s.heap.objs.size\/b∈fJ outer:=λb hb=>by
  unfold fJ at hb
  rw[HB]at hb
  exact EB.mp hb
 have sub:∀b,b∈fJ outer->b∈fJ (envOfC qual scope s.heap.objs.size f cd::outer):=λb hb=>by
  unfold fJ
  rw[HB]
  exact EK _ hb
 refine⟨a,T,cls,a0,dx,H',rfl,I.os,I.bare,⟨λb o e n h1 h2=>?_,λb o e n h1 h2=>?_,b0.free,λb o e h2=>?_,b0.bQ,b0.frzs,b0.tbls⟩,λb o e=>(I.hok b o e).ib (λc u hc hu=>?_) (λ_ z=>z) λ_ _ z=>z,x1,na,
  FH (ET I.sz lT),ha,I.hok.fresh lT,q⟩
 ·refine st.keep b o (b0.keep b o e n h1 h2) (λhm=>?_) (old b o e).1 (old b o e).2
  rcases mem b hm with z|z
  ·exact nL b o e z
  ·exact h1 z
 ·obtain⟨sl,h3⟩:=b0.slot b o e n h1 h2
  obtain⟨sl2,h4⟩:=st.slot b _ h3 (sub b h1)
  exact⟨sl2,h4⟩
 ·obtain⟨o',h3⟩:=b0.there b o e h2
  by_cases hm:b∈fJ (envOfC qual scope s.heap.objs.size f cd::outer)
  ·obtain⟨sl,h4⟩:=st.slot b o' h3 hm
   exact⟨_,h4⟩
  ·exact⟨_,st.keep b o' h3 hm (old b o e).1 (old b o e).2⟩
 ·rcases hc with rfl|hc
  ·exact kt _ _ _ e hu
  ·exact kt _ _ _ hc hu
def zG:Passes (sk P w) (bz (sk P w) P w K mg base N qual scope f cd A outer s H E) E:=λpins σ H1 s1 e s' I h=>by
 obtain⟨a,T,cls,a0,dx,H',rfl,os,bare,un,hok,x,na,nT,ha,hT,q⟩:=h
 have J:=I.wX os un hok bare λb z=>absurd z (by simp)
 have b0:Un (fJ outer) [] H H1 s.heap s1.heap:=I.base
 have old:∀b,s1.heap.get? b=none->s.heap.get? b=none:=λb n=>by
  cases z:s.heap.get? b with
  |none=>rfl
  |some o =>
   obtain⟨o',h3⟩:=b0.there b o z (by simp)
   rw[n]at h3
   cases h3
 exact zv J x ha (old a na) (λT' z=>by cases z;exact⟨hT,old T nT⟩) q
end
end L2
end
section
namespace UfX
open PySem
section
variable {P:Program}{w:World}{A:Around}{X:Value->Shared->Prop}{h:Heap}{gs:Array GenState}{dr:Drawn}{tk:Nat}{o:OsState}
variable {cn cq:Str}{C N:Addr}{bases tl root:List Value}{hasD:Bool}{sn:List Str}{subs:List Value}{ab:Bool}{col:Option Bool}{cdd:Option Addr}{l0 l1 l2 l3 l5:Option Value}{B nw ini:String}
def lj(F:ExcBaseFacts B nw ini root)(T:OwnTail h root tl){mN:Str->Option Value}{vs:List Value}{fI:Addr}{oI:Obj}{Q:Fin->Shared->Prop}
  (hC:h.get? C=some (excClassObj cn cq C N bases tl hasD sn subs ab col cdd l0 l1 l2 l3 l5 nw)) (hN:h.Ns N mN) (hi:mN "__init__"=some (.ref fI)) (hf:h.get? fI=some oI) (hfc:oI.cls=.type "function")
  (k:∀h' e,Heap.MadeExcOf h h' e (.ref C) vs->h.objs.size<=e->wpAny (model P w) A (call (.ref fI) (.ref e::vs)) (λr s'=>r=.none/\Q (.done (.ret (.ref e))) s') X ⟨h',gs,dr,tk,o⟩) (hz:vs.length<=sizeLine) :
  wpAny (model P w) A (Builtin.«type.__call__» ⟨.ref C::vs,[]⟩) Q X ⟨h,gs,dr,tk,o⟩:=by
 repeat (first|(with_reducible refine Gi hC ?_)|(with_reducible refine wpAny_madeBy_exc hC ?_)|wp_step)
 refine codeAny_call_builtin_code (IC _ F.quiet) (wpAny_check_new_subT F T hC (codeAny_exc_new_subT F T hC ?_ hz))
 show wpAny _ _ _ _ _ _
 generalize hob:({ cls:=.ref C,data:=.fields #[.ref h.objs.size,.none,.none,.none,.bool false,.none] }:Obj)=ob
 generalize htb:({ cls:=.type "tuple",data:=.seq vs.toArray }:Obj)=tb
 have kp:∀b u,h.get? b=some u->((h.push tb).push ob).get? b=some u:=λb u e=>En ob (En tb e)
 have C1:=kp _ _ hC
 have f1:=kp _ _ hf
 have N1:((h.push tb).push ob).Ns N mN:=by
  obtain⟨on,es,ep,e,r⟩:=hN
  exact⟨on,es,ep,kp _ _ e,r⟩
 have T1:=T.keeps kp
 have at_:((h.push tb).push ob).get? (h.objs.size+1)=some ob:=by
  rw[<-hob]
  exact Heap.get?_push_at (by rw[Fh]) rfl
 have tat:((h.push tb).push ob).get? h.objs.size=some tb:=by
  rw[<-htb]
  exact En _ (Heap.get?_push_at rfl rfl)
 have hself:(Value.ref C::tl).contains (.ref C)=true:=by simp
 have ocls:ob.cls=.ref C:=by rw[<-hob]
 unfold isInstance
 repeat (first|(with_reducible refine Gi at_ ?_;rw[ocls])|(with_reducible refine HC C1 ?_;rw[hself])|wp_step)
 show wpAny _ _ (typeLookup (.ref C) _) _ _ _
 refine wpAny_typeLookup_tail C1 N1 T1 F.mroIs F.init.lookup ?_
 rw[hi]
 refine FJ (Em ?_)
 unfold bindSpecial
 refine Em (HI (T:="function") ⟨_,f1,hfc⟩ ?_)
 rw[EG (by decide)]
 have made:Heap.MadeExcOf h ((h.push tb).push ob) (h.objs.size+1) (.ref C) vs :=
  ⟨kp,FH (Fq _),h.objs.size,by rw[at_,hob],FH (Ep _),by rw[tat,htb]⟩
 refine Eo (Em (Fy (k _ _ made (Fq _)) (λr s' hr=>?_) λ_ _ z=>z))
 obtain⟨rfl,hq⟩:=hr
 wp_walk
 exact hq
def vD(F:ExcBaseFacts B nw ini root)(T:OwnTail h root tl){mN:Str->Option Value}{vs:List Value}{fI:Addr}{oI:Obj}{Q:Value->Shared->Prop}
  (hC:h.get? C=some (excClassObj cn cq C N bases tl hasD sn subs ab col cdd l0 l1 l2 l3 l5 nw)) (hN:h.Ns N mN) (hi:mN "__init__"=some (.ref fI)) (hf:h.get? fI=some oI) (hfc:oI.cls=.type "function")
  (k:∀h' e,Heap.MadeExcOf h h' e (.ref C) vs->h.objs.size<=e->wpAny (model P w) (A.under (.builtin "type.__call__" ⟨.ref C::vs,[]⟩)) (call (.ref fI) (.ref e::vs)) (λr s'=>r=.none/\Q (.ref e) s') X ⟨h',gs,dr,tk,o⟩) (hz:vs.length<=sizeLine) :
  wpAny (model P w) A (call (.ref C) vs) Q X ⟨h,gs,dr,tk,o⟩:=by
 have q1:=tc_lookup
 have q2:=tc_bind (.ref C)
 have hT:(⟨h,gs,dr,tk,o⟩:Shared).TypeIs (.ref C) "type":=⟨_,hC,rfl⟩
 refine Hd (Jl ?_)
 show wpAny _ _ (callAny (.ref C) _) _ _ _
 repeat (any_goals (first|assumption|(with_reducible refine Gi hC ?_)|wp_step))
 exact⟨rfl,codeAny_call_builtin_at (IC _ (by decide +kernel)) entry_typeCall (wpAny_check_type_call_sub hC (lj F T hC hN hi hf hfc k hz))⟩
end
end UfX
end
section
namespace L2
open PySem PySem.Spec PyProof.Rows UfX
def gB(a:Addr)(cls:Value)(dx:Option Addr)(h:Heap):Prop:=∃oe vs t0,h.get? a=some oe/\oe.cls=cls/\oe.dict=dx/\oe.data=.fields vs/\vs[0]?=some (.ref t0)/\vs[1]?=some Value.none
def iA(a:Addr)(cls:Value)(dx:Option Addr):HO:=.ext (gB a cls dx)
def gB.ok{P:Program}{w:World}{H:Hp}{h:Heap}{a:Addr}{cls:Value}{dx:Option Addr}(x:gB a cls dx h):bc P w H h a (iA a cls dx):=by
 refine⟨x,?_,λh1 h2 y k=>?_⟩
 ·obtain⟨oe,_,_,e,_⟩:=x
  exact⟨oe,e⟩
 ·obtain⟨oe,vs,t0,e,r⟩:=y
  exact⟨oe,vs,t0,k _ e,r⟩
def gB.exc{h:Heap}{a:Addr}{cls:Value}{dx:Option Addr}(x:gB a cls dx h):∃a0,Exc h a cls a0 dx none:=by
 obtain⟨oe,vs,t0,e,c,d,f,g,i⟩:=x
 exact⟨_,oe,vs,e,c,d,f,g,(λ_=>i),λT z=>nomatch z⟩
def del(H:Hp)(a:Addr):Hp:=λb=>if b=a then none else H b
def uW{H:Hp}{a:Addr}:del H a a=none:=by unfold del;rw[if_pos rfl]
def fO{H:Hp}{a b:Addr}(h:b≠a):del H a b=H b:=by unfold del;rw[if_neg h]
def uM{H:Hp}{a b:Addr}{o:HO}(h:del H a b=some o):b≠a/\H b=some o:=by
 unfold del at h
 split at h
 ·cases h
 ·rename_i n
  exact⟨n,h⟩
def iT{H:Hp}{a b:Addr}(h:H b=none):del H a b=none:=by
 unfold del
 split
 ·rfl
 ·exact h
section
variable {X:Cx}{pins:List (Addr×Obj)}{σ:St}{H:Hp}{s:Shared}
def Inv.BM{a:Addr}{φ:Heap->Prop}(I:Inv X pins σ H s)(e:H a=some (.ext φ))(n0:X.H₀ a=none):Inv X pins σ (del H a) s:=by
 have ne:∀{b o},H b=some o->o≠.ext φ->b≠a:=λ{b o} h1 h2 z=>h2 (by rw[z,e]at h1;exact(EO h1).symm)
 have b0:=I.base
 refine⟨I.ok,I.os,I.bare,⟨b0.keep,b0.slot,λb o h1 h2 h3=>iT (b0.free b o h1 h2 h3),b0.there,λb xs h=>?_,λb o u h=>?_,λb ps h=>?_⟩,I.loc,I.cell,iT I.free,λx c h=>iT (I.freeC x c h),λp hp=>?_,λb o h=>?_,I.len⟩
 ·have h2:=b0.bQ b xs h
  rw[fO (ne h2 (λz=>nomatch z))]
  exact h2
 ·have h2:=b0.frzs b o u h
  rw[fO (ne h2 (λz=>nomatch z))]
  exact h2
 ·obtain⟨more,h2⟩:=b0.tbls b ps h
  refine⟨more,?_⟩
  rw[fO (ne h2 (λz=>nomatch z))]
  exact h2
 ·obtain⟨h1,h2,h3⟩:=I.pin p hp
  exact⟨h1,iT h2,h3⟩
 ·obtain⟨h1,h2⟩:=uM h
  refine(I.hok b o h2).ib (λ_ _ _ z=>z) (λc hc=>?_) (λc xs hc=>?_) λc _ _ hc _=>?_
  ·rw[fO (ne hc (λz=>nomatch z))]
   exact hc
  ·rw[fO (ne hc (λz=>nomatch z))]
   exact hc
  ·rw[fO (ne hc (λz=>nomatch z))]
   exact hc
structure uy(K:PySem.W.Frag)(C:Addr):Prop where
 ob:∃cn cq N bases tl hasD sn subs ab col cdd l0 l1 l2 l3 l5 nw,K.lookup C=some (excClassObj cn cq C N bases tl hasD sn subs ab col cdd l0 l1 l2 l3 l5 nw)/\tl.contains (.type "BaseException")=true
def rX(X:Cx)(E:XK):Prop:=∀(pins:List (Addr×Obj)) (σ:St) (H:Hp) (s':Shared) (a:Addr) (cls a0:Value) (dx:Option Addr),Inv X pins σ H s'->Exc s'.heap a cls a0 dx none->H a=none->X.s₀.heap.get? a=none->E cls dx H->X.xe (.ref a) s'
def zQ(X:Cx)(E:XK)(te:TE):TS:=λ_ σ H=>te σ H λv H1=>∃a C dx,v=.ref a/\H1 a=some (iA a (.ref C) dx)/\uy X.K C/\X.H₀ a=none/\E (.ref C) dx (del H1 a)
def vz{E:XK}{e:Expr}{te:TE}{pos:Pos}(hx:rX X E)(hc:X.calm=true)(hex:X.ex=[])(he:PE X e te):PS X (.Raise (some e) none pos) (zQ X E te):=by
 intro pins s σ H D I h
 rw[arm_exec_Raise]
 refine Em (Hx ?_)
 unfold raiseStmt
 simp only[evalOpt,Option.map]
 refine Em (Em (Fy (he pins s σ H _ I h) (λu s1 hu=>Em (Hx (Eo ?_))) λ_ _ z=>z))
 obtain⟨v,H1,I1,rv,a,C,dx,rfl,ha,⟨cn,cq,N,bases,tl,hasD,sn,subs,ab,col,cdd,l0,l1,l2,l3,l5,nw,hC,hB⟩,n0,q⟩:=hu
 obtain rfl:u=Value.ref a:=rv
 have x:gB a (.ref C) dx s1.heap:=(I1.hok a _ ha).1
 have C1:=I1.eD _ _ hC
 have hcB:(Value.ref C::tl).contains (.type "BaseException")=true:=by rw[ID,hB,IX]
 have fly:X.xe (.ref a) s1:=by
  obtain⟨a0,ex⟩:=x.exc
  refine hx pins σ (del H1 a) s1 a (.ref C) a0 dx (I1.BM ha n0) ex uW ?_ q
  cases z:X.s₀.heap.get? a with
  |none=>rfl
  |some o =>
   have:=I1.base.free a o z n0 (by rw[hex];simp)
   rw[ha]at this
   cases this
 obtain⟨oe,vs,t0,he1,hcl,_,hdt,_,hv1⟩:=x
 obtain⟨hp,g,d,tk,os⟩:=s1
 repeat (first|(with_reducible refine Gi he1 ?_;rw[hcl])|(with_reducible refine Gi C1 ?_)|(with_reducible refine HC C1 ?_;rw[hcB])|wp_step)
 rw[hdt]
 refine Eo ?_
 rw[hv1]
 refine Eo ?_
 rw[Ex (by decide)]
 exact Eo (wpAny_raiseNew_none (I.ok.hd hc) fly)
end
section
variable {P:Program}{w:World}{K:PySem.W.Frag}{mg:Str->Option Value}{base:Heap}{N:List Str}{qual:Str}{scope:Scope}{f:Addr}{cd:Value}{A:Around}{outer:List Env}{s:Shared}{H:Hp}{E:XK}
def vA:rX (bz (sk P w) P w K mg base N qual scope f cd A outer s H E) E:=λpins σ H' s' a cls a0 dx I x ha na q=>zv I x ha na (λT z=>nomatch z) q
end
end L2
end
section
namespace L2
open PySem PySem.Spec PyProof.Rows UfX
abbrev mH:List Value:=[.type "ValueError",.type "Exception",.type "BaseException",.type "object"]
structure wu(K:PySem.W.Frag)(C N:Addr):Prop where
 ob:∃cn cq bases tl hasD sn subs ab col cdd l0 l1 l2 l3 l5,K.lookup C=some (excClassObj cn cq C N bases tl hasD sn subs ab col cdd l0 l1 l2 l3 l5 "ValueError.__new__")/\PySem.W.tailIn K mH tl=true
def zT{H:Hp}{a:Addr}{o:HO}(h:H a=some o):upd H a o=H:=by
 funext b
 unfold upd
 split
 ·rename_i e
  rw[e,h]
 ·rfl
section
variable {X:Cx}{pins:List (Addr×Obj)}{σ:St}{H:Hp}{s:Shared}
def ql{A:Around}{E:Value->Shared->Prop}{a C N:Addr}{dx:Option Addr}{us:List Value}{Q:Value->Shared->Prop}(I:Inv X pins σ H s)(ha:H a=some (iA a (.ref C) dx))(T:wu X.K C N)(hz:us.length<=sizeLine)
  (h:∀s',Inv X pins σ H s'->Q .none s'):wpAny (model X.prog X.w) A (call (.builtin "ValueError.__init__") (.ref a::us)) Q E s:=by
 have F:=@IH
 obtain⟨cn,cq,bases,tl,hasD,sn,subs,ab,col,cdd,l0,l1,l2,l3,l5,h1,h2⟩:=T.ob
 have T1:=PySem.W.tail_of_in I.eD h2
 have C1:=I.eD _ _ h1
 obtain⟨oe,vs,t0,he,hcl,hdx,hdt,hv0,hv1⟩:gB a (.ref C) dx s.heap:=(I.hok a _ ha).1
 refine Hd (GF F.init.plain F.initEntry (wpAny_check_init_subT (E:=λe s'=>E e s') F T1 C1 he hcl ?_))
 unfold Builtin.«BaseException.__init__»
 dsimp only
 rw[Ex (by simp)]
 unfold newTuple Builtin.BaseException.bexcPut
 have hsz:0<vs.size:=(Fn.mp hv0).1
 have he1:(s.heap.push { cls:=.type "tuple",data:=.seq us.toArray }).get? a=some oe:=En _ he
 have fin:Q .none { s with heap:=(s.heap.push { cls:=.type "tuple",data:=.seq us.toArray }).update a (Obj.mapFields (·.setIfInBounds 0 (.ref s.heap.objs.size))) }:=by
  have hd1:=Gn hdt (·.setIfInBounds 0 (Value.ref s.heap.objs.size))
  have he2:=E8 (Obj.mapFields (·.setIfInBounds 0 (Value.ref s.heap.objs.size))) he1 (Gx hd1)
  have J:=I.write (x:=a) (e:=a) (o:=iA a (.ref C) dx) (t':=s.toks) (h':=(s.heap.push { cls:=.type "tuple",data:=.seq us.toArray }).update a (Obj.mapFields (·.setIfInBounds 0 (.ref s.heap.objs.size)))) (by rw[ha];exact True.intro) (.inl rfl)
   (λb u hb z=>(EU _ _ (E2 hb)).trans (En _ z)) ⟨_,he2⟩
   (gB.ok ⟨_,_,s.heap.objs.size,he2,(Obj.cls_mapFields _ _).trans hcl,(gx _ _).trans hdx,hd1,by simp[hsz],by rw[Ic (by decide)];exact hv1⟩)
  rw[zT ha]at J
  exact h _ J
 refine Em (FF (Em (Em (GJ he1 hdt hv0 (Em (Fj he1 hdt hsz ?_))))) (by show us.toArray.size<=sizeLine;rw[ED];exact hz))
 exact wpAny_letGo (Eo fin)
end
end L2
end
section
namespace L2
open PySem PySem.Spec PyProof.Rows UfX
section
variable {X:Cx}
def vL(K:PySem.W.Frag)(t:TA):TE:=λσ H Q=>t σ H λvs H1=>∃a C N dx r,vs=.ref a::r/\r.length<=100/\H1 a=some (iA a (.ref C) dx)/\wu K C N/\Q .non H1
structure uD(K:PySem.W.Frag)(B:Addr):Prop where
 sp:PySem.W.specialIn K (.ref B) "__getattribute__"=some (some (.builtin "type.__getattribute__"))
 rd:PySem.W.readsIn K B (.type "type")=true
 fc:PySem.W.findCls K (.ref B) (.type "type") "__init__"=some (.val (.builtin "ValueError.__init__"))
def qj{pl:Sem Bool}{x:Str}{B:Addr}{p apos pos:Pos}{e:Expr}{es:List Expr}{t:TA}(hg:Gl X x)(hm:X.mg x=some (.ref B))(hb:uD X.K B)(ha:PA X (e::es) t)(hd:(x==("__debug__":Str))=false:=by decide)
  (hst:starEach (e::es) X.env=(false,eval e X.env)::starEach es X.env:=by rfl) (hpl:(backTo pos (starEach es X.env)).any (·.1)=false:=by rfl)
  (ht:eval (.Call (.Attribute (.Name x p) "__init__" apos) (e :: es) [] pos) X.env = (do
   let ov <-eval (.Name x p) X.env
   standAt apos.atName
   let (f,first) <-holding [ov] (getMethod ov "__init__" pl)
   callWith pos f first (backTo pos (starEach (e::es) X.env)) (backToKw pos (keywordEach [] X.env))):=by rfl) :
  PE X (.Call (.Attribute (.Name x p) "__init__" apos) (e::es) [] pos) (vL X.K t):=by
 intro pins s σ H Q I h
 refine HZ (pl:=pl) (gg I hg hm ?_ hd) ht
 refine PySem.W.method_cls I.eD hb.sp (PySem.W.cls_value I.eD hb.rd hb.fc rfl ?_)
 have I1:=I.tok (s.toks+1)
 have hA:=ha pos pins _ σ H _ I1 h
 dsimp only
 rw[hst]at hA ⊢
 refine Hh (by show(false || (backTo pos (starEach es X.env)).any (·.1))=false;rw[hpl] <;> rfl) (Ig ?_)
 refine bo hA λus s2 hZ=>?_
 obtain⟨vs,H2,I2,r2,a,C,N,dx,r,ev,hr,h2,T,q⟩:=hZ
 subst ev
 cases r2 with
 |cons r0 rr =>
  obtain rfl:=r0
  have hl:_=_:=Vals.length rr
  refine ql I2 h2 T (by rw[<-hl,E3];lia) λs' I'=>⟨.non,H2,I',rfl,q⟩
end
end L2
end
section
namespace L2
open PySem PySem.Spec PyProof.Rows UfX Builtin Builtin.ObjectAttr
def bp:List Value->Bool
 |.ref _::r=>bp r
 |l=>l==mH
def pN(self:Value):refuseLoop self "__setattr__" mH=pure ():=by kernel_rfl
theorem kF(self:Value):∀{l:List Value},bp l=true->refuseLoop self "__setattr__" l=pure ()
 |[],e=>by simp[bp]at e
 |.ref c::r,e=>by rw[refuseLoop_ref];exact kF self e
 |.type n::r,e=>by rw[Hc.mp (show((.type n::r:List Value)==mH)=true from e)];exact pN self
 |.none::r,e=>by simp[bp]at e
 |.ellipsis::r,e=>by simp[bp]at e
 |.notImplemented::r,e=>by simp[bp]at e
 |.bool _::r,e=>by simp[bp]at e
 |.int _ _::r,e=>by simp[bp]at e
 |.float _ _::r,e=>by simp[bp]at e
 |.str _ _::r,e=>by simp[bp]at e
 |.bytes _ _::r,e=>by simp[bp]at e
 |.builtin _::r,e=>by simp[bp]at e
theorem r9:∀{l:List Value},bp l=true->l.contains (.type "object")=true
 |[],e=>by simp[bp]at e
 |.ref c::r,e=>by rw[ID,r9 (l:=r) e,IX]
 |.type n::r,e=>by rw[Hc.mp (show((.type n::r:List Value)==mH)=true from e)];decide
 |.none::r,e=>by simp[bp]at e
 |.ellipsis::r,e=>by simp[bp]at e
 |.notImplemented::r,e=>by simp[bp]at e
 |.bool _::r,e=>by simp[bp]at e
 |.int _ _::r,e=>by simp[bp]at e
 |.float _ _::r,e=>by simp[bp]at e
 |.str _ _::r,e=>by simp[bp]at e
 |.bytes _ _::r,e=>by simp[bp]at e
 |.builtin _::r,e=>by simp[bp]at e
structure vV(K:PySem.W.Frag)(C:Addr)(f:Str):Prop where
 sa:PySem.W.findIn K (.ref C) "__setattr__"=some (some (.builtin "object.__setattr__"))
 mr:((PySem.W.clsIn K C).any λcd=>bp cd.mro)=true
 tk:PySem.W.takerIn K C f=some none
 hd:PySem.W.hasDictIn K C=true
section
variable {P:Program}{w:World}{A:Around}{K:PySem.W.Frag}{s:Shared}{R:Result->Shared->Prop}{x C:Addr}
def yQ{ox:Obj}{od:Option Obj}{name:Str}{tk:Tok}{v:Value}(X:K.In s.heap)(J:PySem.W.InstAt s.heap x ox C od)(S:vV K C name)
  (h:∀b,wpAny (model P w) A.in1 (storeInOwnDict (.ref x) (.ref C) (.str name tk) name v b)
   (λfin s'=>match fin with|.done f=>R (.ok f) s'|.again c'=>c'.quiet=true/\codeAny (model P w) A c' R s') (λe s'=>R (.error e) s') s) :
  codeAny (model P w) A (.call (.builtin "object.__setattr__") ⟨[.ref x,.str name tk,v],[]⟩) R s:=by
 have G:=PySem.F.store_object
 obtain⟨cd,hc,hm⟩:=GO S.mr
 have ne:cd.mro.isEmpty=false:=by
  cases q:cd.mro with
  |nil=>rw[q]at hm;simp[bp]at hm
  |cons _ _=>rfl
 have isO:PySem.W.Looks (model P w) s.heap (isInstance (.ref x) (.type "object")) true:=J.type.andThen (Iu X (by
  unfold PySem.W.mroIn
  rw[hc,Option.bind_some,Ex (by rw[ne];decide),r9 hm]))
 refine GF G.slot.plain G.entry (@IE (model P w) _ _ s "object.__setattr__" "object" "__setattr__" (.ref x) [.str name tk,v] [] _ G.kind G.split isO (G.args (.ref x) (.str name tk) v) ?_)
 obtain⟨attr,ha,hr⟩:=HN.mp S.tk
 have lm:PySem.W.Looks (model P w) s.heap (mroOf (.ref C)) cd.mro:=(Iq X hc).andThen .now
 have lt:PySem.W.Looks (model P w) s.heap (storeTaker? attr) none:=by
  cases attr with
  |none=>exact .now
  |some a =>
   obtain⟨b,hb,hbn⟩:=Hi.mp hr
   refine(PySem.W.looks_takesIn X hb).andThen ?_
   cases b with
   |true=>cases hbn
   |false=>exact .now
 rw[PySem.W.osa_eq,refuse_eq]
 refine Em (Em (J.type.here (Em (lm.here ?_))))
 rw[kF _ hm]
 exact Eo (Em (J.type.here (Em ((Gf X ha).here (Em (lt.here (h _)))))))
end
end L2
end
section
namespace L2
open PySem PySem.Spec PyProof.Rows UfX Builtin Builtin.ObjectAttr
section
variable {X:Cx}{pins:List (Addr×Obj)}{σ:St}{H:Hp}{s:Shared}{A:Around}{E:Value->Shared->Prop}
def tM{a C:Addr}{f:Str}{y:V}{u:Value}{Q:Unit->Shared->Prop}(I:Inv X pins σ H s)(ha:H a=some (iA a (.ref C) none))(S:vV X.K C f)(ry:RelV y u)
  (h:∀dx s',H dx=none->dx≠a->Inv X pins σ (upd (upd H dx (.xd [(f,y)])) a (iA a (.ref C) (some dx))) s'->Q () s'):wpAny (model X.prog X.w) A (setAttr (.ref a) f u) Q E s:=by
 obtain⟨oe,vs,t0,he,hcl,hdx,hdt,hv0,hv1⟩:gB a (.ref C) none s.heap:=(I.hok a _ ha).1
 obtain⟨oc,odi,oda,osl⟩:=oe
 dsimp only at hcl hdx hdt
 subst hcl hdx hdt
 have J:PySem.W.InstAt s.heap a ⟨.ref C,none,.fields vs,osl⟩ C none:=⟨he,rfl,rfl,True.intro⟩
 obtain⟨cd,hc,hd⟩:=GO S.hd
 refine PySem.W.set_plain I.eD J S.sa (yQ (s:={ s with toks:=s.toks+1 }) I.eD J S λb=>?_)
 refine Em (Eo (Em (Em (Jq he (Em (PySem.W.Looks.here (s:={ s with toks:=s.toks+1 }) (Iq I.eD hc) ?_))))))
 rw[hd]
 refine Em (wpAny_alloc ?_)
 have e1:(s.heap.push PySem.W.emptyDict).get? a=some ⟨.ref C,none,.fields vs,osl⟩:=En _ he
 refine Em (wpAny_update e1 ?_)
 have na:s.heap.objs.size≠a:=FK (Er he)
 have e2:(s.heap.push PySem.W.emptyDict).get? s.heap.objs.size=some PySem.W.emptyDict:=Ew s.heap rfl
 have e3:((s.heap.push PySem.W.emptyDict).update a λo=>{ o with dict:=some s.heap.objs.size }).get? s.heap.objs.size=some PySem.W.emptyDict:=(EU _ _ (E2 na)).trans e2
 have e4:((s.heap.push PySem.W.emptyDict).update a λo=>{ o with dict:=some s.heap.objs.size }).Ns s.heap.objs.size (λ_=>none):=⟨PySem.W.emptyDict,#[],_,e3,rfl,(λe he=>absurd he (by simp)),λ_=>rfl⟩
 have e5:((s.heap.push PySem.W.emptyDict).update a λo=>{ o with dict:=some s.heap.objs.size }).get? a=some ⟨.ref C,some s.heap.objs.size,.fields vs,osl⟩:=E8 _ e1 rfl
 refine Eo (a:=some s.heap.objs.size) (Em (Eo (Em ?_)))
 refine wpAny_nsSet1 (s:=⟨(s.heap.push PySem.W.emptyDict).update a λo=>{ o with dict:=some s.heap.objs.size },s.gens,s.drawn,s.toks+1,s.os⟩) (Heap.Ns1.of_empty e4) λh' hn2 hs2=>?_
 have hw:PySem.Within (λ_:Str=>(none:Option Value)) []:=λy hy=>absurd rfl hy
 obtain⟨oD,esD,epD,hoD,hdD,hcD⟩:=hn2.count (PySem.Within.cons f u hw)
 refine Em (wpAny_lookBehind hoD (by rw[hdD];exact pastItsLine_dict (ET hcD (by rw[ER,E3];simp))) ?_)
 have nf:oD.isFreed=false:=(Heap.get?_some_iff.mp hoD).2
 have I1:=I.laid (a:=s.heap.objs.size) (o:=.xd [(f,y)]) (h':=s.heap.push oD) (t':=s.toks) (λb q z=>En _ z) (Ep _) ⟨_,hn2.at λo z=>by
  rw[hoD]at z
  cases z
  exact Ew s.heap nf,λg=>by
   show gb (List.lookup g [(f,y)]) (if g=f then some u else none)
   rw[FU]
   by_cases q:g=f
   ·rw[EG q,q,IT]
    exact ry
   ·rw[Ex q,show(g==f)=false from by simpa using q]
    exact True.intro⟩
 have h5:h'.get? a=some ⟨.ref C,some s.heap.objs.size,.fields vs,osl⟩:=(hs2.2 a (E2 na)).trans e5
 have I2:=I1.write (x:=a) (e:=a) (o:=iA a (.ref C) (some s.heap.objs.size)) (h':=h') (t':=s.toks+1+1) (by rw[af (E2 na),ha];exact True.intro) (.inl rfl) (λb q hb z=>by
  have z:(s.heap.push oD).get? b=some q:=z
  by_cases hbd:b=s.heap.objs.size
  ·subst hbd
   rw[Ew s.heap nf]at z
   cases z
   exact hoD
  ·rw[hs2.2 b hbd,EU _ _ (E2 hb)]
   have z2:s.heap.get? b=some q:=by rwa[Heap.get?_push_ne _ _ _ hbd]at z
   exact En _ z2) ⟨_,h5⟩ (gB.ok ⟨_,vs,t0,h5,rfl,rfl,rfl,hv0,hv1⟩)
 exact Eo (h _ _ (I.hok.fresh (Ep _)) na I2)
def xK(K:PySem.W.Frag)(te ta:TE)(f:Str):TS:=λD σ H=>te σ H λy H1=>ta σ H1 λx H2=>∃a C,x=.ref a/\H2 a=some (iA a (.ref C) none)/\vV K C f/\∀dx,H2 dx=none->dx≠a->D.nx σ (upd (upd H2 dx (.xd [(f,y)])) a (iA a (.ref C) (some dx)))
def tN{o value:Expr}{f:Str}{ta tv:TE}{pos pos':Pos}(ha:PE X o ta)(hv:PE X value tv)(hs:swapsWith value (some (.Attribute o f pos')) pos.line X.env=pure false):PS X (.Assign [.Attribute o f pos'] value pos) (xK X.K tv ta f):=by
 intro pins s σ H D I h
 refine Ib (bo (hv pins s σ H _ I h) λu s1 hu=>?_) hs
 obtain⟨y,H1,I1,ry,q⟩:=hu
 refine bo (ha pins s1 σ H1 _ I1 q) λov s2 ho=>?_
 obtain⟨x,H2,I2,rx,a,C,ex,ea,S,q2⟩:=ho
 subst ex
 obtain rfl:ov=Value.ref a:=rx
 exact tM I2 ea S ry λdx s3 h1 h2 I3=>⟨σ,_,I3,q2 dx h1 h2⟩
end
end L2
end
section
namespace L2
open PySem PySem.Spec PyProof.Rows UfX
section
variable {X:Cx}
end
end L2
end
section
namespace L2
open PySem PySem.Spec PyProof.Rows UfX
def pY{K:PySem.W.Frag}{h:Heap}{N:Addr}{m:Str->Option Value}{n:Str}{v:Value}(X:K.In h)(G:h.Ns N m)(e:PySem.W.nsIn K N n=some (some v)):m n=some v:=by
 obtain⟨o,es,ep,ho,hd,_,hf⟩:=G
 unfold PySem.W.nsIn at e
 split at e
 ·rename_i c d es' n' sl q
  have z:=X _ _ q
  rw[ho]at z
  cases z
  cases hd
  split at e
  ·rename_i en he
   cases e
   rw[<-hf]
   unfold nsFind findBy
   rw[<-Array.find?_toList,he]
   rfl
  ·split at e <;> cases e
 ·cases e
structure Ca(K:PySem.W.Frag)(C N f:Addr):Prop where
 exc:wu K C N
 ns:PySem.W.nsOkIn K N=true
 ini:PySem.W.nsIn K N "__init__"=some (some (.ref f))
 fn:∃o,K.lookup f=some o/\o.cls=.type "function"
 kp:PySem.W.keepIn K (.ref C)=true
def Av(C:Addr)(sp:Sp)(dvs:List V)(E:XK)(t:TA):TE:=λσ H Q=>t σ H λvs H1=>vs.length<=100/\∀x,H1 x=none->sp (.ref x::(vs++dvs)) (upd H1 x (iA x (.ref C) none)) (λv H2=>v=.non/\Q (.ref x) H2) E
section
variable {X:Cx}{CX:pX}{k:Nat}{f C N:Addr}{fd:FuncData}{ps:List Str}{sp:Sp}{dvs:List V}{ds:List Value}{E:XK}{x:Str}{p pos:Pos}{e:Expr}{es:List Expr}{t:TA}
def tO{pins:List (Addr×Obj)}{σ:St}{H:Hp}{s:Shared}{Q:VK}{us:List Value}{vs:List V}(M:Ca X.K C N f)(F:aM X.prog X.w X.K X.mg X.base CX k f fd ps sp)(hr:bB (k+1) X.A)(hb:Binds X.K fd ps ds)(hd:Vals dvs ds)
  (hx:Passes CX X E) (I:Inv X pins σ H s) (r:Vals vs us) (hz:vs.length<=100)
  (h:∀x,H x=none->sp (.ref x::(vs++dvs)) (upd H x (iA x (.ref C) none)) (λv H2=>v=.non/\Q (.ref x) H2) E) :
  wpAny (model X.prog X.w) X.A (call (.ref C) us) (EP X pins σ Q) X.xe s:=by
 obtain⟨cn,cq,bases,tl,hasD,sn,subs,ab,col,cdd,l0,l1,l2,l3,l5,h1,h2⟩:=M.exc.ob
 obtain⟨oI,hf,hfc⟩:=M.fn
 have KX:=I.eD
 have G:=Heap.Ns.of_isNs (PySem.W.isNs_of_in KX M.ns)
 have hl0:_=_:=Vals.length r
 obtain⟨hp,gs,dr,tk,os⟩:=id s
 refine vD (h:=s.heap) (gs:=s.gens) (dr:=s.drawn) (tk:=s.toks) (o:=s.os) IH (PySem.W.tail_of_in KX h2) (KX _ _ h1) G (pY KX G M.ini) (KX _ _ hf) hfc (λh' a made le=>?_) (by rw[<-hl0,E3];lia)
 obtain⟨t0,he,ht0,htup⟩:=made.there
 have is:gB a (.ref C) none h':=⟨_,_,t0,he,rfl,rfl,rfl,rfl,rfl⟩
 have I2:=I.laid (a:=a) (o:=iA a (.ref C) none) (h':=h') (t':=s.toks) made.keeps le is.ok
 have hq:=h a (I.hok.fresh le)
 have r2:Vals (V.ref a::(vs++dvs)) (Value.ref a::(us++ds)):=.cons rfl (r.append hd)
 have hl:(Value.ref a::us++ds).length=ps.length:=by
  have e:=r2.length
  rw[F.len _ _ _ _ hq]at e
  exact e.symm
 refine Hd (FL (F.run _ X.stack _ _ ⟨Value.ref a::us,[]⟩ (Value.ref a::(us++ds)) _ _ E (hr.make C us []) (I2.vU.make C us []) (hb _ (Value.ref a::us) I2.eD hl) r2 hq) λr s' hq'=>?_)
 cases r with
 |error e=>exact hx pins σ _ _ e s' I2 hq'
 |ok fl =>
  cases fl with
  |ret u =>
   obtain⟨v,H',I3,rv,ev,q3⟩:=I2.after hq'
   subst ev
   exact⟨rv,⟨V.ref a,H',I3,rfl,q3⟩⟩
  |next=>exact False.elim hq'
  |brk=>exact False.elim hq'
  |cont=>exact False.elim hq'
def vh(M:Ca X.K C N f)(F:aM X.prog X.w X.K X.mg X.base CX k f fd ps sp)(hr:bB (k+1) X.A)(hg:Gl X x)(hm:X.mg x=some (.ref C))(hb:Binds X.K fd ps ds)(hd:Vals dvs ds)(hx:Passes CX X E)
  (ha:PA X (e::es) t) (hdb:(x==("__debug__":Str))=false:=by decide) (he:starEach (e::es) X.env=(false,eval e X.env)::starEach es X.env:=by rfl) (hpl:(backTo pos (starEach es X.env)).any (·.1)=false:=by rfl) :
  PE X (.Call (.Name x p) (e::es) [] pos) (Av C sp dvs E t):=by
 intro pins s σ H Q I h
 refine Fp (gg I hg hm ?_ hdb)
 refine Gd (h₀:=X.base) I.ok.mod.kin M.kp (bo (ha pos pins s σ H _ I h) λus s1 hu=>?_) he hpl
 obtain⟨vs,H1,I1,r,hz,q⟩:=hu
 exact⟨I1.eD,tO M F hr hb hd hx I1 r hz q⟩
end
end L2
end
section
namespace L2
open PySem PySem.Spec PyProof.Rows UfX
section
variable {X:Cx}{pins:List (Addr×Obj)}{σ:St}{H:Hp}{s:Shared}
def Inv.flew{a:Addr}{hd:Option Addr}{oa:Obj}{va:Array Value}{h':Heap}(I:Inv X pins σ H s)(st:UfX.Step (fJ X.stack) a hd s.heap h')(ea:s.heap.get? a=some oa)(da:oa.data=.fields va)(ha:H a=none)(na:X.s₀.heap.get? a=none)
  (hh:∀T,hd=some T->H T=none/\X.s₀.heap.get? T=none/\∃oT vT,s.heap.get? T=some oT/\oT.data=.fields vT)
  (pa:∀p∈X.pn++pins,p.1≠a/\hd≠some p.1) (hex:X.ex=[]):Inv X pins σ H { s with heap:=h' }:=by
 have b0:=I.base
 have fr:∀b o,H b=some o->b∉fJ X.stack:=λb o e hm=>by
  rw[I.jP b hm]at e
  cases e
 have kt:∀b o u,H b=some o->s.heap.get? b=some u->h'.get? b=some u:=λb o u e hu =>
  st.keep b u hu (fr b o e) (λz=>by rw[z,ha]at e;cases e) λz=>by rw[(hh b z).1]at e;cases e
 have old:∀b o,X.s₀.heap.get? b=some o->b≠a/\hd≠some b:=λb o e=>⟨λz=>(by rw[z,na]at e;cases e),λz=>(by rw[(hh b z).2.1]at e;cases e)⟩
 have sub:∀b,b∈X.fs->b∈fJ X.stack:=λb hb=>by
  rcases I.ok.stk with e|⟨e,hf⟩
  ·rw[e];exact hb
  ·rw[e]
   unfold fJ
   rw[HB,hf]
   exact EK _ hb
 have nf:∀b o,s.heap.get? b=some o->(∀vs,o.data≠.fields vs)->b≠a/\hd≠some b:=λb o e hn=>⟨λz=>(by
  rw[z,ea]at e
  cases e
  exact hn _ da),λz=>(by
  obtain⟨oT,vT,h1,h2⟩:=(hh b z).2.2
  rw[h1]at e
  cases e
  exact hn _ h2)⟩
 have u4:∀b o,s.heap.get? b=some o->(∀vs,o.data≠.fields vs)->∃sl,h'.get? b=some { o with slots:=sl }:=λb o e hn=>by
  by_cases hm:b∈fJ X.stack
  ·exact st.slot b o e hm
  ·exact⟨o.slots,st.keep b o e hm (nf b o e hn).1 (nf b o e hn).2⟩
 have nL:∀b o,X.s₀.heap.get? b=some o->b≠X.env.locals:=λb o e z=>by
  have h1:=Er e
  have h2:=I.ok.above
  rw[z]at h1
  exact absurd (EE h1 h2) (Fe _)
 have cellK:∀c v,s.heap.IsCell c v->h'.IsCell c v:=λc v hc=>by
  obtain⟨o,ho,hd'⟩:=hc
  obtain⟨sl,h1⟩:=u4 c o ho (λvs z=>by rw[hd']at z;cases z)
  exact⟨_,h1,hd'⟩
 refine⟨I.ok,I.os,I.bare,⟨λb o e n h1 h2=>?_,λb o e n h1 h2=>?_,b0.free,λb o e h2=>?_,b0.bQ,b0.frzs,b0.tbls⟩,?_,λx c e=>?_,I.free,I.freeC,λp hp=>?_,λb o e=>(I.hok b o e).ib (λc u hc hu=>?_) (λ_ z=>z) λ_ _ z=>z,I.len⟩
 ·refine st.keep b o (b0.keep b o e n h1 h2) (λhm=>?_) (old b o e).1 (old b o e).2
  rcases EB.mp (I.ji b hm) with z|z
  ·exact nL b o e z
  ·exact h1 z
 ·obtain⟨sl,h3⟩:=b0.slot b o e n h1 h2
  obtain⟨sl2,h4⟩:=st.slot b _ h3 (sub b h1)
  exact⟨sl2,h4⟩
 ·obtain⟨o',h3⟩:=b0.there b o e h2
  by_cases hm:b∈fJ X.stack
  ·obtain⟨sl,h4⟩:=st.slot b o' h3 hm
   exact⟨_,h4⟩
  ·exact⟨_,st.keep b o' h3 hm (old b o e).1 (old b o e).2⟩
 ·obtain⟨m,⟨o,es,ep,ho,hd',r⟩,hl⟩:=I.loc
  obtain⟨sl,h1⟩:=u4 _ o ho (λvs z=>by rw[hd']at z;cases z)
  refine⟨m,⟨_,es,ep,h1,hd',r⟩,λi x v e1 e2 e3=>?_⟩
  obtain⟨u,ru,hk⟩:=hl i x v e1 e2 e3
  refine⟨u,ru,?_⟩
  rcases hk with hk|⟨hk,c,hc1,hc2⟩
  ·exact .inl hk
  ·exact .inr ⟨hk,c,hc1,cellK c _ hc2⟩
 ·obtain⟨v,hv⟩:=I.cell x c e
  exact⟨v,cellK c v hv⟩
 ·obtain⟨h1,h2,h3,h4,h5⟩:=I.pin p hp
  refine⟨st.keep _ _ h1 (λhm=>?_) (pa p hp).1 (pa p hp).2,h2,h3,h4,h5⟩
  rcases EB.mp (I.ji _ hm) with z|z
  ·exact h3 z
  ·exact h4 z
 ·rcases hc with rfl|hc
  ·exact kt _ _ _ e hu
  ·exact kt _ _ _ hc hu
end
end L2
end
section
namespace UfX
open PySem
section
variable {M:Model}{A:Around}{E:Value->Shared->Prop}{s:Shared}{base:Heap}{env:Env}{outer:List Env}{L e:Addr}{Q:Unit->Shared->Prop}
def land{cls a0:Value}{dx hd:Option Addr}(hfr:A.frames=some (env::outer))(hl:s.heap.FunFrames base (env::outer))(hf:env.frame=some L)(x:Exc s.heap e cls a0 dx hd)
  (k:∀h' T,Exc h' e cls a0 dx (some T)->s.heap.objs.size<=T->Step ((env::outer).filterMap (·.frame)) e hd s.heap h'->Q () { s with heap:=h' }):wpAny M A (noteFrame (.ref e) env) (λ_ s'=>wpAny M A (setFlight (.ref e) none) Q E s') E s:=by
 obtain⟨oe,vs,he,rfl,rfl,hdt,h0,hn,hs⟩:=x
 unfold noteFrame
 simp only[hf]
 cases hd with
 |none =>
  have h1:=hn rfl
  refine Em (GJ he hdt h1 ?_)
  rw[Ex (by decide)]
  exact entry hfr hl hf he hdt (Fn.mp h1).1 h0 k
 |some T =>
  obtain⟨h1,hTe,oT,ts,hT,hTd,h3⟩:=hs T rfl
  refine Em (GJ he hdt h1 ?_)
  rw[EG (by simp:(Value.ref T != Value.none)=true)]
  refine Em (GJ hT hTd h3 ?_)
  rw[Ex (by simp[rawInt]:¬((Value.none==rawInt L)=true))]
  refine Em (Fj hT hTd (Fn.mp h3).1 ?_)
  have other:∀c,c≠T->(s.heap.update T (Obj.mapFields (·.setIfInBounds 3 Value.none))).get? c=s.heap.get? c:=λ_ hc=>EU _ _ (E2 hc)
  have nT:∀b o,s.heap.get? b=some o->(∀us,o.data≠.fields us)->b≠T:=λb o hb hnf z=>by
   subst z
   rw[hT]at hb
   cases hb
   exact hnf ts hTd
  refine entry hfr (hl.of_keeps λb o hb hnf=>⟨o,(other b (nT b o hb hnf)).trans hb,rfl⟩) hf ((other e (E2 hTe)).trans he) hdt (Fn.mp h1).1 h0 λh' T' x1 x2 x3=>k h' T' x1 ?_ ?_
  ·rwa[FN]at x2
  ·refine⟨λb o hb h1 h2 h3=>x3.keep b o ((other b λz=>h3 (by rw[z])).trans hb) h1 h2 (λz=>nomatch z),λb o hb hm=>?_,?_⟩
   ·obtain⟨_,o',ho',hn'⟩:=hl.mem hm
    have e':o'=o:=EO (ho'.symm.trans hb)
    subst e'
    exact x3.slot b o' ((other b (nT b o' hb hn')).trans hb) hm
   ·have:=x3.size
    rwa[FN]at this
def again{cls a0:Value}{dx:Option Addr}{T:Addr}{fr:List Addr}(x:Exc s.heap e cls a0 dx (some T))(hfr:T∉fr)(k:∀h',Exc h' e cls a0 dx (some T)->Step fr e (some T) s.heap h'->Q () { s with heap:=h' }):wpAny M A (setFlight (.ref e) none) Q E s:=by
 obtain⟨oe,vs,he,rfl,rfl,hdt,h0,hn,hs⟩:=x
 obtain⟨h1,hTe,oT,ts,hT,hTd,h3⟩:=hs T rfl
 unfold setFlight
 refine Em (GJ he hdt h1 ?_)
 rw[EG (by simp:(Value.ref T != Value.none)=true)]
 have i3:3<ts.size:=(Fn.mp h3).1
 refine Fj hT hTd i3 (k _ ?_ ?_)
 ·refine⟨oe,vs,(EU _ _ hTe).trans he,rfl,rfl,hdt,h0,(λz=>nomatch z),λT' z=>?_⟩
  cases z
  exact⟨h1,hTe,_,_,E8 _ hT (Gx (Gn hTd _)),Gn hTd _,by simp[i3]⟩
 ·refine⟨λb o hb _ _ hb'=>(EU _ _ λz=>hb' (by rw[z])).trans hb,λb o hb hm=>?_,?_⟩
  ·have ne:T≠b:=λz=>hfr (by rw[z];exact hm)
   exact⟨o.slots,(EU _ _ ne).trans hb⟩
  ·rw[FN]
   exact Ep _
def tY{h:Heap}{gs:Array GenState}{dr:Drawn}{tk:Nat}{o:OsState}{C B N NB:Addr}{oe:Obj}{cn cq bn bq:Str}{bases tl bases' tl':List Value}{hasD hasD':Bool}{sn sn':List Str}{subs subs':List Value}{ab ab':Bool}{col col':Option Bool}
  {cdd cdd':Option Addr} {l0 l1 l2 l3 l5 m0 m1 m2 m3 m5:Option Value} {nw nw':String} {R:Bool->Shared->Prop} (hC:h.get? C=some (excClassObj cn cq C N bases tl hasD sn subs ab col cdd l0 l1 l2 l3 l5 nw)) (hB:h.get? B=some (excClassObj bn bq B NB bases' tl' hasD' sn' subs' ab' col' cdd' m0 m1 m2 m3 m5 nw'))
  (he:h.get? e=some oe) (hcl:oe.cls=.ref C) (hbb:tl'.contains (.type "BaseException")=true) (hsub:(Value.ref C::tl).contains (.ref B)=true) (hq:R true ⟨h,gs,dr,tk,o⟩):wpAny M A (excMatches (.ref e) (.ref B)) R E ⟨h,gs,dr,tk,o⟩:=by
 have hcB:(Value.ref B::tl').contains (.type "BaseException")=true:=by rw[ID,hbb,IX]
 have q:=tc_notTuple
 unfold excMatches
 repeat (first|(with_reducible refine Gi he ?_;rw[hcl])|(with_reducible refine Gi hB ?_)|(with_reducible refine HC hB ?_;rw[hcB])|(with_reducible refine HC hC ?_;rw[hsub])|wp_step)
 exact hq
end
end UfX
end
section
namespace L2
open PySem PySem.Spec PyProof.Rows UfX
def eE(a:Addr)(cls:Value)(dx:Option Addr)(h:Heap):Prop:=∃oe vs,h.get? a=some oe/\oe.cls=cls/\oe.dict=dx/\oe.data=.fields vs
def cS(a:Addr)(cls:Value)(dx:Option Addr):HO:=.ext (eE a cls dx)
def eE.ok{P:Program}{w:World}{H:Hp}{h:Heap}{a:Addr}{cls:Value}{dx:Option Addr}(x:eE a cls dx h):bc P w H h a (cS a cls dx):=by
 refine⟨x,?_,λh1 h2 y k=>?_⟩
 ·obtain⟨oe,_,e,_⟩:=x
  exact⟨oe,e⟩
 ·obtain⟨oe,vs,e,r⟩:=y
  exact⟨oe,vs,k _ e,r⟩
section
variable {X:Cx}{pins:List (Addr×Obj)}{σ:St}{H:Hp}{s:Shared}
def Inv.By{a:Addr}{φ:Heap->Prop}(I:Inv X pins σ H s)(ha:H a=none)(na:X.s₀.heap.get? a=none)(aL:a≠X.env.locals)(aC:∀x c,X.env.cells.lookup x=some c->c≠a)(aP:∀p∈X.pn++pins,p.1≠a)
  (ok:bc X.prog X.w (upd H a (.ext φ)) s.heap a (.ext φ)):Inv X pins σ (upd H a (.ext φ)) s:=by
 have b0:=I.base
 have up:∀b o,H b=some o->upd H a (.ext φ) b=some o:=λb o e=>by
  rw[af (λz=>by rw[z,ha]at e;cases e)]
  exact e
 refine⟨I.ok,I.os,I.bare,⟨b0.keep,b0.slot,λb o h1 h2 h3=>?_,b0.there,λb xs h=>up _ _ (b0.bQ b xs h),λb o u h=>up _ _ (b0.frzs b o u h),λb ps h=>?_⟩,I.loc,I.cell,?_,λx c h=>?_,λp hp=>?_,λb o h=>?_,I.len⟩
 ·rw[af (λz=>by rw[z,na]at h1;cases h1)]
  exact b0.free b o h1 h2 h3
 ·obtain⟨more,h2⟩:=b0.tbls b ps h
  exact⟨more,up _ _ h2⟩
 ·rw[af (E2 aL)]
  exact I.free
 ·rw[af (aC x c h)]
  exact I.freeC x c h
 ·obtain⟨h1,h2,h3⟩:=I.pin p hp
  refine⟨h1,?_,h3⟩
  rw[af (aP p hp)]
  exact h2
 ·by_cases z:b=a
  ·subst z
   rw[ae]at h
   cases h
   exact ok
  ·rw[af z]at h
   exact(I.hok b o h).ib (λ_ _ _ q=>q) (λc hc=>up _ _ hc) (λc xs hc=>up _ _ hc) λc _ _ hc _=>up _ _ hc
def sI{M:Model}{A:Around}{E:Value->Shared->Prop}{i:Nat}{x:Str}{v:V}{Q:Unit->Shared->Prop}(I:Inv X pins (σ.set i (some v)) H s)(hN:X.N.Nodup)(hi:X.N[i]?=some x)(hk:X.env.scope.names.lookup x=some .local)(hz:i<σ.length)
  (h:∀s',Inv X pins (σ.set i none) H s'->Q () s'):wpAny M A (unbindName X.env x) Q E s:=by
 obtain⟨m,hn,hl⟩:=id I.loc
 have uw:=I.uw
 obtain⟨u,_,hu⟩:=hl i x v hi (by rw[Hg hz]) (.inl hk)
 have hm:m x=some u:=by
  rcases hu with⟨_,e⟩|⟨k,_⟩
  ·exact e
  ·have k':X.env.scope.names.lookup x=some .cell\/X.env.scope.names.lookup x=some .free:=k
   rw[hk]at k'
   rcases k' with k'|k' <;> cases k'
 refine wpAny_unbindName_local hk hn hm (by rw[I.ok.kind];rfl) λh' uu hn' hs=>h _ ?_
 have low:∀b o,X.s₀.heap.get? b=some o->b≠X.env.locals:=λb o e=>Ez (EE (Er e) I.ok.above)
 obtain⟨oL,_,_,hoL,_⟩:=id hn
 refine⟨I.ok,I.os,I.bare,⟨λb o e n hb hx=>?_,λb o e n hb hx=>?_,I.base.free,λb o e hx=>?_,I.base.bQ,I.base.frzs,I.base.tbls⟩,⟨_,hn',λj y v' e1 e2 e3=>?_⟩,λy c e=>?_,I.free,I.freeC,λp hp=>?_,λb ob e=>(I.hok b ob e).ib (λc w' hc q=>(hs.2 c ?_).trans q) (λ_ q=>q) λ_ _ q=>q,?_⟩
 ·exact(hs.2 b (low b o e)).trans (I.base.keep b o e n hb hx)
 ·obtain⟨sl,e1⟩:=I.base.slot b o e n hb hx
  exact⟨sl,(hs.2 b (low b o e)).trans e1⟩
 ·obtain⟨o',e1⟩:=I.base.there b o e hx
  exact⟨o',(hs.2 b (low b o e)).trans e1⟩
 ·by_cases hj:j=i
  ·subst hj
   rw[Hg hz]at e2
   cases e2
  ·rw[Hr (E2 hj)]at e2
   obtain⟨u',r',q⟩:=hl j y v' e1 (by rw[Hr (E2 hj)];exact e2) e3
   refine⟨u',r',?_⟩
   rcases q with⟨k,e⟩|⟨k,c,e,z⟩
   ·refine .inl ⟨k,?_⟩
    have:y≠x:=λe=>hj (ky hN e1 (e ▸ hi))
    simp[this,e]
   ·exact .inr ⟨k,c,e,z.sameBut hs (uw y c e)⟩
 ·obtain⟨w',z⟩:=I.cell y c e
  exact⟨w',z.sameBut hs (uw y c e)⟩
 ·obtain⟨h1,h2,h3,h4⟩:=I.pin p hp
  exact⟨(hs.2 _ h3).trans h1,h2,h3,h4⟩
 ·rintro rfl
  rcases hc with z|hc
  ·rw[<-z,I.free]at e;cases e
  ·rw[I.free]at hc;cases hc
 ·have:=I.len
  rw[Ji]at this ⊢
  exact this
end
end L2
end
section
namespace L2
open PySem PySem.Spec PyProof.Rows UfX
abbrev Cx.held(X:Cx)(a:Addr):Cx:={ X with A:=X.A.mark (some (.ref a)),calm:=false,xe:=λ_ _=>False }
theorem Cx.Ok.held{X:Cx}(ok:X.Ok)(a:Addr):(X.held a).Ok :=
 ⟨ok.mod,ok.kind,ok.glob,ok.blt,ok.above,ok.inj,ok.has,ok.cab,(λz=>nomatch z),ok.frames,ok.stk,ok.exf,ok.bs,ok.bsz,ok.noex,ok.exfs,ok.fG,ok.frf⟩
def x5(X:Cx)(pins:List (Addr×Obj))(D:Ends)(hs:List ExceptHandler):Value->Shared->Prop:=λe s1=>wpAny (model X.prog X.w) X.A (noteFrame e X.env) (λ_ s2=>wpAny (model X.prog X.w) X.A (setFlight e none) (λ_ s3 =>
 wpAny (model X.prog X.w) X.A (handleBy e X.env hs) (SP X pins D) X.xe s3) X.xe s2) X.xe s1
abbrev Cx.ic(X:Cx)(pins:List (Addr×Obj))(D:Ends)(hs:List ExceptHandler):Cx:={ X with pn:=X.pn++pins,xe:=x5 X pins D hs }
section
variable {X:Cx}{pins pins':List (Addr×Obj)}{σ:St}{H:Hp}{s:Shared}{a:Addr}{D:Ends}{hs:List ExceptHandler}
theorem Inv.held(I:Inv X pins σ H s)(a:Addr):Inv (X.held a) pins σ H s:=⟨I.ok.held a,I.os,I.bare,I.base,I.loc,I.cell,I.free,I.freeC,I.pin,I.hok,I.len⟩
def Inv.mY(I:Inv (X.held a) pins σ H s)(ok:X.Ok):Inv X pins σ H s:=⟨ok,I.os,I.bare,I.base,I.loc,I.cell,I.free,I.freeC,I.pin,I.hok,I.len⟩
theorem Cx.Ok.ic(ok:X.Ok):(X.ic pins D hs).Ok:=⟨ok.mod,ok.kind,ok.glob,ok.blt,ok.above,ok.inj,ok.has,ok.cab,ok.hd,ok.frames,ok.stk,ok.exf,ok.bs,ok.bsz,ok.noex,ok.exfs,ok.fG,ok.frf⟩
def Cx.Ok.fQ(ok:(X.ic pins D hs).Ok):X.Ok:=⟨ok.mod,ok.kind,ok.glob,ok.blt,ok.above,ok.inj,ok.has,ok.cab,ok.hd,ok.frames,ok.stk,ok.exf,ok.bs,ok.bsz,ok.noex,ok.exfs,ok.fG,ok.frf⟩
theorem Inv.ic(I:Inv X pins σ H s):Inv (X.ic pins D hs) [] σ H s:=⟨I.ok.ic,I.os,I.bare,I.base,I.loc,I.cell,I.free,I.freeC,(λp hp=>I.pin p (by rwa[Gu]at hp)),I.hok,I.len⟩
theorem Inv.fQ(I:Inv (X.ic pins D hs) pins' σ H s):Inv X pins σ H s:=⟨I.ok.fQ,I.os,I.bare,I.base,I.loc,I.cell,I.free,I.freeC,(λp hp=>I.pin p (Fc _ hp)),I.hok,I.len⟩
structure qO(K:PySem.W.Frag)(C B:Addr):Prop where
 c:∃cn cq N bases tl hasD sn subs ab col cdd l0 l1 l2 l3 l5 nw,K.lookup C=some (excClassObj cn cq C N bases tl hasD sn subs ab col cdd l0 l1 l2 l3 l5 nw)/\(Value.ref C::tl).contains (.ref B)=true
 b:uy K B
abbrev mD(i:Nat)(D:Ends):Ends:={ nx:=λσ H=>D.nx (σ.set i none) H,rt:=D.rt,bk:=λσ H=>D.bk (σ.set i none) H,ct:=λσ H=>D.ct (σ.set i none) H }
end
end L2
end
section
namespace L2
open PySem PySem.Spec PyProof.Rows UfX
section
variable {X:Cx}{pins:List (Addr×Obj)}{D:Ends}{B:Addr}{i:Nat}{n cn:Str}{np hpos:Pos}{b0:Stmt}{suite:List Stmt}{th:Addr->TS}
def Az{body:List Stmt}{tb:Ends->TS}{pos:Pos}(hb:∀(D:Ends) (pins:List (Addr×Obj)),lK (X.ic pins D [.ExceptHandler (some (.Name cn np)) (some n) (b0::suite) hpos]) body (tb D)) :
  PS X (.Try body [.ExceptHandler (some (.Name cn np)) (some n) (b0::suite) hpos] [] [] pos) (λD σ H=>tb D D σ H):=by
 intro pins s σ H D I h
 rw[arm_exec_Try]
 refine Em (Hx (wpAny_tryStmt_except ?_))
 refine Fy (hb D pins [] s σ H D I.ic h) (λf s1 hf=>?_) λ_ _ z=>z
 cases f with
 |next=>obtain⟨σ',H5,K1,z⟩:=hf;exact Eo ⟨σ',H5,K1.fQ,z⟩
 |brk=>obtain⟨σ',H5,K1,z⟩:=hf;exact⟨σ',H5,K1.fQ,z⟩
 |cont=>obtain⟨σ',H5,K1,z⟩:=hf;exact⟨σ',H5,K1.fQ,z⟩
 |ret u=>obtain⟨v,σ',H5,K1,rv,z⟩:=hf;exact⟨v,σ',H5,K1.fQ,rv,z⟩
end
end L2
end
section
namespace L2
open PySem PySem.Spec PyProof.Rows UfX
section
variable {P:Program}{w:World}{A:Around}{E:Value->Shared->Prop}{h:Heap}{gs:Array GenState}{dr:Drawn}{tk:Nat}{o:OsState}{K:PySem.W.Frag}{x C:Addr}{ox:Obj}{od:Option Obj}{name:Str}{expr fill:Bool}{Q:Value->Shared->Prop}
def sX{t:Tok}{v:Value}(X:K.In h)(J:PySem.W.InstAt h x ox C od)(hga:PySem.W.findIn K (.ref C) "__getattribute__"=some (some (.builtin "BaseException.__getattribute__")))(hgn:PySem.W.findIn K (.ref C) "__getattr__"=some none)
  (k:codeAny (model P w) A (.call (.builtin "BaseException.__getattribute__") ⟨[.ref x,.str name t],[]⟩) (λr s'=>∃u,r=.ok (.ret u)/\PySem.W.handedIn u=true/\Q u s') ⟨h,gs,dr,tk,o⟩) :
  wpAny (model P w) A (getAttrBy (.ref x) (.str name t) fill expr) Q E ⟨h,gs,dr,tk,o⟩:=by
 have L0:=J.type (M:=model P w)
 have L1:=Gf (M:=model P w) X hga
 have L2:=Gf (M:=model P w) X hgn
 have f3:=Gp.ga.bind (.ref x)
 have g0:(expr&&onTheHeap (Value.builtin "BaseException.__getattribute__"))=false:=by cases expr <;> rfl
 have g2:(Value.builtin "BaseException.__getattribute__" == Value.builtin "object.__getattribute__")=false:=by decide +kernel
 have g1:(onTheHeap (Value.ref C)&&Value.builtin "BaseException.__getattribute__" == Value.builtin "object.__getattribute__")=false:=by rw[g2];rfl
 repeat (any_goals (first|assumption|(with_reducible refine L0.at ?_)|(with_reducible refine L1.at ?_)|(with_reducible refine L2.at ?_)|wp_step))
 refine FL k λr s' hr=>?_
 obtain⟨u,rfl,hu,q⟩:=hr
 show wpAny _ _ (handedOut u) _ _ _
 rw[Jz hu]
 exact Eo q
def wL{t:Tok}{v:Value}{R:Result->Shared->Prop}(X:K.In h)(J:PySem.W.InstAt h x ox C od)(hm:PySem.W.mroIn K C (.type "BaseException")=some true)(hf:PySem.W.findObj K C od name=some (.value v))(q:R (.ok (.ret v)) ⟨h,gs,dr,tk,o⟩) :
  codeAny (model P w) A (.call (.builtin "BaseException.__getattribute__") ⟨[.ref x,.str name t],[]⟩) R ⟨h,gs,dr,tk,o⟩:=by
 have L0:=J.type (M:=model P w)
 have L1:=PySem.W.looks_find (M:=model P w) X J hf
 have isB:PySem.W.Looks (model P w) h (isInstance (.ref x) (.type "BaseException")) true:=J.type.andThen (Iu X hm)
 refine GF Gp.ga.plain Jw (@IE (model P w) _ _ ⟨h,gs,dr,tk,o⟩ "BaseException.__getattribute__" "BaseException" "__getattribute__" (.ref x) [.str name t] [] _ (by decide +kernel) (by decide +kernel) isB (JA (.ref x) (.str name t)) ?_)
 unfold Builtin.«object.__getattribute__»
 repeat (any_goals (first|assumption|(with_reducible refine L0.at ?_)|(with_reducible refine L1.at ?_)|wp_step))
end
end L2
end
section
namespace L2
open PySem PySem.Spec PyProof.Rows UfX
structure Ac(K:PySem.W.Frag)(C:Addr)(f:Str):Prop where
 ga:PySem.W.findIn K (.ref C) "__getattribute__"=some (some (.builtin "BaseException.__getattribute__"))
 gn:PySem.W.findIn K (.ref C) "__getattr__"=some none
 hm:PySem.W.mroIn K C (.type "BaseException")=some true
 hd:PySem.W.hasDictIn K C=true
 no:PySem.W.findIn K (.ref C) f=some none
section
variable {X:Cx}{pins:List (Addr×Obj)}{σ:St}{H:Hp}{s:Shared}{A:Around}{E:Value->Shared->Prop}
end
section
variable {X:Cx}
end
end L2
end
section
namespace L2
open PySem PySem.Spec PyProof.Rows UfX
section
variable {X:Cx}{pins:List (Addr×Obj)}{σ:St}{H:Hp}{s:Shared}{A:Around}{E:Value->Shared->Prop}
def oA{a C dx r:Addr}{f:Str}{fs:List (Str×V)}{expr:Bool}{Q:Value->Shared->Prop}(I:Inv X pins σ H s)(ha:H a=some (cS a (.ref C) (some dx)))(hx:H dx=some (.xd fs))(G:Ac X.K C f)(hl:fs.lookup f=some (.ref r))
  (h:∀s',Inv X pins σ H s'->Q (.ref r) s'):wpAny (model X.prog X.w) A (getAttr (.ref a) f expr) Q E s:=by
 obtain⟨oe,vs,he,hcl,hdx,hdt⟩:eE a (.ref C) (some dx) s.heap:=(I.hok a _ ha).1
 obtain⟨mA,hn,hr⟩:∃mA,s.heap.Ns1 dx mA/\∀f,gb (fs.lookup f) (mA f):=I.hok dx _ hx
 have q0:=hr f
 rw[hl]at q0
 have hm:mA f=some (.ref r):=by
  cases q:mA f with
  |none=>rw[q]at q0;exact False.elim q0
  |some u =>
   rw[q]at q0
   have e:u=Value.ref r:=q0
   rw[e]
 obtain⟨od,ho,hlk⟩:=jg hn
 obtain⟨oc,odi,oda,osl⟩:=oe
 dsimp only at hcl hdx hdt
 subst hcl hdx hdt
 have J:PySem.W.InstAt s.heap a ⟨.ref C,some dx,.fields vs,osl⟩ C (some od):=⟨he,rfl,rfl,ho⟩
 have hf:=JE (K:=X.K) (C:=C) (name:=f) (od:=od) (v:=.ref r) G.hd G.no rfl (by rw[hlk,hm])
 obtain⟨hh,g,d,tk,os⟩:=s
 unfold getAttr
 refine Em (wpAny_mkText ?_)
 exact sX (v:=.ref r) I.eD J G.ga G.gn (wL I.eD J G.hm hf ⟨_,rfl,rfl,h _ (I.tok _)⟩)
end
section
variable {X:Cx}
def vP(K:PySem.W.Frag)(ta:TE)(f:Str):TE:=λσ H Q=>ta σ H λx H1=>∃a C dx fs r,x=.ref a/\H1 a=some (cS a (.ref C) (some dx))/\H1 dx=some (.xd fs)/\Ac K C f/\fs.lookup f=some (.ref r)/\Q (.ref r) H1
def qp{e:Expr}{f:Str}{ta:TE}{pos:Pos}(he:PE X e ta)(hb:attributeBase e f X.env (eval e X.env)=eval e X.env):PE X (.Attribute e f pos) (vP X.K ta f):=by
 intro pins s σ H Q I h
 refine rY hb (bo (he pins s σ H _ I h) λu s1 hu=>?_)
 obtain⟨x,H1,I1,rx,a,C,dx,fs,r,ex,ea,ed,G,hl,q⟩:=hu
 subst ex
 obtain rfl:u=Value.ref a:=rx
 exact oA I1 ea ed G hl λs2 I2=>⟨.ref r,H1,I2,rfl,q⟩
end
theorem jJ{n:Nat}:∀(ts:List Str) (k:Nat) (acc:Str),(∀t∈ts,t.length<=n)->(PySem.textFrom k acc ts).length<=acc.length+(n+2)*ts.length
 |[],k,acc,_=>by simp[PySem.textFrom]
 |t::ts,k,acc,h=>by
  have h1:=jJ ts (k+1) (acc++(if k > 0 then ", " else "":String)++t) λx hx=>h x (EK _ hx)
  have h2:=h t (EY ..)
  have h3:(Str.ofString (if k > 0 then ", " else "")).length<=2:=by split <;> decide
  unfold PySem.textFrom
  rw[HA,HA]at h1
  rw[ER,Nat.mul_succ]
  lia
end L2
end
section
namespace L2
open PySem PySem.Spec PyProof.Rows UfX Uf PySem.StrLaws
section
variable {X:Cx}
def zI(A:Around)(te:TE):TE:=λσ H Q=>te σ H λv H1=>∃a xs,v=.ref a/\H1 a=some (.lst (aw xs))/\xs≠[]/\(∀x∈xs,x.length<=8/\∀c∈x.cps.toList,c<16 ^ 8)/\xs.length<=10000/\A.guards=some []/\A.units<cLine/\∀y,Q (.str y) H1
theorem mJ:∀{xs:List Str} {its:List Value},Vals (aw xs) its->∀(i:Nat) (y:Value),its[i]?=some y->∃x t,xs[i]?=some x/\y=.str x t
 |[],_,.nil,i,y,h=>by simp at h
 |x::xs,u::us,.cons r rs,0,y,h=>by
  obtain⟨t,e⟩:=(show ∃t,u=Value.str x t from r)
  have e2:u=y:=by simpa using h
  exact⟨x,t,rfl,by rw[<-e2,e]⟩
 |x::xs,u::us,.cons r rs,i+1,y,h=>by
  have h2:us[i]?=some y:=by simpa using h
  obtain⟨z,t,e1,e2⟩:=mJ rs i y h2
  exact⟨z,t,by simpa using e1,e2⟩
def xp{c1:Str}{j1 p1 p2 pos}{e:Expr}{te:TE}(he:PE X e te)(h1:c1.length<=100:=by decide) :
  PE X (.JoinedStr [.Constant (.str c1) j1 p1,.FormattedValue e 114 none p2] pos) (zI X.A te):=by
 intro pins s σ H Q I h
 refine wpAny_JoinedStr ?_
 refine Calls.Constant_str ⟨c1,_,rfl,by rw[HA,E3];show 0+c1.length<=_;lia,?_⟩
 refine wpAny_FormattedValue_repr (bo (he pins _ σ H _ (I.tok _) h) λu s1 hu=>?_)
 obtain⟨v,H1,I1,rv,a,xs,rfl,ha,hne,hx,hl,hg,hun,q⟩:=hu
 obtain rfl:u=Value.ref a:=rv
 obtain⟨z,its,n,r,hlen,eo⟩:=I1.qZ ha
 have lts:its.length=xs.length:=by rw[<-hlen];unfold aw;rw[List.length_map]
 obtain⟨y0,l0,rfl⟩:∃y0 l0,its=y0::l0:=by
  cases its with
  |nil=>exact absurd (Jf.mp lts.symm) hne
  |cons y0 l0=>exact⟨y0,l0,rfl⟩
 have rl:∀t∈xs.map reprText,t.length<=82:=λt ht=>by
  obtain⟨x,hx1,rfl⟩:=EH.mp ht
  have:=reprText_len x (hx x hx1).2
  have:=(hx x hx1).1
  lia
 have big:(listText (xs.map reprText)).length<=900000:=by
  unfold listText
  have:=jJ (n:=82) (xs.map reprText) 0 "[" rl
  rw[Et]at this
  rw[HA]
  have e1:("[":Str).length=1:=by decide
  have e2:("]":Str).length=1:=by decide
  have e3:(82+2)*xs.length<=(82+2)*10000:=Nat.mul_le_mul_left _ hl
  lia
 refine wpAny_pyReprObj_list (ts:=xs.map reprText) (x:=y0) (l:=l0) (g:=[]) ⟨_,eo,rfl⟩ hg (λv rest kw hm=>by simp at hm) hun eo rfl (by rw[Et,ED];lia) (λi y hy=>?_) (λh' u tk hk=>?_) (by rw[E3];lia)
 ·rw[List.getElem?_toArray]at hy
  obtain⟨x,t,e1,rfl⟩:=mJ r i y hy
  refine⟨reprText x,by rw[E4,e1];rfl,ReprIs.str x t (by rw[E3];have:=rl (reprText x) (EH.mpr ⟨x,EC e1,rfl⟩);lia)⟩
 ·have I2:Inv X pins σ H1 { s1 with heap:=h',toks:=tk }:=I1.kept hk
  have ln:((Str.empty++c1)++listText (xs.map reprText)).length<=sizeLine:=by
   rw[HA,HA,E3]
   show 0+c1.length+_<=_
   lia
  refine wpAny_formatField_str ⟨_,_,rfl,ln,ln,?_⟩ ⟨_,_,rfl,ln,ln,?_⟩ (by rw[E3];lia)
  ·exact⟨.str _,H1,I2.tok _,⟨_,rfl⟩,q _⟩
  ·exact⟨.str _,H1,I2.tok _,⟨_,rfl⟩,q _⟩
end
end L2
end
section
namespace L2
open PySem PySem.Spec PyProof.Rows UfX
section
variable {P:Program}{w:World}{A:Around}{E:Value->Shared->Prop}{h:Heap}{gs:Array GenState}{dr:Drawn}{tk:Nat}{o:OsState}{K:PySem.W.Frag}{x C:Addr}{ox:Obj}{od:Option Obj}
def uf{t:Tok}{R:Result->Shared->Prop}(X:K.In h)(J:PySem.W.InstAt h x ox C od)(hm:PySem.W.mroIn K C (.type "BaseException")=some true)(ho:PySem.W.mroIn K C (.type "object")=some true)
  (hf:PySem.W.findObj K C od "__class__"=some (.bind (.builtin "getset_descriptor.__get__") (.builtin "object.__class__"))) (q:R (.ok (.ret (.ref C))) ⟨h,gs,dr,tk,o⟩) :
  codeAny (model P w) A (.call (.builtin "BaseException.__getattribute__") ⟨[.ref x,.str "__class__" t],[]⟩) R ⟨h,gs,dr,tk,o⟩:=by
 have L0:=J.type (M:=model P w)
 have L1:=PySem.W.looks_find (M:=model P w) X J hf
 have isB:PySem.W.Looks (model P w) h (isInstance (.ref x) (.type "BaseException")) true:=J.type.andThen (Iu X hm)
 refine GF Gp.ga.plain Jw (@IE (model P w) _ _ ⟨h,gs,dr,tk,o⟩ "BaseException.__getattribute__" "BaseException" "__getattribute__" (.ref x) [.str "__class__" t] [] _ (by decide +kernel) (by decide +kernel) isB (JA (.ref x) (.str "__class__" t)) ?_)
 unfold Builtin.«object.__getattribute__»
 repeat (any_goals (first|assumption|(with_reducible refine L0.at ?_)|(with_reducible refine L1.at ?_)|wp_step))
 exact PySem.W.class_get (s:=⟨h,gs,dr,tk,o⟩) (ox:=ox) (od:=od) X J ho (Eo q)
def qk{t:Tok}{Q:Option Value->Shared->Prop}{name:Str}(X:K.In h)(J:PySem.W.InstAt h x ox C od)(hga:PySem.W.findIn K (.ref C) "__getattribute__"=some (some (.builtin "BaseException.__getattribute__")))(hgn:PySem.W.findIn K (.ref C) "__getattr__"=some none)
  (k:codeAny (model P w) A (.call (.builtin "BaseException.__getattribute__") ⟨[.ref x,.str name t],[]⟩) (λr s'=>∃u,r=.ok (.ret u)/\PySem.W.handedIn u=true/\Q (some u) s') ⟨h,gs,dr,tk,o⟩) :
  wpAny (model P w) A (getAttrBy? (.ref x) (.str name t)) Q E ⟨h,gs,dr,tk,o⟩:=by
 have L0:=J.type (M:=model P w)
 have L1:=Gf (M:=model P w) X hga
 have L2:=Gf (M:=model P w) X hgn
 have f3:=Gp.ga.bind (.ref x)
 have g2:(Value.builtin "BaseException.__getattribute__" == Value.builtin "object.__getattribute__")=false:=by decide +kernel
 have g1:(onTheHeap (Value.ref C)&&Value.builtin "BaseException.__getattribute__" == Value.builtin "object.__getattribute__")=false:=by rw[g2];rfl
 unfold getAttrBy?
 repeat (any_goals (first|assumption|(with_reducible refine L0.at ?_)|(with_reducible refine L1.at ?_)|(with_reducible refine L2.at ?_)|wp_step))
 refine FL k λr s' hr=>?_
 obtain⟨u,rfl,hu,q⟩:=hr
 show wpAny _ _ (handedOut u) _ _ _
 rw[Jz hu]
 exact Eo (Eo q)
end
structure tw(K:PySem.W.Frag)(C:Addr):Prop where
 ga:PySem.W.findIn K (.ref C) "__getattribute__"=some (some (.builtin "BaseException.__getattribute__"))
 gn:PySem.W.findIn K (.ref C) "__getattr__"=some none
 hm:PySem.W.mroIn K C (.type "BaseException")=some true
 ho:PySem.W.mroIn K C (.type "object")=some true
 hd:PySem.W.hasDictIn K C=true
 cl:PySem.W.findIn K (.ref C) "__class__"=some (some (.builtin "object.__class__"))
 gt:PySem.W.specialIn K (.builtin "object.__class__") "__get__"=some (some (.builtin "getset_descriptor.__get__"))
 tk:PySem.W.takesIn K (.builtin "object.__class__")=some true
def oY{K:PySem.W.Frag}{x C:Addr}{ox od:Obj}(G:tw K C):PySem.W.KitX K (.ref x) (.ref C) (λh=>PySem.W.InstAt h x ox C (some od)) where
 ty:=λ_ _ _ J=>J.type
 it:=λ_ _ X _=>by
  obtain⟨cd,hc,_⟩:=GO G.hd
  unfold PySem.W.clsIn at hc
  split at hc
  ·rename_i c' d' cd' sl' lo
   intro A' Q' E' s' k q
   unfold isType loadHead
   exact Em (Jq (k _ _ (X _ _ lo)) (Eo q))
  ·cases hc
 ne:=λh tp dd its n sl X htp=>by
  obtain⟨cd,hc,_⟩:=GO G.hd
  refine Bool.eq_false_iff.mpr λq=>?_
  have e:C=tp:=Value.ref.inj (Hc.mp q)
  subst e
  unfold PySem.W.clsIn at hc
  split at hc
  ·rename_i c' d' cd' sl' lo
   have z:=(X _ _ lo).symm.trans htp
   cases z
  ·cases hc
 ca:=λ{prog w A E Q s} X J k=>by
  have hf:PySem.W.findObj K C (some od) "__class__"=some (.bind (.builtin "getset_descriptor.__get__") (.builtin "object.__class__")):=PySem.W.findObj_data (by obtain⟨cd,hc,_⟩:=GO G.hd;rw[hc];rfl) G.cl G.gt G.tk
  obtain⟨h,gs,dr,tk,o⟩:=s
  unfold getAttr?
  exact Em (wpAny_mkText (qk X J G.ga G.gn (uf X J G.hm G.ho hf ⟨_,rfl,rfl,k⟩)))
section
variable {X:Cx}{pins:List (Addr×Obj)}{σ:St}{H:Hp}{s:Shared}{A:Around}{E:Value->Shared->Prop}
def md{a C dx:Addr}{fs:List (Str×V)}(I:Inv X pins σ H s)(ha:H a=some (cS a (.ref C) (some dx)))(hx:H dx=some (.xd fs)):∃ox od,PySem.W.InstAt s.heap a ox C (some od):=by
 obtain⟨oe,vs,he,hcl,hdx,hdt⟩:eE a (.ref C) (some dx) s.heap:=(I.hok a _ ha).1
 obtain⟨mA,hn,_⟩:∃mA,s.heap.Ns1 dx mA/\∀f,gb (fs.lookup f) (mA f):=I.hok dx _ hx
 obtain⟨od,ho,_⟩:=jg hn
 obtain⟨oc,odi,oda,osl⟩:=oe
 dsimp only at hcl hdx hdt
 subst hcl hdx hdt
 exact⟨_,od,he,rfl,rfl,ho⟩
def ud{a C dx:Addr}{fs:List (Str×V)}{c:Value}{b:Bool}{Q:Value->Shared->Prop}(I:Inv X pins σ H s)(ha:H a=some (cS a (.ref C) (some dx)))(hx:H dx=some (.xd fs))(G:tw X.K C)(e:PySem.W.kitOne X.K (.ref C) c=some b)
  (h:∀s',Inv X pins σ H s'->Q (.bool b) s'):wpAny (model X.prog X.w) A (call (.builtin "isinstance") [.ref a,c]) Q E s:=by
 obtain⟨ox,od,J⟩:=md I ha hx
 exact Fz (oY G) I.eD J e (λz=>nomatch z) λtk=>h _ (I.tok tk)
def qt{a C dx tp:Addr}{fs:List (Str×V)}{dd:Option Addr}{its:List Value}{n:Nat}{sl:Array (Option Value)}{b:Bool}{Q:Value->Shared->Prop}(I:Inv X pins σ H s)(ha:H a=some (cS a (.ref C) (some dx)))(hx:H dx=some (.xd fs))(G:tw X.K C)
  (ht:s.heap.get? tp=some ⟨.type "tuple",dd,.seq its.toArray n,sl⟩) (e:PySem.W.kitAny X.K (.ref C) its=some b) (h:∀s',Inv X pins σ H s'->Q (.bool b) s'):wpAny (model X.prog X.w) A (call (.builtin "isinstance") [.ref a,.ref tp]) Q E s:=by
 obtain⟨ox,od,J⟩:=md I ha hx
 exact PySem.W.kia_tup (oY G) I.eD J ht e (λz=>nomatch z) λtk=>h _ (I.tok tk)
end
end L2
end
section
namespace L2
open PySem PySem.Spec PyProof.Rows UfX
def ph:V->Value
 |.ref a=>.ref a
 |.ty n=>.type n
 |_=>.none
def rH{c:V}{u:Value}(r:RelV c u)(h:ph c≠.none):u=ph c:=by
 cases c <;> first|exact absurd rfl h|exact r
theorem pU:∀{cs:List V} {us:List Value},Vals cs us->(∀c∈cs,ph c≠.none)->us=cs.map ph
 |_,_,.nil,_=>rfl
 |_,_,.cons r t,h=>by
  rw[Ff,<-rH r (h _ EY),<-pU t λc hc=>h c (EK _ hc)]
def Ay(K:PySem.W.Frag):List V->Hp->VK->Prop:=λxs H Q=>∃a C dx fs c b,xs=[.ref a,c]/\H a=some (cS a (.ref C) (some dx))/\H dx=some (.xd fs)/\tw K C/\Q (.bl b) H /\
 ((ph c≠.none/\PySem.W.kitOne K (.ref C) (ph c)=some b)\/∃tp cs,c=.ref tp/\H tp=some (.tup cs)/\(∀d∈cs,ph d≠.none)/\PySem.W.kitAny K (.ref C) (cs.map ph)=some b)
section
variable {X:Cx}
def fL:eM X (.builtin "isinstance") (Ay X.K):=by
 intro pins s σ H xs us Q I r h
 obtain⟨a,C,dx,fs,c,b,rfl,ha,hx,G,q,hc⟩:=h
 cases r with
 |cons r0 r1 =>
  cases r1 with
  |cons r2 r3 =>
   cases r3
   obtain rfl:=r0
   rcases hc with⟨hn,e⟩|⟨tp,cs,rfl,ht,hn,e⟩
   ·rw[rH r2 hn]
    exact ud I ha hx G e λs' I'=>⟨.bl b,H,I',rfl,q⟩
   ·obtain rfl:=r2
    obtain⟨_,its,rv,ob,h1,h2,n,h3⟩:=(show bc X.prog X.w H s.heap tp (.tup cs) from I.hok tp _ ht)
    obtain⟨oc,odi,oda,osl⟩:=ob
    dsimp only at h2 h3
    subst h2 h3
    refine qt I ha hx G h1 ?_ λs' I'=>⟨.bl b,H,I',rfl,q⟩
    rw[pU rv hn]
    exact e
end
end L2
end
section
namespace UfX
open PySem
section
variable {M:Model}{A:Around}{E:Value->Shared->Prop}{s:Shared}{base:Heap}{env cenv:Env}{outer:List Env}{L e:Addr}{Q:Unit->Shared->Prop}
end
end UfX
end
section
namespace L2
open PySem PySem.Spec PyProof.Rows UfX
section
variable {P:Program}{w:World}{K:PySem.W.Frag}{mg:Str->Option Value}{base:Heap}{N:List Str}{qual:Str}{scope:Scope}{f:Addr}{cd:Value}{A:Around}{outer:List Env}{s:Shared}{H:Hp}{E:XK}
end
end L2
end
section
namespace L2
open PySem PySem.Spec PyProof.Rows UfX
section
variable {P:Program}{w:World}{K:PySem.W.Frag}{mg:Str->Option Value}{base:Heap}{N N2:List Str}{qual:Str}{scope sc:Scope}{f:Addr}{cd:Value}{A:Around}{outer:List Env}{s:Shared}{H:Hp}{E:XK}
end
section
variable {prog:Program}{w:World}{A:Around}{R:Result->Shared->Prop}{s:Shared}
end
section
variable {X:Cx}{N:List Str}{n:Nat}{ci:List Nat}{sc:Scope}
end
end L2
end
section
namespace L2
open PySem
def d3.DI{P:PySem.Program}{w:PySem.World}{K:PySem.W.Frag}{mg:PySem.Str->Option PySem.Value}{base:PySem.Heap}{x qual:PySem.Str}{st:PySem.Stmt}{f:PySem.Addr}{fd:PySem.FuncData}{N ps:List PySem.Str}{k:Nat}{sp:Sp}(F:d3 K x qual st f fd)(S:az N ps (aj st))(len:∀vs H Q E,sp vs H Q E->vs.length=ps.length)
  (hbody:∀(cdv:PySem.Value) (A:PySem.Around) (outer:List PySem.Env) (s:PySem.Shared) (H:Hp) (vs:List V) (Q:VK) (E:XK),bB k (A.deeper (PyProof.Rows.envOfC qual (aj st) s.heap.objs.size f cdv))->sp vs H Q E ->
   ∃t,lK (bz (sk P w) P w K mg base N qual (aj st) f cdv A outer s H E) (ay st) t/\t { nx:=λ_ H'=>Q .non H',rt:=Q } (start N vs) H):aM P w K mg base (sk P w) (k+1) f fd ps sp:=by
 obtain⟨oc,od,kV,doc,pm,an,cdv,ct,osl,rfl,lk,hcd⟩:=F.ex
 exact xy lk hcd S len λA outer s H vs Q E hr hsp=>hbody cdv A outer s H vs Q E hr hsp
end L2
namespace Uf
open PySem L2 UfSrt UfFin
abbrev eC:Stmt:=inClass (top 12) 0
def zL:bootBuiltins "dict"=some (.type "dict"):=by decide +kernel
structure rz(row:List Str):Prop where
 ne:row≠[]
 nm:∀x∈row,isNm x=true
 le:row.length<=10000
def sv:∀c∈xC.cps.toList,c<16 ^ 8:=by decide +kernel
def rz.small{row:List Str}(h:rz row):∀x∈row,x.length<=8/\∀c∈x.cps.toList,c<16 ^ 8:=λx hx=>by
 have hn:=h.nm x hx
 refine⟨kU hn,λc hc=>?_⟩
 unfold isNm at hn
 have h1:=(ES.mp (ES.mp hn).2).2
 have h2:=FE (Gb.mp h1 c hc)
 exact sv c h2
def o8{ms:List Mv}{s:List Str}:∀{r:List Str} {t:List Str},UfBfs.cg (graph ms) s r t->∀x∈r,x∈names ms:=by
 intro r t h
 induction h with
 |nil=>intro x hx;simp at hx
 |snoc _ hm ih =>
  intro x hx
  rcases EX.mp hx with hx|hx
  ·exact ih x hx
  ·rw[Gm.mp hx]
   exact(jS.mp hm).1
def uS{ms:List Mv}{st row:List Str}(so:Sound ms st)(h:UfBfs.Told (graph ms) (aI st) (some row))(hl:row.length<=5001):rz row:=by
 obtain⟨r,t,m,rfl,hr,hb,_⟩:=h
 have hm:m∈names ms:=by
  have h2:m∈aI (names ms):=IP hb
  exact cQ.mp h2
 refine⟨by simp,λx hx=>?_,by lia⟩
 have hx:x∈names ms:=by
  rcases EX.mp hx with hx|hx
  ·exact o8 hr x hx
  ·rw[Gm.mp hx];exact hm
 exact Gb.mp so.nn x hx
inductive zC(C:Addr)(vs:List V)(H:Hp)(Q:VK)(E:XK):Prop
 |mk (a l row:_) (_:vs=[.ref a,.ref l]) (_:H l=some (.lst (aw row))) (_:rz row) (_:H a=some (iA a (.ref C) none)) (_:∀q dx,H q=none->(upd H q (.lst (aw row))) dx=none->dx≠a->Q .non (upd (upd (upd H q (.lst (aw row))) dx (.xd [("row",.ref q)])) a (iA a (.ref C) (some dx))))
def Bj:az ["self", "row"] ["self", "row"] (aj eC):=gm
def nV{f C N NE:Addr}{fd:FuncData}(F:d3 K "__init__" "Crowded.__init__" eC f fd)(TX:Txt K mg)(mgE:mg "NetError"=some (.ref NE))(hb:uD K NE)(T:wu K C N)(S:vV K C "row"):aM P w K mg base cW 1 f fd ["self", "row"] (zC C):=by
 refine F.oK Bj λcdv A outer s H vs Q E hr h=>?_
 ·obtain⟨a,l,row,rfl,hl,ok,ha,k⟩:=h
  refine⟨_,ah (bD (qj rfl mgE hb (aa (pv 0) (aa (xp (pv 1)) ag)))) (aq (tN (pv 0) (aX bj rfl TX.lst dS (aa (pv 1) ag)) rfl)),?_⟩
  try dsimp only[bz,Cx.ff,Cx.cG]
  refine⟨_,rfl,_,rfl,l,row,rfl,hl,ok.ne,ok.small,ok.le,hr.gd,hr.p9,λy=>⟨a,C,N,_,_,rfl,by simp,ha,T,_,rfl,l,_,rfl,.inl (aR.of hl),λq nq=>?_⟩⟩
  refine⟨_,rfl,a,C,rfl,by rw[af (ai ha nq)];exact ha,S,λdx h1 h2=>k q dx nq h1 h2⟩
def Aj(H:Hp)(E:XK)(C:Addr)(row:List Str):Prop:=∀H' dx q,au H H'->H q=none->H' dx=some (.xd [("row",.ref q)])->H' q=some (.lst (aw row))->E (.ref C) (some dx) H'
structure zh(P:Program)(w:World)(K:PySem.W.Frag)(mg:Str->Option Value)(base:Heap)(C N f:Addr)(fd:FuncData):Prop where
 mx:Ca K C N f
 gl:mg "Crowded"=some (.ref C)
 bd:Binds K fd ["self", "row"] []
 ok:aM P w K mg base cW 1 f fd ["self", "row"] (zC C)
 ec:uy K C
end Uf
end
section
namespace Uf
open PySem L2 UfSrt UfFin UfB
def zJ(p aS aO aN aW aG aB aT aP:Addr):List (Str×V):=aQ "place_bits" (.ref aP) (aQ "taker_bits" (.ref aT) (aQ "beside_bits" (.ref aB) (aQ "given_bits" (.ref aG) (aQ "own_bits" (.ref aW) (aQ "numbers_there" (.ref aN) (aQ "occurrence_tuples" (.ref aO) (aQ "spot_tuples" (.ref aS) (aQ "base_net" (.ref p) []))))))))
def zR(p aS aO aN aW aG aB aT aP:Addr):AdF (zJ p aS aO aN aW aG aB aT aP) aS aT aB aP:=by
 unfold zJ
 refine⟨?_,?_,?_,?_⟩
 ·rw[aA,Ex (by decide +kernel),aA,Ex (by decide +kernel),aA,Ex (by decide +kernel),aA,Ex (by decide +kernel),aA,Ex (by decide +kernel),aA,Ex (by decide +kernel),aA,Ex (by decide +kernel),aA,EG rfl]
 ·rw[aA,Ex (by decide +kernel),aA,EG rfl]
 ·rw[aA,Ex (by decide +kernel),aA,Ex (by decide +kernel),aA,EG rfl]
 ·rw[aA,EG rfl]
def AW(p aS aO aN aW aG aB aT aP:Addr):(zJ p aS aO aN aW aG aB aT aP).lookup ("add_spots":Str)=none:=by
 unfold zJ
 rw[aA,Ex (by decide +kernel),aA,Ex (by decide +kernel),aA,Ex (by decide +kernel),aA,Ex (by decide +kernel),aA,Ex (by decide +kernel),aA,Ex (by decide +kernel),aA,Ex (by decide +kernel),aA,Ex (by decide +kernel),aA,Ex (by decide +kernel)]
 rfl
theorem oF(f:Str)(v:V):∀fs:List (Str×V),(aQ f v fs).length<=fs.length+1
 |[]=>by simp[aQ]
 |(g,x)::r=>by
  have:=oF f v r
  unfold aQ
  split <;> simp <;> lia
structure WI(H0:Hp)(x dx C:Addr)(fs:List (Str×V))(new:List (Addr×HO))(H:Hp):Prop where
 ins:H x=some (.ins C dx fs)
 old:∀c o,H0 c=some o->c≠x->H c=some o
 here:∀p∈new,H p.1=some p.2
 nx:∀p∈new,p.1≠x
 fr:∀p∈new,H0 p.1=none
 nd:(new.map (·.1)).Nodup
 len:fs.length<=new.length+1
def WI.put{H0:Hp}{x dx C a:Addr}{fs:List (Str×V)}{new:List (Addr×HO)}{H:Hp}{o:HO}(f:Str)(h:WI H0 x dx C fs new H)(ha:H a=none) :
  WI H0 x dx C (aQ f (.ref a) fs) ((a,o)::new) (upd (upd H a o) x (.ins C dx (aQ f (.ref a) fs))):=by
 have ax:a≠x:=(ai h.ins ha).symm
 refine⟨ae,λc u e n=>?_,λp hp=>?_,λp hp=>?_,λp hp=>?_,?_,?_⟩
 ·have e2:=h.old c u e n
  rw[af n,af (ai e2 ha)]
  exact e2
 ·rcases EB.mp hp with rfl|hp
  ·rw[af ax];exact ae
  ·have e2:=h.here p hp
   rw[af (h.nx p hp),af (ai e2 ha)]
   exact e2
 ·rcases EB.mp hp with rfl|hp
  ·exact ax
  ·exact h.nx p hp
 ·rcases EB.mp hp with rfl|hp
  ·cases q:H0 a with
   |none=>rfl
   |some u =>
    have:=h.old a u q ax
    rw[ha]at this
    cases this
  ·exact h.fr p hp
 ·refine Fi.mpr ⟨λhm=>?_,h.nd⟩
  obtain⟨p,hp,e⟩:=EH.mp hm
  have:=h.here p hp
  rw[e,ha]at this
  cases this
 ·have:=oF f (.ref a) fs
  have:=h.len
  rw[ER]
  lia
def WI.same{H0:Hp}{x dx C:Addr}{fs:List (Str×V)}{new:List (Addr×HO)}{H H':Hp}(h:WI H0 x dx C fs new H)(s:au H H'):WI H0 x dx C fs new H' :=
 ⟨s _ _ h.ins,λc o e n=>s _ _ (h.old c o e n),λp hp=>s _ _ (h.here p hp),h.nx,h.fr,h.nd,h.len⟩
def bK.BK{C D x dx p:Addr}{H H':Hp}{ms:List Mv}{st:List Str}(N:bK C H p ms st)(hx:H x=some (.ins D dx []))(b:∀c o,H c=some o->c≠x->H' c=some o):bK C H' p ms st:=by
 obtain⟨dn,aP,aS,aT,aG,kT,kG,h1,h2,h3,h4,h5,h6,h7⟩:=N.at'.ob
 have tp:∀c xs,H c=some (.tup xs)->H' c=some (.tup xs):=λc xs e=>b c _ e (aJ e hx (λz=>nomatch z))
 refine⟨⟨⟨dn,aP,aS,aT,aG,kT,kG,b _ _ h1 (aJ h1 hx (λz=>by injection z with _ _ z3;cases z3)),tp _ _ h2,tp _ _ h3,b _ _ h4 (aJ h4 hx (λz=>nomatch z)),b _ _ h5 (aJ h5 hx (λz=>nomatch z)),h6.same tp,h7.same tp⟩⟩,N.so,b _ _ N.tb (aJ N.tb hx (λz=>nomatch z))⟩
inductive zV(CW:Addr)(H:Hp)(x p:Addr)(W:rh):Prop
 |mk (dx aS aO aN aW aG aB aT aP:Addr) (hA:BU CW H x dx (zJ p aS aO aN aW aG aB aT aP) aS aT aB aP W) (hO:H aO=some (.lst [])) (hN:H aN=some (.dK [])) (hW:H aW=some (.lst [])) (hG:H aG=some (.lst [])) (nd:[aP,aT,aB,aG,aW,aN,aO,aS].Nodup)
def rn(ms:List Mv)(st:List Str):(cD ms st).Nodup:=by
 unfold cD
 exact(dk _).nodup_iff.mpr (UfSet.kg _)
def xk{ms:List Mv}{st:List Str}{y:Str}(h:y∈st):y∈cD ms st:=cQ.mpr (UfSet.m7.mpr (Fc _ h))
def W0(ms:List Mv)(st:List Str):rh:=⟨[],[],[],(cD ms st).map λx=>(x,0)⟩
inductive rQ(C CW CR:Addr)(vs:List V)(H:Hp)(Q:VK)(E:XK):Prop
 |mk (x dx p:Addr) (ms:List Mv) (st:List Str) (_:vs=[.ref x,.ref p]) (_:H x=some (.ins CW dx [])) (_:bK C H p ms st) (_:(∀row,UfBfs.Told (graph ms) (aI st) (some row)->row.length<=5001->Aj H E CR row)) (_:(UfBfs.Told (graph ms) (aI st) none->∀H',zV CW H' x p (cZ none (W0 ms st,0) (aI st)).1->(∀c o,H c=some o->c≠x->H' c=some o)->Q .non H'))
def nD:az ["self", "net", "row"] ["self", "net"] (aj iw):=gm
inductive wI(C:Addr)(vs:List V)(H:Hp)(Q:VK)(E:XK):Prop
 |mk (p:Addr) (ms:List Mv) (st:List Str) (_:vs=[.ref p]) (_:bK C H p ms st) (_:∀H' q,au H H'->H q=none->H' q=some (.lst (aw (cD ms st)))->Q (.ref q) H')
def Ah:az ["self"] ["self"] (aj jH):=gm
def yt{f C:Addr}{fd:FuncData}(F:d3 K "places" "Net.places" jH f fd)(T:Txt K mg)(CT:iB K C):aM P w K mg base cW 1 f fd ["self"] (wI C):=by
 refine F.oK Ah λcdv A outer s H vs Q E hr h=>?_
 ·obtain⟨p,ms,st,rfl,N,k⟩:=h
  obtain⟨dx,aP,aS,aT,aG,kT,kG,h1,h2,h3,h4,h5,h6,h7⟩:=N.at'.ob
  refine⟨_,aq (aH (aX bj rfl T.lst dS (aa (cM (pv 0) rfl) ag))),?_⟩
  try dsimp only[bz,Cx.ff,Cx.cG]
  exact⟨_,rfl,p,C,dx,_,_,rfl,h1,CT.cl,CT.nP,Bl _ _ _ _,aP,_,rfl,.inr (cT.of h2),λq nq=>k _ q (ak nq) nq ae⟩
def B2:(("places":Str) == "place_names")=false:=by decide +kernel
def Bk:(("places":Str) == "start_state")=false:=by decide +kernel
def A9:(("places":Str) == "taken_by")=false:=by decide +kernel
def Bi:(("places":Str) == "given_by")=false:=by decide +kernel
def xl{f C CW CR NR fR:Addr}{fd fdR:FuncData}(F:d3 K "__init__" "Web.__init__" iw f fd)(T:Txt K mg)(dct:mg "dict"=none)(NC:iB K C)(CT:AU K CW)(XR:zh P w K mg base CR NR fR fdR)
  (DC:kA P w K mg base "crowding" cF ["net"] 8 (j0 C))
  (DP:vZ P w K mg base C "places" "Net.places" jH ["self"] 1 (wI C))
  (DS:vZ P w K mg base C "start" "Net.start" fD ["self"] 1 (nU C))
  (DA:vZ P w K mg base CW "add_spots" "Web.add_spots" oB ["self", "places", "giver", "beside"] 2 (zy CW .tup)) :
  aM P w K mg base (sk P w) 9 f fd ["self", "net"] (rQ C CW CR):=by
 refine F.DI nD (λvs H Q E h=>?_) (λcdv A outer s H vs Q E hr h=>?_)
 ·obtain⟨x,dx,p,ms,st,rfl,_⟩:=h
  rfl
 ·obtain⟨x,dx,p,ms,st,rfl,hx,N,kr,kk⟩:=h
  have hsl:=E1
  have hr1:bB 1 _:=hr.mono (by decide)
  have hr2:bB 2 _:=hr.mono (by decide)
  refine⟨_,ah (eR 2 nD (jR DC hr (aa (pv 1) ag)))
   (ah (cj (gI (mP (pv 2))) (aq (vz vA rfl rfl (vh XR.mx XR.ok hr2 rfl XR.gl XR.bd .nil bF (aa (pv 2) ag)))) aZ)
   (ah (dB (pv 0) (pv 1) rfl)
   (ah (dB (pv 0) (bZ ag) rfl)
   (ah (dB (pv 0) (bZ ag) rfl)
   (ah (dB (pv 0) iC rfl)
   (ah (dB (pv 0) (bZ ag) rfl)
   (ah (dB (pv 0) (bZ ag) rfl)
   (ah (dB (pv 0) (bZ ag) rfl)
   (ah (dB (pv 0) (bZ ag) rfl)
   (ah (dB (pv 0) (aX (qF rfl) rfl dct zL (aa (cE (N:=["place"]) (n:=1) (ci:=[]) rfl (bh (fh (pv 1) NC.cl DP.d.mt DP.g hr1 DP.d.bd .nil bF)) (o9 nD) (λz=>⟨kZ 0,cR,dF (aa (pv 0) (aa av ag))⟩)) ag)) rfl)
   (aq (bD (eU (pv 0) CT.cl DA.d.mt DA.g hr2 DA.d.bd .nil bF (aa (fh (pv 1) NC.cl DS.d.mt DS.g hr1 DS.d.bd .nil bF) (aa jx (aa av ag)))))))))))))))),?_⟩
  try dsimp only[bz,Cx.ff,Cx.cG]
  refine⟨_,rfl,p,ms,st,rfl,N,λH1 s1 hto=>?_,λH1 l row s1 hto hlen nl hl=>?_⟩
  ·refine⟨_,rfl,_,rfl,?_⟩
   refine br ?_
   refine⟨_,rfl,_,rfl,x,CW,dx,_,rfl,s1 _ _ hx,CT.cl,CT.nN,(by show 0<1000;decide),?_⟩
   have w0:WI H x dx CW (aQ "base_net" (V.ref p) []) [] (upd H1 x (.ins CW dx (aQ "base_net" (V.ref p) []))):=⟨ae,λc o e n=>by rw[af n];exact s1 _ _ e,λq hq=>by simp at hq,λq hq=>by simp at hq,λq hq=>by simp at hq,.nil,by show 1<=0+1;decide⟩
   generalize upd H1 x (.ins CW dx (aQ "base_net" (V.ref p) []))=G0 at w0 ⊢
   generalize hf0:aQ "base_net" (V.ref p) []=f0 at w0 ⊢
   refine⟨EV _,λaS naS=>⟨_,rfl,x,CW,dx,_,rfl,(by rw[af (ai w0.ins naS)];exact w0.ins),CT.cl,CT.nS,Fs w0.len (by show 0+1<1000;decide),?_⟩⟩
   have w1:=w0.put (o:=.lst []) "spot_tuples" naS
   generalize upd (upd G0 aS (.lst [])) x (.ins CW dx (aQ "spot_tuples" (V.ref aS) f0))=G1 at w1 ⊢
   generalize hf1:aQ "spot_tuples" (V.ref aS) f0=f1 at w1 ⊢
   refine⟨EV _,λaO naO=>⟨_,rfl,x,CW,dx,_,rfl,(by rw[af (ai w1.ins naO)];exact w1.ins),CT.cl,CT.nO,Fs w1.len (by show 1+1<1000;decide),?_⟩⟩
   have w2:=w1.put (o:=.lst []) "occurrence_tuples" naO
   generalize upd (upd G1 aO (.lst [])) x (.ins CW dx (aQ "occurrence_tuples" (V.ref aO) f1))=G2 at w2 ⊢
   generalize hf2:aQ "occurrence_tuples" (V.ref aO) f1=f2 at w2 ⊢
   refineλaN naN=>⟨_,rfl,x,CW,dx,_,rfl,(by rw[af (ai w2.ins naN)];exact w2.ins),CT.cl,CT.nH,Fs w2.len (by show 2+1<1000;decide),?_⟩
   have w3:=w2.put (o:=.dK []) "numbers_there" naN
   generalize upd (upd G2 aN (.dK [])) x (.ins CW dx (aQ "numbers_there" (V.ref aN) f2))=G3 at w3 ⊢
   generalize hf3:aQ "numbers_there" (V.ref aN) f2=f3 at w3 ⊢
   refine⟨EV _,λaW naW=>⟨_,rfl,x,CW,dx,_,rfl,(by rw[af (ai w3.ins naW)];exact w3.ins),CT.cl,CT.nW,Fs w3.len (by show 3+1<1000;decide),?_⟩⟩
   have w4:=w3.put (o:=.lst []) "own_bits" naW
   generalize upd (upd G3 aW (.lst [])) x (.ins CW dx (aQ "own_bits" (V.ref aW) f3))=G4 at w4 ⊢
   generalize hf4:aQ "own_bits" (V.ref aW) f3=f4 at w4 ⊢
   refine⟨EV _,λaG naG=>⟨_,rfl,x,CW,dx,_,rfl,(by rw[af (ai w4.ins naG)];exact w4.ins),CT.cl,CT.nG,Fs w4.len (by show 4+1<1000;decide),?_⟩⟩
   have w5:=w4.put (o:=.lst []) "given_bits" naG
   generalize upd (upd G4 aG (.lst [])) x (.ins CW dx (aQ "given_bits" (V.ref aG) f4))=G5 at w5 ⊢
   generalize hf5:aQ "given_bits" (V.ref aG) f4=f5 at w5 ⊢
   refine⟨EV _,λaB naB=>⟨_,rfl,x,CW,dx,_,rfl,(by rw[af (ai w5.ins naB)];exact w5.ins),CT.cl,CT.nB,Fs w5.len (by show 5+1<1000;decide),?_⟩⟩
   have w6:=w5.put (o:=.lst []) "beside_bits" naB
   generalize upd (upd G5 aB (.lst [])) x (.ins CW dx (aQ "beside_bits" (V.ref aB) f5))=G6 at w6 ⊢
   generalize hf6:aQ "beside_bits" (V.ref aB) f5=f6 at w6 ⊢
   refine⟨EV _,λaT naT=>⟨_,rfl,x,CW,dx,_,rfl,(by rw[af (ai w6.ins naT)];exact w6.ins),CT.cl,CT.nT,Fs w6.len (by show 6+1<1000;decide),?_⟩⟩
   have w7:=w6.put (o:=.lst []) "taker_bits" naT
   generalize upd (upd G6 aT (.lst [])) x (.ins CW dx (aQ "taker_bits" (V.ref aT) f6))=G7 at w7 ⊢
   generalize hf7:aQ "taker_bits" (V.ref aT) f6=f7 at w7 ⊢
   have N7:bK C G7 p ms st:=N.BK hx w7.old
   obtain⟨dn,bP,bS,bT,bG,kT,kG,h1,_⟩:=N7.at'.ob
   refine⟨_,rfl,p,dn,_,rfl,h1,dD _ _ _ _ B2 Bk A9 Bi,p,ms,st,rfl,N7,λG8 q s8 nq hq=>?_⟩
   have w8:=w7.same s8
   have so:=N.so
   have lp:=so.pl
   refine⟨q,rfl,⟨_,aR.of hq⟩,λz D hD=>bN (a:=q) (xs:=aw (cD ms st)) (λj ys H10=>∃qs:List Addr,ys=qs.map V.ref/\H10 D=some (.lst ys)/\au G8 H10/\wZ H10 (((cD ms st).take j).map λx=>(x,V.int 0)) qs/\qs.length=j) ⟨[],rfl,ae,ak hD,.nil,rfl⟩ (λj ys H10 _ ⟨_,_,_,s10,_⟩=>aR.of (s10 _ _ hq)) ?_ ?_⟩
   ·rintro j v ys H10 hj ⟨qs,rfl,hys,s10,pq,lq⟩
    obtain⟨y,hy,rfl⟩:=cz hj
    have hjl:=(EF.mp hy).1
    refine⟨_,rfl,by show 2<=sizeLine;lia,λt nt=>?_⟩
    refine xF nt λH11 s11 ht=>?_
    have hys':=s11 _ _ hys
    refine⟨hys',by rw[Et];lia,qs++[t],by rw[EI];rfl,ae,aF (s10.trans s11) hD,?_,by rw[Eu,lq];rfl⟩
    rw[ar hy,EI]
    refine FW (Paired.dy pq λa b e=>?_) ?_
    ·rw[af (aJ (s11 _ _ e) hys' (λz=>nomatch z))]
     exact s11 _ _ e
    ·show(upd H11 D _) t=some (.tup [.str y,.int 0])
     rw[af (aJ ht hys' (λz=>nomatch z))]
     exact ht
   ·rintro ys H10 ⟨qs,rfl,hys,s10,pq,lq⟩
    rw[ao,EN]at pq
    have w9:=w8.same s10
    refine⟨D,qs,_,rfl,hys,pq,by rw[Et];lia,?_,λaP naP=>?_⟩
    ·rw[Fo]
     show((cD ms st).map id).Nodup
     rw[JT]
     exact rn ms st
    have ek:keyed ((cD ms st).map λx=>(x,V.int 0))=jc (W0 ms st).pl:=by
     unfold keyed jc W0
     rw[Fo,Fo]
     rfl
    rw[ek]
    refine⟨_,rfl,x,CW,dx,_,rfl,(by rw[af (ai w9.ins naP)];exact w9.ins),CT.cl,CT.nP,Fs w9.len (by show 7+1<1000;decide),?_⟩
    have w10:=w9.put (o:=.dK (jc (W0 ms st).pl)) "place_bits" naP
    have ef:aQ "place_bits" (V.ref aP) f7=zJ p aS aO aN aW aG aB aT aP:=by rw[<-hf7,<-hf6,<-hf5,<-hf4,<-hf3,<-hf2,<-hf1,<-hf0];rfl
    rw[ef]at w10
    rw[ef]
    generalize upd (upd H10 aP (.dK (jc (W0 ms st).pl))) x (.ins CW dx (zJ p aS aO aN aW aG aB aT aP))=G9 at w10 ⊢
    have N9:bK C G9 p ms st:=N.BK hx w10.old
    obtain⟨dn,bP,bS,bT,bG,kT,kG,h1,_⟩:=N9.at'.ob
    have nd:=w10.nd
    have nd:[aP,aT,aB,aG,aW,aN,aO,aS].Nodup:=nd
    have nd2:=nd
    simp only[Fi,EB,Ft,GY,JR]at nd2
    obtain⟨⟨a1,a2,a3,a4,a5,a6,a7⟩,⟨t1,t2,t3,t4,t5,t6⟩,⟨c1,c2,c3,c4,c5⟩,⟨g1,g2,g3,g4⟩,⟨k1,k2,k3⟩,⟨l1,l2⟩,m1,_⟩:=nd2
    have eP:G9 aP=some (.dK (jc (W0 ms st).pl)):=w10.here (aP,_) (by simp)
    have eT:G9 aT=some (.lst []):=w10.here (aT,_) (by simp)
    have eB:G9 aB=some (.lst []):=w10.here (aB,_) (by simp)
    have eG:G9 aG=some (.lst []):=w10.here (aG,_) (by simp)
    have eW:G9 aW=some (.lst []):=w10.here (aW,_) (by simp)
    have eN:G9 aN=some (.dK []):=w10.here (aN,_) (by simp)
    have eO:G9 aO=some (.lst []):=w10.here (aO,_) (by simp)
    have eS:G9 aS=some (.lst []):=w10.here (aS,_) (by simp)
    refine⟨_,rfl,x,dx,_,rfl,w10.ins,AW _ _ _ _ _ _ _ _ _,_,rfl,p,dn,_,rfl,h1,dD _ _ _ _ wk vg vp v9,p,ms,st,rfl,N9,λsa hsa=>?_⟩
    refine⟨x,dx,sa,aS,aT,aB,aP,_,W0 ms st,none,0,aI st,rfl,zR _ _ _ _ _ _ _ _ _,E2 t6,E2 c5,t1,⟨w10.ins,⟨[],eS,.nil⟩,eT,eB,eP⟩,hsa,?_,?_,λH' hA' but'=>?_⟩
    ·simp only[EB,Ft,GY,JR]
     exact⟨aJ hsa eS (λz=>nomatch z),aJ hsa eT (λz=>nomatch z),aJ hsa eB (λz=>nomatch z),aJ hsa eP (λz=>nomatch z)⟩
    ·refine⟨rfl,rfl,by show 0<2 ^ 0;decide,?_,λy hy=>?_,?_,?_⟩
     ·show 0+(aI st).length<=250
      rw[d2]
      have:=so.Dj
      lia
     ·show y∈((cD ms st).map λx=>(x,0)).map (·.1)
      rw[Fo]
      exact EH.mpr ⟨y,xk (cQ.mp hy),rfl⟩
     ·show(((cD ms st).map λx=>(x,0)).map (·.1)).Nodup
      rw[Fo]
      show((cD ms st).map id).Nodup
      rw[JT]
      exact rn ms st
     ·show((cD ms st).map λx=>(x,0)).length<=12
      rw[Et]
      exact lp
    ·have keep:∀c o,G9 c=some o->c≠aS->c≠aT->c≠aB->c≠aP->H' c=some o:=λc o e q1 q2 q3 q4=>but' c o e (by simp only[EB,Ft,GY,JR];exact⟨q1,q2,q3,q4⟩)
     refine kk hto H' ⟨dx,aS,aO,aN,aW,aG,aB,aT,aP,hA',keep _ _ eO m1 (E2 t5) (E2 c4) (E2 a6),keep _ _ eN l2 (E2 t4) (E2 c3) (E2 a5),keep _ _ eW k3 (E2 t3) (E2 c2) (E2 a4),keep _ _ eG g4 (E2 t2) (E2 c1) (E2 a3),nd⟩ λc o e n=>?_
     have fr:∀a o,(a,o)∈_->c≠a:=λa o ha z=>by
      have:=w10.fr (a,o) ha
      rw[z]at e
      rw[this]at e
      cases e
     refine keep c o (w10.old c o e n) (fr aS (.lst []) (by simp)) (fr aT (.lst []) (by simp)) (fr aB (.lst []) (by simp)) (fr aP (.dK (jc (W0 ms st).pl)) (by simp))
  ·refine⟨_,rfl,_,rfl,?_⟩
   refine bM ?_
   refine⟨_,rfl,by simp,λy hy=>?_⟩
   have ok:=uS N.so hto hlen
   refine⟨y,l,row,rfl,by rw[af (ai hl hy)];exact hl,ok,ae,λq d hq hd hdy=>⟨rfl,y,CR,some d,rfl,ae,XR.ec,s1.free hy,?_⟩⟩
   have qy:q≠y:=λz=>by rw[z,ae]at hq;cases hq
   have dq:d≠q:=λz=>by rw[z,ae]at hd;cases hd
   have hq1:H1 q=none:=by rw[af qy]at hq;exact hq
   have hd1:H1 d=none:=by rw[af dq,af hdy]at hd;exact hd
   refine kr row hto hlen _ d q (λb o e=>?_) (s1.free hq1) ?_ ?_
   ·have e1:=s1 b o e
    have n1:b≠y:=ai e1 hy
    rw[fO n1,af n1,af (ai e1 hd1),af (ai e1 hq1),af n1]
    exact e1
   ·rw[fO hdy,af hdy,ae]
   ·rw[fO qy,af qy,af (E2 dq),ae]
end Uf
end
section
namespace Uf
open PySem L2 UfSrt UfFin
end Uf
end
section
namespace UfStr
open PySem PySem.Builtin PySem.Builtin.Str PySem.StrLaws
def jX{x y:PySem.Str}(h:x.cps.toList=y.cps.toList):x=y:=by
 cases x with
 |mk a =>
  cases y with
  |mk b =>
   have:a=b:=Array.toList_inj.mp h
   rw[this]
def jw(x y:PySem.Str):(x++y).cps.toList=x.cps.toList++y.cps.toList:=by
 show(x.cps++y.cps).toList=_
 simp
def dz(x:PySem.Str):x.length=x.cps.toList.length:=by simp[PySem.Str.length]
end UfStr
namespace L2
open PySem PySem.Spec PyProof.Rows UfSrt
section
variable {X:Cx}
end
end L2
end
section
namespace L2
open PySem PySem.Spec PyProof.Rows
section
variable {X:Cx}
def xI:g9 X (binaryOp .Mult) (λx y H Q=>∃(z:Str) (n:Int),x=.str z/\y=.int n/\1<=n/\n<=8/\z.length=1/\Q (.str (oS z n.toNat)) H):=by
 intro pins s σ H x y v u Q I rx ry h
 obtain⟨z,n,rfl,rfl,hn,hn2,hz,q⟩:=h
 obtain⟨t,rfl⟩:=rx
 obtain⟨t',rfl⟩:=ry
 have hsl:=E3
 have h3:n=1\/n=2\/n=3\/n=4\/n=5\/n=6\/n=7\/n=8:=by omega
 have e2:z.cps.size=1:=hz
 refine PySem.P.mul_str (by rw[EZ (by omega),EZ (by omega)];rfl) (λh1 _=>?_) (λh1 _=>?_) ?_
 ·rw[hz]
  rcases h3 with rfl|rfl|rfl|rfl|rfl|rfl|rfl|rfl <;> decide
 ·rw[hz]
  rcases h3 with rfl|rfl|rfl|rfl|rfl|rfl|rfl|rfl <;> decide
 ·by_cases h1:n=1
  ·subst h1
   rw[Ex (by decide),EG (by rfl)]
   refine⟨.str (oS z 1),H,I,⟨t,?_⟩,q⟩
   rw[vH]
  ·have e:((n:Int)==1 || z.length==0)=false:=by
    rw[hz]
    have:(n==1)=false:=FC.mpr h1
    rw[this]
    rfl
   rw[Ex (by omega),Ex (by rw[e];exact EJ)]
   refine⟨?_,.str (oS z n.toNat),H,I.tok _,⟨_,rfl⟩,q⟩
   rcases h3 with rfl|rfl|rfl|rfl|rfl|rfl|rfl|rfl <;>
   ·show((List.replicate _ z.cps).foldl (· ++ ·) #[]).size<=_
    simp[List.replicate,List.foldl,e2]
    omega
end
end L2
namespace Uf
open PySem L2 UfSrt UfStr PySem.Builtin PySem.Builtin.Str PySem.StrLaws
abbrev zB:Stmt:=top 51
abbrev jC:Stmt:=top 52
def lI(x:PySem.Str){a b:Nat}(hab:a<=b)(hb:b<=x.length):Txt.slice x (some (a:Int)) (some (b:Int))=strSub x a b:=by
 refine UfStr.jX ?_
 rw[strSub_toList]
 have:=sliceText_nat x hab hb
 rw[show Txt.slice x (some (a:Int)) (some (b:Int))=sliceText x (some (a:Int)) (some (b:Int)) from rfl,this]
def oU(x:PySem.Str){b:Nat}(hb:b<=x.length):(Txt.slice x none (some (b:Int))).cps.toList=x.cps.toList.take b:=by
 have:Txt.slice x none (some (b:Int))=strSub x 0 b:=by
  rw[<-lI x (EV b) hb]
  unfold Txt.slice
  rw[sliceIdx_none_lo]
  rfl
 rw[this,strSub_toList,Iz,Nat.sub_zero]
def wC(x:PySem.Str){a:Nat}(ha:a<=x.length):(Txt.slice x (some (a:Int)) none).cps.toList=x.cps.toList.drop a:=by
 have:Txt.slice x (some (a:Int)) none=strSub x a x.length:=by
  rw[<-lI x ha (Ep _)]
  unfold Txt.slice
  rw[sliceIdx_none_hi]
 rw[this,strSub_toList]
 refine HW ?_
 rw[IQ,UfStr.dz]
 omega
theorem foldl_rep(c:Nat):∀(n:Nat) (acc:Array Nat),((List.replicate n #[c]).foldl (· ++ ·) acc).toList=acc.toList++List.replicate n c
 |0,acc=>by simp
 |n+1,acc=>by
  rw[Fl,Gg,foldl_rep c n,Fl]
  simp
def qg(c n:Nat):(oS (⟨#[c]⟩:PySem.Str) n).cps.toList=List.replicate n c:=by
 unfold oS
 rw[foldl_rep]
 rfl
def steps:List Int:=[1,3,5,7,9,11,15,17,19,21,23,25]
def kH:List Nat:=[109,110,111,112,113,114,115]
def ux(k:Nat)(seed:Int):List Nat :=
 let one:=97+((seed / 36+steps.getD (seed / 3 % 12).toNat 0*k) % 26).toNat
 if seed % 3=0 then [one]
 else if seed % 3=1 then
  let stem:=kH.take (seed / 36 % 8).toNat
  let spot:=(seed / 288 % ((stem.length:Int)+1)).toNat
  stem.take spot++one::stem.drop spot
 else List.replicate (1+(seed / 36+5*k) % 12 % 8).toNat (97+((seed / 36+5*k) % 12 / 8).toNat)
def d7(k:Nat)(seed:Int):PySem.Str:=⟨(ux k seed).toArray⟩
def eK(k:Nat)(seed:Int):(d7 k seed).cps.toList=ux k seed:=by unfold d7;simp
def x4{seed:Int}:steps.getD (seed / 3 % 12).toNat 0∈steps:=by
 have h:(seed / 3 % 12).toNat<12:=by omega
 rw[E5,EA (show _<steps.length from h)]
 exact IV _
def one_inj{q s:Int}{k j:Nat}(hs:s∈steps)(hk:k<6)(hj:j<6)(e:(q+s*k) % 26=(q+s*j) % 26):k=j:=by
 unfold steps at hs
 simp only[EB,Ft,GY]at hs
 rcases hs with rfl|rfl|rfl|rfl|rfl|rfl|rfl|rfl|rfl|rfl|rfl|rfl <;> omega
def yo{k j:Nat}{seed:Int}(hk:k<6)(hj:j<6)(e:ux k seed=ux j seed):k=j:=by
 have hs:=x4 (seed:=seed)
 unfold ux at e
 dsimp only at e
 by_cases h0:seed % 3=0
 ·rw[EG h0,EG h0]at e
  have e1:=(JD e).1
  exact one_inj (q:=seed / 36) hs hk hj (by generalize (seed / 36+steps.getD (seed / 3 % 12).toNat 0*(k:Int))=A at e1 ⊢;generalize (seed / 36+steps.getD (seed / 3 % 12).toNat 0*(j:Int))=B at e1 ⊢;omega)
 ·rw[Ex h0,Ex h0]at e
  by_cases h1:seed % 3=1
  ·rw[EG h1,EG h1]at e
   have e1:=(JD (List.append_cancel_left e)).1
   exact one_inj (q:=seed / 36) hs hk hj (by generalize (seed / 36+steps.getD (seed / 3 % 12).toNat 0*(k:Int))=A at e1 ⊢;generalize (seed / 36+steps.getD (seed / 3 % 12).toNat 0*(j:Int))=B at e1 ⊢;omega)
  ·rw[Ex h1,Ex h1]at e
   have l:=Gz List.length e
   rw[FQ,FQ]at l
   have hd:=Gz List.head? e
   have n1:∃n,(1+(seed / 36+5*(k:Int)) % 12 % 8).toNat=n+1:=⟨((seed / 36+5*(k:Int)) % 12 % 8).toNat,by omega⟩
   have n2:∃n,(1+(seed / 36+5*(j:Int)) % 12 % 8).toNat=n+1:=⟨((seed / 36+5*(j:Int)) % 12 % 8).toNat,by omega⟩
   obtain⟨a,ea⟩:=n1
   obtain⟨b,eb⟩:=n2
   rw[ea,eb,Fl,Fl]at hd
   simp only[List.head?_cons,Option.some.injEq]at hd
   omega
def zP(k:Nat)(seed:Int):1<=(ux k seed).length/\(ux k seed).length<=8/\∀c∈ux k seed,97<=c/\c<=122:=by
 have hst:∀c∈kH,97<=c/\c<=122:=by decide
 unfold ux
 dsimp only
 by_cases h0:seed % 3=0
 ·rw[EG h0]
  refine⟨by simp,by simp,λc hc=>?_⟩
  have:=Gm.mp hc
  omega
 ·rw[Ex h0]
  by_cases h1:seed % 3=1
  ·rw[EG h1]
   have l7:(kH.take (seed / 36 % 8).toNat).length<=7:=by rw[EL];show min _ 7<=7;omega
   generalize hS:kH.take (seed / 36 % 8).toNat=S at l7
   generalize (seed / 288 % ((S.length:Int)+1)).toNat=sp
   have lt:(S.take sp++S.drop sp).length=S.length:=by rw[FT]
   rw[Eu]at lt
   refine⟨by rw[Eu,ER];omega,by rw[Eu,ER];omega,λc hc=>?_⟩
   have inS:∀c∈S,97<=c/\c<=122:=λc hc=>hst c (by rw[<-hS]at hc;exact Hw hc)
   rcases EX.mp hc with hc|hc
   ·exact inS c (Hw hc)
   ·rcases EB.mp hc with rfl|hc
    ·omega
    ·exact inS c (List.mem_of_mem_drop hc)
  ·rw[Ex h1]
   rw[FQ]
   refine⟨by omega,by omega,λc hc=>?_⟩
   have:=List.eq_of_mem_replicate hc
   omega
def yR:∀k<26,97+k∈xC.cps.toList:=by decide +kernel
def rJ(k:Nat)(seed:Int):isNm (d7 k seed)=true:=by
 obtain⟨h1,h2,h3⟩:=zP k seed
 unfold isNm
 rw[eK,show(d7 k seed).length=(ux k seed).length by rw[UfStr.dz,eK],EM h1,EM h2,HX,HX]
 refine Gb.mpr λc hc=>EM ?_
 obtain⟨a,b⟩:=h3 c hc
 have:=yR (c-97) (by omega)
 rw[show 97+(c-97)=c by omega]at this
 exact this
def xo{k j:Nat}{seed:Int}(hk:k<6)(hj:j<6)(e:d7 k seed=d7 j seed):k=j :=
 yo hk hj (by rw[<-eK,<-eK,e])
end Uf
end
section
namespace Uf
open PySem L2
structure Txt2(mg:PySem.Str->Option Value):Prop where
 rng:mg "range"=none
 enm:mg "enumerate"=none
 any:mg "any"=none
end Uf
end
section
namespace Uf
open PySem L2 UfSrt UfStr
def jQ{α:Type}{xs:List α}{i:Int}(d:α)(h0:0<=i)(h1:i<xs.length):uA xs i=some (xs.getD i.toNat d):=by
 unfold uA xE
 rw[EG h0,EG h1]
 show xs[i.toNat]?=_
 have h2:i.toNat<xs.length:=by lia
 rw[EA h2,E5,EA h2]
 rfl
def getD_map{α β:Type}(f:α->β)(xs:List α)(i:Nat)(d:α):(xs.map f).getD i (f d)=f (xs.getD i d):=by
 rw[E5,E4,E5]
 cases xs[i]? <;> rfl
def rB{xs:List PySem.Str}{i:Int}(h0:0<=i)(h1:i<xs.length):uA (aw xs) i=some (.str (xs.getD i.toNat "")):=by
 rw[jQ (V.str "") h0 (by rw[ao];exact h1)]
 unfold aw
 rw[getD_map V.str]
def pJ{xs:List Int}{i:Int}(h0:0<=i)(h1:i<xs.length):uA (xs.map V.int) i=some (.int (xs.getD i.toNat 0)):=by
 rw[jQ (V.int 0) h0 (by rw[Et];exact h1),getD_map V.int]
inductive wA(K:PySem.W.Frag)(vs:List V)(H:Hp)(Q:VK)(E:XK):Prop
 |mk (a:Addr) (ns:List Int) (k:Nat) (_:vs=[.ref a,.int k]) (_:aR K H a (ns.map V.int)) (_:ns.length<=63) (_:Q (.int (ns.getD k 0)) H)
def z0:az ["_law_script", "_law_k"] ["_law_script", "_law_k"] (aj zB):=gm
def xJ{f:Addr}{fd:FuncData}(F:d3 K "_law_at" "_law_at" zB f fd)(T:Txt K mg):aM P w K mg base cW 1 f fd ["_law_script", "_law_k"] (wA K):=by
 refine F.oK z0 λcdv A outer s H vs Q E hr h=>?_
 ·obtain⟨a,ns,k,rfl,ha,hz,kk⟩:=h
  refine⟨_,ah (cj (bH wq (pv 1) (aD bu rfl T.len dM (aa (pv 0) ag)) (cu _)) (aq (aH (cN gW (pv 0) (pv 1) (λ_ _=>rfl)))) aZ)
   (aq (aH av)),?_⟩
  try dsimp only[bz,Cx.ff,Cx.cG]
  refine⟨_,rfl,_,rfl,_,ns.length,rfl,.inl ⟨_,ha,by rw[Et]⟩,_,_,rfl,rfl,_,rfl,?_⟩
  by_cases h:k<ns.length
  ·rw[EM (show((k:Nat):Int)<((ns.length:Nat):Int) by lia)]
   refine bM ?_
   refine⟨_,rfl,_,rfl,a,_,_,_,rfl,rfl,ha,pJ (by lia) (by lia),?_⟩
   exact kk
  ·rw[EZ (show ¬((k:Nat):Int)<((ns.length:Nat):Int) by lia)]
   refine br ?_
   have e:ns.getD k 0=0:=by rw[E5,Ho (by lia)];rfl
   rw[e]at kk
   exact kk
inductive u7(vs:List V)(H:Hp)(Q:VK)(E:XK):Prop
 |mk (k:Nat) (seed:Int) (_:vs=[.int k,.int seed]) (_:k<12) (_:∀H',au H H'->Q (.str (d7 k seed)) H')
def iz:az ["_law_k", "_law_seed", "_law_letters", "_law_step", "_law_one", "_law_stem", "_law_spot", "_law_turn"] ["_law_k", "_law_seed"] (aj jC):=gm
def yS:("abcdefghijklmnopqrstuvwxyz":PySem.Str).cps.toList.length=26:=by decide +kernel
def yg:∀i<26,("abcdefghijklmnopqrstuvwxyz":PySem.Str).cps.toList.getD i 0=97+i:=by decide +kernel
def sV:("mnopqrs":PySem.Str).cps.toList=kH:=by decide +kernel
def oP:("ab":PySem.Str).cps.toList=[97,98]:=by decide +kernel
structure tK(X:Cx)(ss:List Stmt)(t:TS):Prop where
 h:lK X ss t
def px{X:Cx}{st:Stmt}{t u:TS}{rest:List Stmt}(h1:PS X st t)(h2:tK X rest u):tK X (st::rest) (xM t u):=⟨ah h1 h2.h⟩
def Cp{X:Cx}{st:Stmt}{t:TS}(h1:PS X st t):tK X [st] t:=⟨aq h1⟩
structure Cc(X:Cx)(es:List Expr)(t:TA):Prop where
 h:PA X es t
def jN{X:Cx}{n:_}{k p}{es:List Expr}{u:TA}(h2:Cc X es u):Cc X (.Constant (.int n) k p::es) (zc (tC (.int n)) u):=⟨aa av h2.h rfl⟩
def Cr{X:Cx}:Cc X [] Af:=⟨ag⟩
structure Cf(X:Cx)(e:Expr)(t:TE):Prop where
 h:PE X e t
def CB{X:Cx}{es:List Expr}{t:TA}{pos}(h:Cc X es t):Cf X (.List es pos) (Bc t):=⟨bZ h.h⟩
def bix{X:Cx}{a b:Expr}{ta tb:TE}{pos}{r:R2}(hr:Bu X r)(ha:Cf X a ta)(hb:PE X b tb)(hs:rO b):Cf X (.Subscript a b pos) (Bf r ta tb):=⟨cN hr ha.h hb hs⟩
structure PSB(X:Cx)(s:Stmt)(t:TS):Prop where
 h:PS X s t
def Cw{X:Cx}{pos:Pos}{i:Nat}{x:PySem.Str}{a b:Expr}{te:TE}{pos':Pos}{p2}(hN:X.N.Nodup)(hi:X.N[i]?=some x)(hx:Loc X.env.scope x)(he:Cf X (.Subscript a b p2) te)(hs:swapsWith (.Subscript a b p2) (some (.Name x pos')) pos.line X.env=pure false)(hf:X.fn x=true\/X.env.scope.names.lookup x=some .local):PSB X (.Assign [.Name x pos'] (.Subscript a b p2) pos) (wF te (fg i)):=⟨xA hN hi hx he.h hs hf⟩
def zM{X:Cx}{st:Stmt}{t u:TS}{rest:List Stmt}(h1:PSB X st t)(h2:tK X rest u):tK X (st::rest) (xM t u):=⟨ah h1.h h2.h⟩
def yv{f:Addr}{fd:FuncData}(F:d3 K "_law_name" "_law_name" jC f fd)(T:Txt K mg):aM P w K mg base cW 1 f fd ["_law_k", "_law_seed"] u7:=by
 refine F.oK iz λcdv A outer s H vs Q E hr h=>?_
 ·obtain⟨k,seed,rfl,hk,kk⟩:=h
  have hsl:=E1
  refine⟨_,tK.h (px (eR 2 iz fF)
   (zM (Cw (i:=3) iz.nd rfl (Or.inl rfl) (bix gW (CB (jN (jN (jN (jN (jN (jN (jN (jN (jN (jN (jN (jN Cr))))))))))))) (aK df (aK d8 (pv 1) av) av) (λ_ _=>rfl)) rfl (.inl rfl))
   (px (eR 4 iz (cN vc (pv 2) (aK df (aK gG (aK d8 (pv 1) av) (aK p6 (pv 3) (pv 0))) av) (λ_ _=>rfl)))
   (px (cj (bH iP (aK df (pv 1) av) av (cu _)) (aq (aH (pv 4))) aZ)
   (px (cj (bH iP (aK df (pv 1) av) av (cu _)) (ah (eR 5 iz (fj qQ fF iO (fS (aK df (aK d8 (pv 1) av) av))))
    (ah (eR 6 iz (aK df (aK d8 (pv 1) av) (aK gG (aD bu rfl T.len dM (aa (pv 5) ag)) av)))
    (aq (aH (aK kO (aK kO (fj qQ (pv 5) iO (fS (pv 6))) (pv 4)) (fj qQ (pv 5) (fS (pv 6)) iO)))))) aZ)
   (px (eR 7 iz (aK df (aK gG (aK d8 (pv 1) av) (aK p6 av (pv 0))) av))
   (Cp (aH (aK xI (cN vc fF (aK d8 (pv 7) av) (λ_ _=>rfl)) (aK gG av (aK df (pv 7) av))))))))))),?_⟩
  refine⟨by show 12<=sizeLine;lia,λr nr=>?_⟩
  have s1:au H (upd H r (.lst (steps.map V.int))):=ak nr
  have h1:(upd H r (.lst (steps.map V.int))) r=some (.lst (steps.map V.int)):=ae
  refine⟨_,rfl,_,_,rfl,rfl,⟨by decide,by decide⟩,_,_,rfl,rfl,(by show(0:Int)<12;decide),r,_,_,_,rfl,rfl,aR.of h1,pJ (Hf _ (by decide)) (Gq _ (by decide)),?_⟩
  have i0:(0:Int)<=(seed / 36+steps.getD (seed / 3 % 12).toNat 0*(k:Int)) % 26:=Hf _ (by decide)
  have i1:(seed / 36+steps.getD (seed / 3 % 12).toNat 0*(k:Int)) % 26<26:=Gq _ (by decide)
  refine⟨_,rfl,_,rfl,_,_,rfl,rfl,⟨by decide,by decide⟩,_,rfl,_,rfl,_,_,rfl,rfl,.inr ⟨by lia,by lia⟩,_,_,rfl,rfl,_,_,rfl,rfl,(by show(0:Int)<26;decide),_,_,_,rfl,rfl,(by show 26<=sizeLine;lia),jQ 0 i0 (by rw[yS];exact i1),?_⟩
  rw[yg _ (by lia)]
  have e0:=eK k seed
  unfold ux at e0
  dsimp only at e0
  generalize hone:97+((seed / 36+steps.getD (seed / 3 % 12).toNat 0*(k:Int)) % 26).toNat=one at e0 ⊢
  refine⟨_,rfl,_,_,rfl,rfl,(by show(0:Int)<3;decide),rfl,_,rfl,?_⟩
  by_cases c0:seed % 3=0
  ·rw[EM (show V.int (seed % 3)=V.int 0 by rw[c0])]
   refine bM ?_
   refine⟨_,rfl,?_⟩
   rw[EG c0]at e0
   have e:(⟨#[one]⟩:PySem.Str)=d7 k seed:=UfStr.jX e0.symm
   rw[e]
   exact kk _ s1
  rw[EZ (show ¬V.int (seed % 3)=V.int 0 by simp[c0])]
  refine br ?_
  rw[Ex c0]at e0
  refine⟨_,rfl,_,_,rfl,rfl,(by show(0:Int)<3;decide),rfl,_,rfl,?_⟩
  by_cases c1:seed % 3=1
  ·rw[EM (show V.int (seed % 3)=V.int 1 by rw[c1])]
   refine bM ?_
   rw[EG c1]at e0
   obtain⟨n,en⟩:=Jg (show(0:Int)<=seed / 36 % 8 from Hf _ (by decide))
   have n8:n<8:=by have:seed / 36 % 8<8:=Gq _ (by decide);lia
   refine⟨_,rfl,_,_,rfl,rfl,⟨by decide,by decide⟩,_,_,rfl,rfl,(by show(0:Int)<8;decide),_,rfl,_,rfl,(by show 7<=sizeLine;lia),?_⟩
   have sc:(Txt.slice ("mnopqrs":PySem.Str) none (some (seed / 36 % 8))).cps.toList=kH.take n:=by rw[en,oU _ (by show n<=7;lia),sV]
   rw[en,Fv]at e0
   generalize Txt.slice ("mnopqrs":PySem.Str) none (some (seed / 36 % 8))=stem at sc ⊢
   have ls:stem.length=(kH.take n).length:=by rw[UfStr.dz,sc]
   have l7:stem.length<=7:=by rw[ls,EL];show min _ 7<=7;lia
   rw[<-ls]at e0
   refine⟨_,rfl,_,_,rfl,rfl,⟨by decide,by decide⟩,_,rfl,_,stem.length,rfl,⟨by lia,rfl⟩,_,_,rfl,rfl,_,_,rfl,rfl,(by lia),?_⟩
   obtain⟨m,em⟩:=Jg (show(0:Int)<=seed / 288 % ((stem.length:Int)+1) from Hf _ (by lia))
   have hm:m<=stem.length:=by have:seed / 288 % ((stem.length:Int)+1)<(stem.length:Int)+1:=Gq _ (by lia);lia
   rw[em,Fv]at e0
   dsimp only[fg]
   rw[em]
   have a1:=oU stem hm
   have a2:=wC stem hm
   refine⟨_,rfl,_,rfl,_,rfl,_,rfl,by lia,_,rfl,_,_,rfl,rfl,?_,_,rfl,_,rfl,_,rfl,_,rfl,by lia,_,_,rfl,rfl,?_,?_⟩
   ·rw[UfStr.dz,a1,EL]
    show _+1<=sizeLine
    lia
   ·rw[UfStr.dz,UfStr.dz,UfStr.jw,a1,a2,Eu,EL,IQ,<-UfStr.dz]
    show _+1+_<=sizeLine
    lia
   have e:(Txt.slice stem none (some (m:Int))++(⟨#[one]⟩:PySem.Str))++Txt.slice stem (some (m:Int)) none=d7 k seed:=by
    refine UfStr.jX ?_
    rw[e0,UfStr.jw,UfStr.jw,a1,a2,sc,FY]
    rfl
   rw[e]
   exact kk _ s1
  rw[EZ (show ¬V.int (seed % 3)=V.int 1 by simp[c1])]
  refine br ?_
  rw[Ex c1]at e0
  refine⟨_,rfl,_,_,rfl,rfl,⟨by decide,by decide⟩,_,rfl,_,_,rfl,rfl,.inl ⟨by decide,by decide⟩,_,_,rfl,rfl,_,_,rfl,rfl,(by show(0:Int)<12;decide),?_⟩
  have t0:(0:Int)<=(seed / 36+5*(k:Int)) % 12:=Hf _ (by decide)
  have t1:(seed / 36+5*(k:Int)) % 12<12:=Gq _ (by decide)
  dsimp only[fg]
  generalize (seed / 36+5*(k:Int)) % 12=tu at t0 t1 e0 ⊢
  refine⟨_,rfl,_,_,rfl,rfl,⟨by decide,by decide⟩,_,_,_,rfl,rfl,(by show 2<=sizeLine;lia),jQ 0 (show(0:Int)<=tu / 8 by lia) (by rw[oP];show tu / 8<2;lia),_,rfl,_,_,rfl,rfl,(by show(0:Int)<8;decide),_,_,rfl,rfl,_,_,rfl,rfl,by lia,by lia,rfl,?_⟩
  have eg:("ab":PySem.Str).cps.toList.getD (tu / 8).toNat 0=97+(tu / 8).toNat:=by
   rw[oP]
   have:(tu / 8).toNat=0\/(tu / 8).toNat=1:=by lia
   rcases this with h|h <;> rw[h] <;> rfl
  rw[eg]
  have e:oS (⟨#[97+(tu / 8).toNat]⟩:PySem.Str) (1+tu % 8).toNat=d7 k seed:=by
   refine UfStr.jX ?_
   rw[qg,e0]
  rw[e]
  exact kk _ s1
end Uf
end
section
namespace L2
open PySem PySem.Spec PyProof.Rows UfSrt
section
variable {X:Cx}{pins:List (Addr×Obj)}{σ:St}{H:Hp}{s:Shared}
def Inv.ug{h':Heap}{t':Nat}{ch:List Addr}{T:Addr}{u:HO}(I:Inv X pins σ H s)(hch:∀b∈ch,gJ X pins H b)(k:∀b o,b∉ch->s.heap.get? b=some o->h'.get? b=some o)(hT:s.heap.objs.size<=T)
  (new:bc X.prog X.w (upd H T u) h' T u):Inv X pins σ (upd H T u) { s with heap:=h',toks:=t' }:=by
 have hn:H T=none:=I.hok.fresh hT
 have nch:∀b v,H b=some v->b∉ch:=λb v e z=>by rw[(hch b z).1]at e;cases e
 have nT:∀b o,s.heap.get? b=some o->b≠T:=λb o e=>Ez (EE (Er e) hT)
 refine I.step (g':=s.gens) (d':=s.drawn) (ch:=ch) (λb hb=>⟨(hch b hb).2.2.2.1,(hch b hb).2.1,(hch b hb).2.2.2.2.1,(hch b hb).2.2.2.2.2⟩) (λb o _ _ hc e _=>k b o hc e) (λb o _ _ hc e _=>⟨o.slots,k b o hc e⟩) (λb o _ e n=>by rw[af (nT b o e)];exact n)
  (λb o hc e=>⟨o,k b o hc e⟩) (λb xs e=>by rw[af (ai e hn)];exact e) (λb o v e=>by rw[af (ai e hn)];exact e) (λb ps e=>⟨#[],by rw[af (ai e hn),e];simp⟩) (λm hm=>?_) (λb v e=>?_) I.bare
 ·obtain⟨o,es,ep,ho,r⟩:=hm
  exact⟨o,es,ep,k _ o (λz=>(hch _ z).2.1 rfl) ho,r⟩
 ·by_cases hb:b=T
  ·subst hb
   rw[ae]at e
   cases e
   exact new
  ·rw[af hb]at e
   refine(I.hok b v e).ib (λc w hc q=>k c w ?_ q) (λc q=>by rw[af (ai q hn)];exact q) (λc xs q=>by rw[af (ai q hn)];exact q) λc _ _ q _=>by rw[af (ai q hn)];exact q
   rcases hc with z|z
   ·rw[z];exact nch b v e
   ·exact nch c _ z
end
def Eb(K:PySem.W.Frag)(l:Addr):It :=
 ⟨λi H=>∃xs x,aR K H l xs/\xs[i]?=some x,λi H x H'=>∃p v,x=.ref p/\H p=none/\H'=upd H p (.tup [.int (i:Int),v])/\∀xs,aR K H l xs->xs[i]?=some v,λi H=>∃xs,aR K H l xs/\xs.length<=i⟩
def ua{P:Program}{w:World}{K:PySem.W.Frag}{elts:List Expr}{x1}{pos:Pos}{l e it:Addr}(hne:e≠it) :
  Turn P w K (.Tuple elts x1 pos) (Eb K l) [e,it] e (λi h=>(∃old,IsEnum h e it i old)/\h.IsListIter it l i) where
 mem:=by simp
 obj:=λi h st b hb=>by
  obtain⟨⟨old,he⟩,o,e2,c,d⟩:=st
  rcases EB.mp hb with z|hb
  ·subst z
   exact⟨_,he,λv z=>by
    have z':Data.fields _=Data.cell v:=z
    cases z'⟩
  ·have z:b=it:=by simpa using hb
   subst z
   exact⟨o,e2,λv z=>by rw[d]at z;cases z⟩
 keep:=λi h h' st k=>⟨let ⟨old,he⟩:=st.1;⟨old,k e (by simp) _ he⟩,st.2.at λo q=>k it (by simp) o q⟩
 item:=by
  intro X hP hw hK hc i pins s σ H E I hf st hg
  subst hP hw hK
  obtain⟨xs,x,hq,hx⟩:=hg
  obtain⟨its,rv,p,hz⟩:=I.list hq
  obtain⟨u,hu,ru⟩:=rv.get hx
  obtain⟨⟨old,he⟩,hit⟩:=st
  refine wpAny_pyNext_enum_item he hit p.isList (x:=u) (by simpa using hu) hne λh1 ho hit1 hT hsz hk=>?_
  refine⟨.ref s.heap.objs.size,rfl,wpAny_letOwnedTupleGo_enum ho λh2 he2 hs2=>?_⟩
  have elt:e<s.heap.objs.size:=Er he
  have ilt:it<s.heap.objs.size:=by obtain⟨_,y,_⟩:=hit;exact Er y
  have kk:∀b o,b∉[e,it]->s.heap.get? b=some o->h2.get? b=some o:=λb o hb q=>by
   have n1:b≠e:=λz=>hb (by simp[z])
   have n2:b≠it:=λz=>hb (by simp[z])
   exact(hs2.2 b n1).trans (hk b o n1 n2 q)
  have hT2:h2.get? s.heap.objs.size=some { cls:=.type "tuple",data:=.seq #[.int i s.toks,u] }:=(hs2.2 _ (FK elt)).trans hT
  have hn:=I.hok.fresh (Ep s.heap.objs.size)
  refine⟨.ref s.heap.objs.size,upd H s.heap.objs.size (.tup [.int (i:Int),x]),I.ug (t':=s.toks+1) hf kk (Ep _) ⟨by show 2<=sizeLine;rw[E3];decide,[.int i s.toks,u],.cons ⟨_,rfl⟩ (.cons ru .nil),_,hT2,rfl,_,rfl⟩,rfl,⟨_,x,rfl,hn,rfl,λys hy=>by rw[I.pe hy hq];exact hx⟩,⟨⟨_,by simpa using he2⟩,hit1.at λo q=>(hs2.2 it (E2 hne)).trans q⟩,λb hb=>?_⟩
  have nb:b≠s.heap.objs.size:=by
   rcases EB.mp hb with z|hb
   ·rw[z];exact Ez elt
   ·have z:b=it:=by simpa using hb
    rw[z];exact Ez ilt
  rw[af nb]
  exact(hf b hb).1
 done:=by
  intro X hP hw hK hc i pins s σ H E I hf st hg
  subst hP hw hK
  obtain⟨xs,hq,hx⟩:=hg
  obtain⟨its,rv,p,hz⟩:=I.list hq
  obtain⟨⟨old,he⟩,hit⟩:=st
  obtain⟨f0,f1,f2,f3,f4,f5⟩:=hf it (by simp)
  have hl:=rv.length
  exact wpAny_pyNext_enum_end (I.ok.hd hc) he hit p.isList (by simp;lia) λh' eb=>⟨rfl,I.turned (t':=s.toks) (λb o hb e=>eb b o hb e) f0 f1 f3 f4 f5⟩
 self:=λ_ _ _ _ _ st h=>let ⟨⟨_,he⟩,_⟩:=st;wpAny_pyIter_enum he h
section
variable {X:Cx}{elts:List Expr}{x1:Nat}{tpos:Pos}
def boot_enumerate:bootBuiltins "enumerate"=some (.type "enumerate"):=by decide +kernel
def Bg(K:PySem.W.Frag)(ta:TA):TI:=λσ H R=>ta σ H λvs H1=>∃l,vs=[.ref l]/\(∃xs,aR K H1 l xs)/\R (Eb K l) H1
def yl{a:Expr}{ta:TA}{p pos:Pos}(hg:Gl X "enumerate")(hm:X.mg "enumerate"=none)(ha:PA X [a] ta)(hs:starEach [a] X.env=[(false,eval a X.env)]:=by rfl):PI X (.Tuple elts x1 tpos) (.Call (.Name "enumerate" p) [a] [] pos) (Bg X.K ta):=by
 intro pins s σ H R I h
 refine Call_ (ir I hg hm boot_enumerate (FZ (bo (ha pos pins s σ H _ I h) λus s1 hZ=>?_) hs rfl))
 obtain⟨vs,H1,I1,r1,q1⟩:=hZ
 obtain⟨l,e,⟨xs,hq⟩,q⟩:=q1
 subst e
 cases r1 with
 |cons r rr =>
  cases rr
  cases r
  obtain⟨its,rv,pl,hz⟩:=I1.list hq
  refine call_enumerate_list pl.isList λh' he hit hsz hk=>?_
  refine wpAny_pyIter_enum he ?_
  have hne:s1.heap.objs.size+1≠s1.heap.objs.size:=Nat.succ_ne_self _
  have I2:Inv X pins σ H1 { s1 with heap:=h' }:=I1.kept (t':=s1.toks) hk
  refine⟨s1.heap.objs.size+1,[s1.heap.objs.size+1,s1.heap.objs.size],_,_,H1,rfl,I2,ua hne,⟨⟨_,he⟩,hit⟩,λb hb=>?_,q⟩
  have hb2:s1.heap.objs.size<=b:=by
   rcases EB.mp hb with z|hb
   ·rw[z];exact Fq _
   ·have z:b=s1.heap.objs.size:=by simpa using hb
    rw[z];exact Ep _
  exact I1.sP hb2 (I1.hok.fresh hb2)
end
end L2
end
section
namespace Uf
open PySem L2 UfSrt UfStr
abbrev gR:Stmt:=top 53
def mT{t u:TS}{D:Ends}{σ:St}{H:Hp}(Mid:St->Hp->Prop)(h2:∀σ1 H1,Mid σ1 H1->u D σ1 H1)(h1:∀N:St->Hp->Prop,(∀σ1 H1,Mid σ1 H1->N σ1 H1)->t { D with nx:=N } σ H):xM t u D σ H:=h1 (u D) h2
def pB(xs:List PySem.Str)(k:Nat):kY (aw xs) none (some ((k:Nat):Int))=aw (xs.take k):=by
 unfold kY
 rw[HT.wM,HT.mU,Iz,Nat.sub_zero,<-List.take_eq_take_min]
 unfold aw
 rw[List.map_take]
def eF(xs:List PySem.Str)(x:PySem.Str):aw xs++[V.str x]=aw (xs++[x]):=by unfold aw;rw[List.map_append];rfl
structure nX(L T G:List PySem.Str):Prop where
 tn:T.Nodup
 gn:G.Nodup
 t1:1<=T.length
 t4:T.length<=4
 g4:G.length<=4
 ti:∀x∈T,x∈L
 gi:∀x∈G,x∈L
structure Sub(M T:List PySem.Str):Prop where
 nd:T.Nodup
 inn:∀x∈T,x∈M
def Sub.skip{L T:List PySem.Str}{i:Nat}(h:Sub (L.take i) T):Sub (L.take (i+1)) T:=⟨h.nd,λx hx=>List.take_subset_take_left L (Fq i) (h.inn x hx)⟩
def Sub.add{L T:List PySem.Str}{i:Nat}{z:PySem.Str}(hL:L.Nodup)(h:Sub (L.take i) T)(hz:L[i]?=some z):Sub (L.take (i+1)) (T++[z]):=by
 have e:=ar hz
 have hn:(L.take (i+1)).Nodup:=hL.sublist (HP _ _)
 rw[e]at hn ⊢
 obtain⟨_,_,h3⟩:=Fw.mp hn
 refine⟨Fw.mpr ⟨h.nd,by simp,λa ha b hb=>?_⟩,λx hx=>?_⟩
 ·exact h3 a (h.inn a ha) b hb
 ·rcases EX.mp hx with hx|hx
  ·exact Fc _ (h.inn x hx)
  ·exact E7 _ hx
def Sub.len{M T:List PySem.Str}(h:Sub M T):T.length<=M.length:=UfFin.fz h.nd h.inn
inductive rR(K:PySem.W.Frag)(vs:List V)(H:Hp)(Q:VK)(E:XK):Prop
 |mk (c:Int) (b:Addr) (L:List PySem.Str) (_:vs=[.int c,.ref b]) (_:aR K H b (aw L)) (_:L.Nodup) (_:1<=L.length) (_:L.length<=12) (_:∀H' t l g T G,au H H'->H t=none->H l=none->H g=none->H' t=some (.tup [.ref l,.ref g])->H' l=some (.lst (aw T))->H' g=some (.lst (aw G))->nX L T G->Q (.ref t) H')
def gX:az ["_law_cell", "_law_names", "_law_digits", "_law_takes", "_law_gives", "_law_name_here"] ["_law_cell", "_law_names"] (aj gR):=gm
inductive Dz(H:Hp)(c:Int)(b tk gk:Addr)(L:List PySem.Str)(i:Nat)(σ:St)(H2:Hp):Prop
 |mk (dg:Int) (T G:List PySem.Str) (v5:Option V) (q0:σ=[some (.int c),some (.ref b),some (.int dg),some (.ref tk),some (.ref gk),v5]) (q1:au H H2) (q2:H2 tk=some (.lst (aw T))) (q3:H2 gk=some (.lst (aw G))) (q4:Sub (L.take i) T) (q5:Sub (L.take i) G)
def Dz.same{H:Hp}{c:Int}{b tk gk:Addr}{L:List PySem.Str}{i:Nat}{σ:St}{H2:Hp}(h:Dz H c b tk gk L i σ H2):au H H2:=by
 cases h
 assumption
inductive LsT(H:Hp)(c dg:Int)(b tk gk:Addr)(z:PySem.Str)(M G:List PySem.Str)(σ:St)(H2:Hp):Prop
 |mk (T:List PySem.Str) (q0:σ=[some (.int c),some (.ref b),some (.int dg),some (.ref tk),some (.ref gk),some (.str z)]) (q1:au H H2) (q2:H2 tk=some (.lst (aw T))) (q3:H2 gk=some (.lst (aw G))) (q4:Sub M T)
inductive LsG(H:Hp)(c dg:Int)(b tk gk:Addr)(z:PySem.Str)(M T:List PySem.Str)(σ:St)(H2:Hp):Prop
 |mk (G:List PySem.Str) (q0:σ=[some (.int c),some (.ref b),some (.int dg),some (.ref tk),some (.ref gk),some (.str z)]) (q1:au H H2) (q2:H2 tk=some (.lst (aw T))) (q3:H2 gk=some (.lst (aw G))) (q4:Sub M G)
inductive LsE(H:Hp)(c dg:Int)(b tk gk:Addr)(v5:Option V)(L G:List PySem.Str)(σ:St)(H2:Hp):Prop
 |mk (T:List PySem.Str) (q0:σ=[some (.int c),some (.ref b),some (.int dg),some (.ref tk),some (.ref gk),v5]) (q1:au H H2) (q2:H2 tk=some (.lst (aw T))) (q3:H2 gk=some (.lst (aw G))) (q4:Sub L T) (q5:1<=T.length)
def wJ{f:Addr}{fd:FuncData}(F:d3 K "_law_loose_step" "_law_loose_step" gR f fd)(T0:Txt K mg):aM P w K mg base cW 1 f fd ["_law_cell", "_law_names"] (rR K):=by
 refine F.oK gX λcdv A outer s H vs Q E hr h=>?_
 ·obtain⟨c,b,L,rfl,hb,hL,hL1,hL2,kk⟩:=h
  have hsl:=E1
  have hu0:=hr.p9
  refine⟨_,ah (eR 2 gX (aK df (aK gG (aK p6 (pv 0) av) av) av))
   (ah (eR 3 gX (bZ ag))
   (ah (eR 4 gX (bZ ag))
   (ah (dU Fg rfl (bh (pv 1)) (la 5 gX)
    (ah (cj (PW.pt (pw_or (bH iP (aK df (pv 2) av) av (cu _)) (pw_or1 (bH iP (aK df (pv 2) av) av (cu _))))) (aq (bD (gS E6 E9 Fb bC (pv 3) (aa (pv 5) ag)))) aZ)
    (ah (cj (PW.pt (pw_or (bH iP (aK df (pv 2) av) av (cu _)) (pw_or1 (bH iP (aK df (pv 2) av) av (cu _))))) (aq (bD (gS E6 E9 Fb bC (pv 4) (aa (pv 5) ag)))) aZ)
    (aq (eR 2 gX (aK d8 (pv 2) av))))))
   (ah (cj (bH eq_nil (pv 3) (bZ ag) (cu _)) (aq (bD (gS E6 E9 Fb bC (pv 3) (aa (cN gW (pv 1) (aK df (pv 2) (aD bu rfl T0.len dM (aa (pv 1) ag))) (λ_ _=>rfl)) ag)))) aZ)
   (aq (aH (dF (aa (fj nQ (pv 3) iO (fS av)) (aa (fj nQ (pv 4) iO (fS av)) ag))))))))),?_⟩
  try dsimp only[bz,Cx.ff,Cx.cG]
  refine⟨_,rfl,_,_,rfl,rfl,.inr ⟨by decide,by decide⟩,_,_,rfl,rfl,_,_,rfl,rfl,(by show(0:Int)<2147483647;decide),?_⟩
  refine⟨EV _,λtk ntk=>?_⟩
  have s1:au H (upd H tk (.lst [])):=ak ntk
  have h1:(upd H tk (.lst [])) tk=some (.lst (aw [])):=ae
  generalize upd H tk (.lst [])=H1 at s1 h1 ⊢
  refine⟨EV _,λgk ngk=>?_⟩
  have s2:au H1 (upd H1 gk (.lst [])):=ak ngk
  have h2:(upd H1 gk (.lst [])) gk=some (.lst (aw [])):=ae
  have ntg:tk≠gk:=ai h1 ngk
  have ngk0:H gk=none:=s1.free ngk
  have h12:=s2 _ _ h1
  have s02:=s1.trans s2
  generalize upd H1 gk (.lst [])=H2 at s2 h2 h12 s02 ⊢
  have sub0:Sub (L.take 0) []:=⟨.nil,λx hx=>by simp at hx⟩
  refine⟨_,rfl,b,rfl,⟨_,s02.seq hb⟩,cO (K:=K) (a:=b) (xs:=aw L) (Dz H c b tk gk L) ⟨_,[],[],none,rfl,s02,h12,h2,sub0,sub0⟩ (λi σ H3 _ h=>h.same.seq hb) ?_ ?_⟩
  ·rintro i v σ H3 hi ⟨dg,T,G,v5,rfl,s3,ht,hg,sT,sG⟩
   obtain⟨z,hz,rfl⟩:=cz hi
   have lT:=sT.len
   have lG:=sG.len
   rw[EL]at lT lG
   dsimp only[fg]
   refine mT (LsT H c dg b tk gk z (L.take (i+1)) G) ?_ (λN hN=>?_)
   ·rintro σ1 H4 ⟨T',rfl,s4,ht4,hg4,sT'⟩
    refine mT (LsG H c dg b tk gk z (L.take (i+1)) T') ?_ (λN hN=>?_)
    ·rintro σ2 H5 ⟨G',rfl,s5,ht5,hg5,sG'⟩
     refine⟨_,rfl,_,_,rfl,rfl,⟨by decide,by decide⟩,?_⟩
     exact⟨_,T',G',_,rfl,s5,ht5,hg5,sT',sG'⟩
    ·have yes:N [some (.int c),some (.ref b),some (.int dg),some (.ref tk),some (.ref gk),some (.str z)] (upd H4 gk (.lst (aw G++[V.str z]))):=hN _ _ ⟨G++[z],rfl,aF s4 ngk0,by rw[af ntg];exact ht4,by rw[ae,eF],sG.add hL hz⟩
     have no:N [some (.int c),some (.ref b),some (.int dg),some (.ref tk),some (.ref gk),some (.str z)] H4:=hN _ _ ⟨G,rfl,s4,ht4,hg4,sG.skip⟩
     have put:∀{R:Prop},(R=(N [some (.int c),some (.ref b),some (.int dg),some (.ref tk),some (.ref gk),some (.str z)] (upd H4 gk (.lst (aw G++[V.str z])))))->R:=λe=>by rw[e];exact yes
     refine⟨_,rfl,_,_,rfl,rfl,(by show(0:Int)<7;decide),rfl,_,rfl,?_⟩
     refine xh (λ_=>?_) (λ_=>?_)
     ·refine bM ?_
      exact⟨_,rfl,.inl ⟨rfl,_,aR.of hg4⟩,_,rfl,gk,_,_,rfl,rfl,hg4,by rw[ao];lia,yes⟩
     ·refine⟨_,rfl,_,_,rfl,rfl,(by show(0:Int)<7;decide),rfl,_,rfl,?_⟩
      refine xh (λ_=>?_) (λ_=>?_)
      ·exact⟨_,rfl,.inl ⟨rfl,_,aR.of hg4⟩,_,rfl,gk,_,_,rfl,rfl,hg4,by rw[ao];lia,yes⟩
      ·exact no
   ·have yes:N [some (.int c),some (.ref b),some (.int dg),some (.ref tk),some (.ref gk),some (.str z)] (upd H3 tk (.lst (aw T++[V.str z]))):=hN _ _ ⟨T++[z],rfl,aF s3 ntk,by rw[ae,eF],by rw[af ntg.symm];exact hg,sT.add hL hz⟩
    have no:N [some (.int c),some (.ref b),some (.int dg),some (.ref tk),some (.ref gk),some (.str z)] H3:=hN _ _ ⟨T,rfl,s3,ht,hg,sT.skip⟩
    refine⟨_,rfl,_,_,rfl,rfl,(by show(0:Int)<7;decide),rfl,_,rfl,?_⟩
    refine xh (λ_=>?_) (λ_=>?_)
    ·refine bM ?_
     exact⟨_,rfl,.inl ⟨rfl,_,aR.of ht⟩,_,rfl,tk,_,_,rfl,rfl,ht,by rw[ao];lia,yes⟩
    ·refine⟨_,rfl,_,_,rfl,rfl,(by show(0:Int)<7;decide),rfl,_,rfl,?_⟩
     refine xh (λ_=>?_) (λ_=>?_)
     ·exact⟨_,rfl,.inl ⟨rfl,_,aR.of ht⟩,_,rfl,tk,_,_,rfl,rfl,ht,by rw[ao];lia,yes⟩
     ·exact no
  ·rintro σ H3 ⟨dg,T,G,v5,rfl,s3,ht,hg,sT,sG⟩
   rw[ao,EN]at sT sG
   dsimp only
   refine mT (LsE H c dg b tk gk v5 L G) ?_ (λN hN=>?_)
   ·rintro σ1 H4 ⟨T',rfl,s4,ht4,hg4,sT',lT'⟩
    refine⟨_,rfl,_,rfl,tk,_,rfl,aR.of ht4,λl nl=>?_⟩
    rw[show kY (aw T') none (some 4)=aw (T'.take 4) from pB T' 4]
    have s5:au H4 (upd H4 l (.lst (aw (T'.take 4)))):=ak nl
    have h5:(upd H4 l (.lst (aw (T'.take 4)))) l=some (.lst (aw (T'.take 4))):=ae
    have hg5:=s5 _ _ hg4
    generalize upd H4 l (.lst (aw (T'.take 4)))=H5 at s5 h5 hg5 ⊢
    refine⟨_,rfl,_,rfl,gk,_,rfl,aR.of hg5,λg ng=>?_⟩
    rw[show kY (aw G) none (some 4)=aw (G.take 4) from pB G 4]
    have s6:au H5 (upd H5 g (.lst (aw (G.take 4)))):=ak ng
    have h6:(upd H5 g (.lst (aw (G.take 4)))) g=some (.lst (aw (G.take 4))):=ae
    have h56:=s6 _ _ h5
    generalize upd H5 g (.lst (aw (G.take 4)))=H6 at s6 h6 h56 ⊢
    refine⟨by show 2<=sizeLine;lia,λt nt=>?_⟩
    have s7:au H6 (upd H6 t (.tup [.ref l,.ref g])):=ak nt
    refine kk _ t l g (T'.take 4) (G.take 4) (s4.trans (s5.trans (s6.trans s7))) ((s4.trans (s5.trans s6)).free nt) (s4.free nl) ((s4.trans s5).free ng) ae (s7 _ _ h56) (s7 _ _ h6) ⟨sT'.nd.sublist (HP _ _),sG.nd.sublist (HP _ _),by rw[EL];lia,by rw[EL];lia,by rw[EL];lia,λx hx=>sT'.inn x (Hw hx),λx hx=>sG.inn x (Hw hx)⟩
   ·refine⟨_,rfl,EV _,λe ne=>?_⟩
    have s4:au H3 (upd H3 e (.lst [])):=ak ne
    have h4:(upd H3 e (.lst [])) e=some (.lst []):=ae
    have ht4:=s4 _ _ ht
    have hg4:=s4 _ _ hg
    have s04:=s3.trans s4
    generalize upd H3 e (.lst [])=H4 at s4 h4 ht4 hg4 s04 ⊢
    refine⟨tk,e,_,rfl,rfl,hu0,aR.of ht4,aR.of h4,_,rfl,?_⟩
    cases T with
    |nil =>
     refine bM ?_
     have i0:(0:Int)<=dg % (L.length:Int):=Hf _ (by lia)
     have i1:dg % (L.length:Int)<(L.length:Int):=Gq _ (by lia)
     refine⟨_,rfl,.inl ⟨rfl,_,aR.of ht4⟩,_,rfl,_,rfl,_,rfl,_,L.length,rfl,.inl ⟨_,s04.seq hb,(ao L).symm⟩,_,_,rfl,rfl,(by lia),b,_,_,_,rfl,rfl,s04.seq hb,rB i0 i1,tk,_,_,rfl,rfl,ht4,by show 0<sizeLine;lia,?_⟩
     have hlt:(dg % (L.length:Int)).toNat<L.length:=by lia
     refine hN _ _ ⟨[L.getD (dg % (L.length:Int)).toNat ""],rfl,aF s04 ntk,ae,by rw[af ntg.symm];exact hg4,⟨by simp,λx hx=>?_⟩,by simp⟩
     rw[Gm.mp hx,E5,EA hlt]
     exact IV _
    |cons a T =>
     refine br ?_
     exact hN _ _ ⟨a::T,rfl,s04,ht4,hg4,sT,by simp⟩
end Uf
end
section
namespace L2
open PySem PySem.Spec PyProof.Rows UfSrt
section
variable {K:PySem.W.Frag}{n:Nat}{ci:List Nat}{g:TG}{tt:TT}{te:TE}{σ:St}{H:Hp}{D:Addr}{Q:VK}
def ku{lo:Int}{m:Nat}(Pv:Nat->List V->Hp->Prop)(h0:Pv 0 [] (upd H D (.lst [])))
  (hs:∀i ys H,i<m->Pv i ys H->g (.int (lo+i)) (oJ n ci σ) H λσ2 H2=>tt σ2 H2 λb H3=>if b=true then te σ2 H3 λy H4=>H4 D=some (.lst ys)/\ys.length<sizeLine/\Pv (i+1) (ys++[y]) (upd H4 D (.lst (ys++[y]))) else Pv (i+1) ys H3)
  (hd:∀ys H,Pv m ys H->Q (.ref D) H) :
  gq n ci (Ce lo m) g tt te σ H D Q:=by
 unfold gq
 refine⟨m,Pv,h0,λi ys H hi p=>?_⟩
 by_cases hlt:i<m
 ·refine .inr ⟨hlt,hlt,λv H' y=>?_⟩
  obtain⟨e,rfl⟩:=y
  subst e
  exact hs i ys _ hlt p
 ·have e:i=m:=by lia
  subst e
  exact .inl ⟨Ep _,hd ys H p⟩
def tf{a:Addr}{xs:List V}(Pv:Nat->List V->Hp->Prop)(h0:Pv 0 [] (upd H D (.lst [])))(hl:∀i ys H,i<=xs.length->Pv i ys H->aR K H a xs)
  (hs:∀i x p ys H,xs[i]?=some x->Pv i ys H->H p=none->g (.ref p) (oJ n ci σ) (upd H p (.tup [.int (i:Int),x])) λσ2 H2=>tt σ2 H2 λb H3=>if b=true then te σ2 H3 λy H4=>H4 D=some (.lst ys)/\ys.length<sizeLine/\Pv (i+1) (ys++[y]) (upd H4 D (.lst (ys++[y]))) else Pv (i+1) ys H3)
  (hd:∀ys H,Pv xs.length ys H->Q (.ref D) H) :
  gq n ci (Eb K a) g tt te σ H D Q:=by
 unfold gq
 refine⟨xs.length,Pv,h0,λi ys H hi p=>?_⟩
 have q:=hl i ys H hi p
 by_cases hlt:i<xs.length
 ·refine .inr ⟨hlt,⟨xs,xs[i],q,by simp[hlt]⟩,λx H' y=>?_⟩
  obtain⟨pp,v,rfl,hn,rfl,hv⟩:=y
  exact hs i v pp ys _ (hv xs q) p hn
 ·have e:i=xs.length:=by lia
  subst e
  exact .inl ⟨⟨xs,q,Ep _⟩,hd ys H p⟩
end
end L2
namespace Uf
open PySem L2 UfSrt UfStr UfFin
abbrev jG:Stmt:=top 54
abbrev jI:Stmt:=top 55
def pZ(ns:List Int)(lo hi:Nat):∃cs:List Int,kY (ns.map V.int) (some ((lo:Nat):Int)) (some ((hi:Nat):Int))=cs.map V.int/\cs.length<=hi-lo:=by
 refine⟨(ns.drop (HT.lh ns.length 0 (some ((lo:Nat):Int)))).take (HT.lh ns.length ns.length (some ((hi:Nat):Int))-HT.lh ns.length 0 (some ((lo:Nat):Int))),?_,?_⟩
 ·unfold kY
  rw[Et,List.map_take,List.map_drop]
 ·rw[EL]
  have e1:HT.lh ns.length 0 (some ((lo:Nat):Int))=min lo ns.length:=HT.mU _ _ lo
  have e2:HT.lh ns.length ns.length (some ((hi:Nat):Int))=min hi ns.length:=HT.mU _ _ hi
  rw[e1,e2]
  refine ET (Nat.min_le_left _ _) ?_
  rcases Nat.le_total lo ns.length with z|z
  ·rw[Nat.min_eq_left z]
   exact Nat.sub_le_sub_right (Nat.min_le_left _ _) _
  ·rw[Nat.min_eq_right z,Nat.sub_eq_zero_of_le (Nat.min_le_right _ _)]
   exact EV _
def jr(H:Hp)(a:Addr)(ms:List Mv):Prop:=∃qs:List Addr,H a=some (.lst (qs.map V.ref))/\Paired (pK H) ms qs
def jr.same{H H':Hp}{a:Addr}{ms:List Mv}(s:au H H')(h:jr H a ms):jr H' a ms:=by
 obtain⟨qs,h1,h2⟩:=h
 exact⟨qs,s _ _ h1,Paired.dy h2 λm q ⟨l,g,e1,e2,e3⟩=>⟨l,g,s _ _ e1,s _ _ e2,s _ _ e3⟩⟩
def fb{xs:List PySem.Str}(h:∀x∈xs,isNm x=true)(hl:xs.length<=200):Short xs:=⟨hl,λx hx=>by have:=kU (h x hx);lia⟩
def fY{xs:List PySem.Str}(h:∀x∈xs,isNm x=true)(hn:xs.Nodup):unlike xs=true:=by
 unfold unlike
 rw[Gb.mpr h,EM hn]
 rfl
structure ny(ms:List Mv)(S:List PySem.Str):Prop where
 net:ft ms S=true
 fit:Fits ms S
def wK{ms:List Mv}{S L:List PySem.Str}(lms:ms.length<=6)(hnm:∀x∈names ms,isNm x=true)(hnd:(names ms).Nodup)(hL:∀x∈L,isNm x=true)(lL:L.length<=6)(he:∀m∈ms,nX L m.2.1 m.2.2)(hS:Sub L S):ny ms S:=by
 have mv:∀m∈ms,fq m.2.1 m.2.2=true:=λm hm=>by
  have h:=he m hm
  unfold fq
  rw[fY (λx hx=>hL x (h.ti x hx)) h.tn,fY (λx hx=>hL x (h.gi x hx)) h.gn,EM h.t1,EM h.t4,EM h.g4]
  rfl
 have hdd:∀x∈UfSet.dd (S++je ms),x∈L:=λx hx=>by
  rcases EX.mp (UfSet.m7.mp hx) with z|z
  ·exact hS.inn x z
  ·unfold je at z
   obtain⟨m,hm,hxm⟩:=IZ.mp z
   rcases EX.mp hxm with z|z
   ·exact(he m hm).ti x z
   ·exact(he m hm).gi x z
 have ldd:(UfSet.dd (S++je ms)).length<=6:=ET (fz (UfSet.kg _) hdd) lL
 have lS:S.length<=6:=ET hS.len lL
 have lpl:∀l:List Mv,(∀m∈l,nX L m.2.1 m.2.2)->(je l).length<=8*l.length:=λl=>by
  induction l with
  |nil=>intro _;exact Ep _
  |cons m r ih =>
   intro hl
   have h1:=ih λm hm=>hl m (EK _ hm)
   have a1:=(hl m EY).t4
   have a2:=(hl m EY).g4
   unfold je at h1 ⊢
   rw[List.flatMap_cons,Eu,Eu,ER]
   lia
 have lp:=lpl ms he
 have ln:(names ms).length=ms.length:=by unfold names;rw[List.length_map]
 constructor
 ·unfold ft
  rw[decide_eq_true (show ms.length<=12 by lia),fY hnm hnd,List.all_eq_true.mpr mv,fY (λx hx=>hL x (hS.inn x hx)) hS.nd,decide_eq_true (show(cD ms S).length<=12 by unfold cD;rw[d2];lia)]
  rfl
 ·refine⟨fb hnm (by lia),λm hm=>?_,λm hm=>?_,fb (λx hx=>hL x (hS.inn x hx)) (by lia),by rw[Eu];lia,by lia⟩
  ·exact fb (λx hx=>hL x ((he m hm).ti x hx)) (by have:=(he m hm).t4;lia)
  ·exact fb (λx hx=>hL x ((he m hm).gi x hx)) (by have:=(he m hm).g4;lia)
def iR(seed:Int):List PySem.Str:=(List.range 6).map λk=>d7 k seed
def tH(seed:Int){j:Nat}(h:j<6):(List.range (j+1)).map (λk=>d7 k seed)=(List.range j).map (λk=>d7 k seed)++[d7 j seed]:=by rw[List.range_succ,EI];rfl
theorem iS(seed:Int):∀(n:Nat),n<=6->((List.range n).map λk=>d7 k seed).Nodup
 |0,_=>by simp
 |n+1,h=>by
  rw[List.range_succ,EI]
  refine Fw.mpr ⟨iS seed n (by lia),by simp,λa ha b hb e=>?_⟩
  obtain⟨k,hk,rfl⟩:=EH.mp ha
  have eb:b=d7 n seed:=by simpa using hb
  have:=Iv.mp hk
  have:=xo (by lia) (by lia) (e.trans eb)
  lia
def Bt(seed:Int):∀x∈iR seed,isNm x=true:=λx hx=>by
 obtain⟨k,_,rfl⟩:=EH.mp hx
 exact rJ k seed
def jy(seed:Int):(iR seed).length=6:=by unfold iR;rw[List.length_map,List.length_range]
def vI(seed:Int){j:Nat}(h:j<6):(iR seed)[j]?=some (d7 j seed):=by
 unfold iR
 rw[E4,List.getElem?_range h]
 rfl
inductive uT(C:Addr)(vs:List V)(H:Hp)(Q:VK)(E:XK):Prop
 |mk (d a l:Addr) (ms:List Mv) (S:List PySem.Str) (_:vs=[.ref d]) (_:H d=some (.tup [.ref a,.ref l])) (_:jr H a ms) (_:H l=some (.lst (aw S))) (_:ny ms S) (_:H TB=some wx) (_:∀H' p,au H H'->bK C H' p ms S->Q (.ref p) H')
def vn:az ["_law_drawn"] ["_law_drawn"] (aj jG):=gm
def xZ{f C fI:Addr}{fd fdI:FuncData}(F:d3 K "_law_made" "_law_made" jG f fd)(T:Txt K mg)(mgC:mg "Net"=some (.ref C))(M:Mk K C fI)(bI:Binds K fdI ["self", "moves", "start"] [])(GI:aM P w K mg base cW 5 fI fdI ["self", "moves", "start"] (vY K C)):aM P w K mg base cW 7 f fd ["_law_drawn"] (uT C):=by
 refine F.oK vn λcdv A outer s H vs Q E hr h=>?_
 ·obtain⟨d,a,l,ms,S,rfl,hd,hrow,hl,ok,tb,kk⟩:=h
  have hsl:=E1
  refine⟨_,aq (aH (yO M GI hr rfl mgC bI .nil bF (aa (cE (N:=["_law_name_here", "_law_takes", "_law_gives"]) (n:=3) (ci:=[]) rfl (bh (cN dC (pv 0) av (λ_ _=>rfl))) (o9 vn) (λz=>⟨(gy rfl (aY (kZ 0) (aY (kZ 1) (aY (kZ 2) eV)))),cR,dF (aa (pv 0) (aa (aX bj rfl T.lst dS (aa (pv 1) ag)) (aa (aX bj rfl T.lst dS (aa (pv 2) ag)) ag)))⟩)) (aa (aX bj rfl T.lst dS (aa (cN dC (pv 0) av (λ_ _=>rfl)) ag)) ag)))),?_⟩
  try dsimp only[bz,Cx.ff,Cx.cG]
  obtain⟨qs,hqs,pqs⟩:=id hrow
  have lqs:=EW pqs
  have so:=j3 ok.net
  have lm:=so.ml
  refine⟨_,rfl,d,_,0,_,rfl,rfl,cT.of hd,bY (j:=0) rfl,a,rfl,⟨_,aR.of hqs⟩,λz D hD=>bN (a:=a) (xs:=qs.map V.ref) (λj ys H4=>∃qs':List Addr,ys=qs'.map V.ref/\H4 D=some (.lst ys)/\au H H4/\Paired (λ(m:Mv) q=>∃l g,H4 q=some (.tup [.str m.1,.ref l,.ref g])/\l≠D/\g≠D/\H4 l=some (.lst (aw m.2.1))/\H4 g=some (.lst (aw m.2.2))) (ms.take j) qs') ⟨[],rfl,ae,ak hD,.nil⟩ (λj ys H4 _ ⟨_,_,_,s4,_⟩=>aR.of (s4 _ _ hqs)) ?_ ?_⟩
  ·rintro j v ys H4 hj ⟨qs',rfl,hys,s4,pq⟩
   obtain⟨q,hq,rfl⟩:=cX hj
   obtain⟨m,hm,l',g',e1,e2,e3⟩:=bf pqs hq
   refine⟨q,_,rfl,cT.of (s4 _ _ e1),rfl,_,_,rfl,_,_,rfl,_,_,rfl,rfl,?_⟩
   refine⟨_,rfl,_,rfl,l',_,rfl,.inl (aR.of (s4 _ _ e2)),λl1 nl1=>?_⟩
   have s5:au H4 (upd H4 l1 (.lst (aw m.2.1))):=ak nl1
   have hl1:(upd H4 l1 (.lst (aw m.2.1))) l1=some (.lst (aw m.2.1)):=ae
   have nl1D:l1≠D:=(ai hys nl1).symm
   generalize upd H4 l1 (.lst (aw m.2.1))=H5 at s5 hl1 ⊢
   refine⟨_,rfl,g',_,rfl,.inl (aR.of ((s4.trans s5) _ _ e3)),λg1 ng1=>?_⟩
   have s6:au H5 (upd H5 g1 (.lst (aw m.2.2))):=ak ng1
   have hg1:(upd H5 g1 (.lst (aw m.2.2))) g1=some (.lst (aw m.2.2)):=ae
   have ng1D:g1≠D:=(ai (s5 _ _ hys) ng1).symm
   generalize upd H5 g1 (.lst (aw m.2.2))=H6 at s6 hg1 ⊢
   refine⟨by show 3<=sizeLine;lia,λt nt=>?_⟩
   have s7:au H6 (upd H6 t (.tup [.str m.1,.ref l1,.ref g1])):=ak nt
   have ht:(upd H6 t (.tup [.str m.1,.ref l1,.ref g1])) t=some (.tup [.str m.1,.ref l1,.ref g1]):=ae
   have s47:=s5.trans (s6.trans s7)
   have hys7:=s47 _ _ hys
   have hl17:=(s6.trans s7) _ _ hl1
   have hg17:=s7 _ _ hg1
   have lq:=EW pq
   rw[EL]at lq
   generalize upd H6 t (.tup [.str m.1,.ref l1,.ref g1])=H7 at s7 ht s47 hys7 hl17 hg17 ⊢
   refine⟨hys7,(by rw[Et];lia),qs'++[t],by rw[EI];rfl,ae,aF (s4.trans s47) hD,?_⟩
   rw[ar hm]
   refine FW (Paired.dy pq λm q ⟨l,g,e1,e2,e3,e4,e5⟩=>⟨l,g,?_,e2,e3,?_,?_⟩) ⟨l1,g1,?_,nl1D,ng1D,?_,?_⟩
   ·rw[af (aJ (s47 _ _ e1) hys7 (λz=>nomatch z))];exact s47 _ _ e1
   ·rw[af e2];exact s47 _ _ e4
   ·rw[af e3];exact s47 _ _ e5
   ·rw[af (aJ ht hys7 (λz=>nomatch z))];exact ht
   ·rw[af nl1D];exact hl17
   ·rw[af ng1D];exact hg17
  ·rintro ys H4 ⟨qh,rfl,hD4,s4,pq⟩
   rw[Et,<-lqs,EN]at pq
   refine⟨_,rfl,d,_,1,_,rfl,rfl,cT.of (s4 _ _ hd),bY (j:=1) rfl,l,aw S,rfl,.inl (aR.of (s4 _ _ hl)),λbe nbe=>?_⟩
   refine xF nbe λH5 s5 hbe=>?_
   intro x dx nx ndx nex
   have sn:au H5 (upd (upd H5 dx (.own x)) x (.ins C dx [])):=λb o e=>by
    rw[af (ai e nx),af (ai e ndx)]
    exact e
   refine⟨x,dx,D,be,ms,S,rfl,ae,⟨qh,aR.of ((s5.trans sn) _ _ hD4),Paired.dy pq λm q ⟨l,g,e1,_,_,e6,e7⟩=>⟨l,g,(s5.trans sn) _ _ e1,(s5.trans sn) _ _ e6,(s5.trans sn) _ _ e7⟩⟩,aR.of (sn _ _ hbe),ok.fit,ok.net,λH7 NA kp=>⟨rfl,?_⟩⟩
   have s57:au H5 H7:=λb o e=>kp b o (sn b o e) (ai e nx)
   exact kk H7 x (s4.trans (s5.trans s57)) ⟨NA,so,(s4.trans (s5.trans s57)) _ _ tb⟩
def zE(L:List PySem.Str)(H:Hp)(D:Addr)(e:List PySem.Str×List PySem.Str)(q:Addr):Prop:=∃l g,H q=some (.tup [.ref l,.ref g])/\l≠D/\g≠D/\H l=some (.lst (aw e.1))/\H g=some (.lst (aw e.2))/\nX L e.1 e.2
def rowsOf(seed:Int)(Es:List (List PySem.Str×List PySem.Str)):List Mv:=(Es.zipIdx).map λp=>(d7 p.2 seed,p.1.1,p.1.2)
def sU(seed:Int)(Es:List (List PySem.Str×List PySem.Str))(e:List PySem.Str×List PySem.Str):rowsOf seed (Es++[e])=rowsOf seed Es++[(d7 Es.length seed,e.1,e.2)]:=by
 unfold rowsOf
 rw[List.zipIdx_append,EI,JQ]
 rfl
def kS(seed:Int)(Es:List (List PySem.Str×List PySem.Str)):names (rowsOf seed Es)=(List.range Es.length).map λk=>d7 k seed:=by
 have e:names (rowsOf seed Es)=((Es.zipIdx).map Prod.snd).map λk=>d7 k seed:=by
  unfold names rowsOf
  rw[Fo,Fo]
  rfl
 rw[e,List.zipIdx_map_snd,List.range_eq_range']
def vN{seed:Int}{Es:List (List PySem.Str×List PySem.Str)}{m:Mv}(h:m∈rowsOf seed Es):(m.2.1,m.2.2)∈Es:=by
 unfold rowsOf at h
 obtain⟨p,hp,rfl⟩:=EH.mp h
 exact List.fst_mem_of_mem_zipIdx hp
inductive vd(K:PySem.W.Frag)(vs:List V)(H:Hp)(Q:VK)(E:XK):Prop
 |mk (a:Addr) (ns:List Int) (_:vs=[.ref a]) (_:aR K H a (ns.map V.int)) (_:ns.length<=63) (_:∀H' d rl bl ms S,au H H'->H' d=some (.tup [.ref rl,.ref bl])->jr H' rl ms->H' bl=some (.lst (aw S))->ny ms S->Q (.ref d) H')
def fB:az ["_law_script", "_law_seed", "_law_names", "_law_steps", "_law_beads"] ["_law_script"] (aj jI):=gm
def yK{f:Addr}{fd:FuncData}(F:d3 K "_law_wild" "_law_wild" jI f fd)(T:Txt K mg)(T2:Txt2 mg)
  (DA:kA P w K mg base "_law_at" zB ["_law_script", "_law_k"] 1 (wA K))
  (DN:kA P w K mg base "_law_name" jC ["_law_k", "_law_seed"] 1 u7)
  (DL:kA P w K mg base "_law_loose_step" gR ["_law_cell", "_law_names"] 1 (rR K)) :
  aM P w K mg base cW 2 f fd ["_law_script"] (vd K):=by
 refine F.oK fB λcdv A outer s H vs Q E hr h=>?_
 ·obtain⟨a,ns,rfl,ha,hz,kk⟩:=h
  have hsl:=E1
  refine⟨_,ah (eR 1 fB (jR DA hr (aa (pv 0) (aa av ag))))
   (ah (eR 2 fB (cE (N:=["_law_k", "_law_seed"]) (n:=1) (ci:=[1]) rfl (lV rfl T2.rng (aa av ag))
    (o9 fB)
    (λz=>⟨kZ 0,cR,jR DN hr (aa (pv 0) (aa (pv 1) ag))⟩)))
   (ah (jT (j:=3) (N:=["_law_cell", "_law_names"]) (n:=1) (ci:=[2]) rfl fB.nd rfl rfl (bh (fj nQ (pv 0) (fS av) (fS av)))
    (o9 fB)
    (λz=>⟨kZ 0,cR,jR DL hr (aa (pv 0) (aa (pv 1) ag))⟩))
   (ah (jT (j:=4) (N:=["_law_k", "_law_names", "_law_script"]) (n:=1) (ci:=[2,0]) rfl fB.nd rfl rfl (lV rfl T2.rng (aa av ag))
    (o9 fB)
    (λz=>⟨kZ 0,iD (bH iP (aK vW (aK zU (aK d8 (jR DA hr (aa (pv 2) (aa av ag))) av) (pv 0)) av) av (cu _)),cN gW (pv 1) (pv 0) (λ_ _=>rfl)⟩))
   (aq (aH (dF (aa (cE (N:=["_law_k", "_law_ends", "_law_seed"]) (n:=2) (ci:=[1]) rfl (yl rfl T2.enm (aa (pv 3) ag))
    (o9 fB)
    (λz=>⟨(gy rfl (aY (kZ 0) (aY (kZ 1) eV))),cR,dF (aa (jR DN hr (aa (pv 0) (aa (aK d8 (pv 2) av) ag))) (aa (cN dC (pv 1) av (λ_ _=>rfl)) (aa (cN dC (pv 1) av (λ_ _=>rfl)) ag)))⟩)) (aa (pv 4) ag)))))))),?_⟩
  try dsimp only[bz,Cx.ff,Cx.cG]
  refine⟨_,rfl,a,ns,1,rfl,ha,hz,?_⟩
  generalize ns.getD 1 0=seed
  refine⟨_,rfl,by decide,by decide,λz D hD=>ku (lo:=0) (m:=6) (λj ys H1=>ys=aw ((List.range j).map λk=>d7 k seed)/\H1 D=some (.lst ys)/\au H H1) ⟨rfl,ae,ak hD⟩ ?_ ?_⟩
  ·rintro j ys H1 hj ⟨rfl,hys,s1⟩
   rw[show(0:Int)+(j:Int)=j from Int.zero_add _]
   refine⟨_,rfl,_,rfl,j,seed,rfl,by lia,λH2 s2=>⟨s2 _ _ hys,by rw[ao,Et,JS];lia,?_,ae,aF (s1.trans s2) hD⟩⟩
   rw[tH seed hj,<-eF]
  rintro ys H1 ⟨rfl,hys,s1⟩
  have hP:H1 D=some (.lst (aw (iR seed))):=hys
  clear hys
  obtain⟨cs,ecs,lcs⟩:=pZ ns 3 9
  have ecs:kY (ns.map V.int) (some (3:Int)) (some (9:Int))=cs.map V.int:=ecs
  refine⟨_,rfl,_,rfl,_,rfl,a,_,rfl,s1.seq ha,λq3 n3=>?_⟩
  rw[ecs]
  have s2:au H1 (upd H1 q3 (.lst (cs.map V.int))):=ak n3
  have hq3:(upd H1 q3 (.lst (cs.map V.int))) q3=some (.lst (cs.map V.int)):=ae
  have hP2:=s2 _ _ hP
  have s02:=s1.trans s2
  generalize upd H1 q3 (.lst (cs.map V.int))=H2 at s2 hq3 hP2 s02 ⊢
  refine⟨q3,rfl,⟨_,aR.of hq3⟩,λz2 D2 hD2=>bN (a:=q3) (xs:=cs.map V.int) (λj ys H4=>∃(qs:List Addr) (Es:List (List PySem.Str×List PySem.Str)),ys=qs.map V.ref/\Es.length=j/\H4 D2=some (.lst ys)/\au H2 H4/\Paired (zE (iR seed) H4 D2) Es qs) ⟨[],[],rfl,rfl,ae,ak hD2,.nil⟩ (λj ys H4 _ ⟨_,_,_,_,_,s4,_⟩=>aR.of (s4 _ _ hq3)) ?_ ?_⟩
  ·rintro j v ys H4 hj ⟨qs,Es,rfl,lE,hys,s4,pq⟩
   have hjl:j<cs.length:=by
    have:=(EF.mp hj).1
    rwa[Et]at this
   obtain⟨ce,rfl⟩:∃z,v=V.int z:=by
    rw[E4]at hj
    cases e:cs[j]? with
    |none=>rw[e]at hj;cases hj
    |some z=>rw[e]at hj;exact⟨z,(EO hj).symm⟩
   have lq:=EW pq
   refine⟨_,rfl,_,rfl,ce,D,iR seed,rfl,aR.of (s4 _ _ hP2),iS seed 6 (Ep _),by rw[jy];decide,by rw[jy];decide,λH5 t l g Tk G s5 nt nl ng ht hl hg he=>?_⟩
   have hys5:=s5 _ _ hys
   have lD:l≠D2:=(ai hys nl).symm
   have gD:g≠D2:=(ai hys ng).symm
   refine⟨hys5,by rw[Et];lia,qs++[t],Es++[(Tk,G)],by rw[EI];rfl,by rw[Eu,lE];rfl,ae,aF (s4.trans s5) hD2,?_⟩
   refine FW (Paired.dy pq λe q ⟨l,g,e1,n1,n2,e2,e3,e4⟩=>⟨l,g,?_,n1,n2,?_,?_,e4⟩) ⟨l,g,?_,lD,gD,?_,?_,he⟩
   ·rw[af (aJ (s5 _ _ e1) hys5 (λz=>nomatch z))];exact s5 _ _ e1
   ·rw[af n1];exact s5 _ _ e2
   ·rw[af n2];exact s5 _ _ e3
   ·rw[af (aJ ht hys5 (λz=>nomatch z))];exact ht
   ·rw[af lD];exact hl
   ·rw[af gD];exact hg
  rintro ys H4 ⟨qs,Es,rfl,lE,hys,s4,pE⟩
  rw[Et]at lE
  have hP4:=s4 _ _ hP2
  have s04:=s02.trans s4
  refine⟨_,rfl,by decide,by decide,λz3 D3 hD3=>ku (lo:=0) (m:=6) (λj ys H6=>∃S:List PySem.Str,ys=aw S/\Sub ((iR seed).take j) S/\H6 D3=some (.lst ys)/\au H4 H6) ⟨[],rfl,⟨.nil,λx hx=>by simp at hx⟩,ae,ak hD3⟩ ?_ ?_⟩
  ·rintro j ys H6 hj ⟨S,rfl,sS,hys6,s6⟩
   rw[show(0:Int)+(j:Int)=j from Int.zero_add _]
   have lS:=sS.len
   rw[EL,jy]at lS
   refine⟨_,rfl,a,ns,2,rfl,(s04.trans s6).seq ha,hz,_,_,rfl,rfl,⟨by decide,by decide⟩,_,rfl,_,_,rfl,rfl,(by lia),_,_,rfl,rfl,rfl,_,rfl,?_⟩
   refine xh (λ_=>?_) (λ_=>?_)
   ·refine⟨_,rfl,_,rfl,D,_,_,_,rfl,rfl,aR.of (s6 _ _ hP4),rB (by lia) (by rw[jy];lia),hys6,by rw[ao];lia,S++[d7 j seed],?_,sS.add (iS seed 6 (Ep _)) (vI seed hj),ae,aF s6 hD3⟩
    have e:(iR seed).getD ((j:Nat):Int).toNat ""=d7 j seed:=by rw[Fv,E5,vI seed hj];rfl
    rw[e,eF]
   ·exact⟨S,rfl,sS.skip,hys6,s6⟩
  rintro ys H6 ⟨S,rfl,sS,hS6,s6⟩
  have sS:Sub (iR seed) S:=by rw[HW (by rw[jy];exact Ep _)]at sS;exact sS
  have pE6:Paired (zE (iR seed) H6 D2) Es qs:=Paired.dy pE λe q ⟨l,g,e1,n1,n2,e2,e3,e4⟩=>⟨l,g,s6 _ _ e1,n1,n2,s6 _ _ e2,s6 _ _ e3,e4⟩
  have hD26:=s6 _ _ hys
  have lq:=EW pE
  refine⟨_,rfl,D2,rfl,⟨_,aR.of hD26⟩,λz4 D4 hD4=>tf (a:=D2) (xs:=qs.map V.ref) (λj ys H8=>∃rs:List Addr,ys=rs.map V.ref/\rs.length=j/\H8 D4=some (.lst ys)/\au H6 H8/\Paired (λ(m:Mv) q=>∃l g,H8 q=some (.tup [.str m.1,.ref l,.ref g])/\l≠D4/\g≠D4/\H8 l=some (.lst (aw m.2.1))/\H8 g=some (.lst (aw m.2.2))) (rowsOf (seed / 10007) (Es.take j)) rs) ⟨[],rfl,rfl,ae,ak hD4,.nil⟩ (λj ys H8 _ ⟨_,_,_,_,s8,_⟩=>aR.of (s8 _ _ hD26)) ?_ ?_⟩
  ·rintro j v tp ys H8 hj ⟨rs,rfl,lr,hys8,s8,pq⟩ ntp
   obtain⟨q,hq,rfl⟩:=cX hj
   obtain⟨e,he,l,g,e1,_,_,e2,e3,_⟩:=bf pE6 hq
   have hjl:j<Es.length:=(EF.mp he).1
   have lD:l≠D4:=ai e2 hD4
   have gD:g≠D4:=ai e3 hD4
   have s9:au H8 (upd H8 tp (.tup [.int (j:Int),.ref q])):=ak ntp
   refine⟨tp,_,rfl,cT.of ae,rfl,_,_,rfl,_,_,rfl,rfl,?_⟩
   generalize upd H8 tp (.tup [.int (j:Int),.ref q])=H9 at s9 ⊢
   refine⟨_,rfl,_,rfl,_,_,rfl,rfl,⟨by decide,by decide⟩,j,seed / 10007,rfl,by lia,λH10 s10=>?_⟩
   have s610:=s8.trans (s9.trans s10)
   refine⟨_,rfl,q,_,0,_,rfl,rfl,cT.of (s610 _ _ e1),bY (j:=0) rfl,_,rfl,q,_,1,_,rfl,rfl,cT.of (s610 _ _ e1),bY (j:=1) rfl,by show 3<=sizeLine;lia,λt nt=>?_⟩
   refine xF nt λH11 s11 ht=>?_
   have s811:=s9.trans (s10.trans s11)
   have hys11:=s811 _ _ hys8
   refine⟨hys11,by rw[Et];lia,rs++[t],by rw[EI];rfl,by rw[Eu,lr];rfl,ae,aF (s8.trans s811) hD4,?_⟩
   rw[ar he,sU]
   refine FW (Paired.dy pq λm q ⟨l,g,e1,n1,n2,e2,e3⟩=>⟨l,g,?_,n1,n2,?_,?_⟩) ⟨l,g,?_,lD,gD,?_,?_⟩
   ·rw[af (aJ (s811 _ _ e1) hys11 (λz=>nomatch z))];exact s811 _ _ e1
   ·rw[af n1];exact s811 _ _ e2
   ·rw[af n2];exact s811 _ _ e3
   ·have el:(Es.take j).length=j:=by rw[EL];lia
    rw[af (aJ ht hys11 (λz=>nomatch z)),el];exact ht
   ·rw[af lD];exact(s610.trans s11) _ _ e2
   ·rw[af gD];exact(s610.trans s11) _ _ e3
  rintro ys H8 ⟨rs,rfl,lr,hys8,s8,pq⟩
  rw[Et,<-lq,EN]at pq
  refine⟨_,rfl,by show 2<=sizeLine;lia,λd nd=>?_⟩
  have s9:au H8 (upd H8 d (.tup [.ref D4,.ref D3])):=ak nd
  refine kk _ d D4 D3 (rowsOf (seed / 10007) Es) S (s04.trans (s6.trans (s8.trans s9))) ae ⟨rs,s9 _ _ hys8,Paired.dy pq λm q ⟨l,g,e1,_,_,e2,e3⟩=>⟨l,g,s9 _ _ e1,s9 _ _ e2,s9 _ _ e3⟩⟩ ((s8.trans s9) _ _ hS6) ?_
  have ln:(rowsOf (seed / 10007) Es).length=Es.length:=by unfold rowsOf;rw[List.length_map,List.length_zipIdx]
  refine wK (L:=iR seed) (by lia) (λx hx=>?_) ?_ (Bt seed) (by rw[jy];exact Ep _) (λm hm=>?_) sS
  ·rw[kS]at hx
   obtain⟨k,_,rfl⟩:=EH.mp hx
   exact rJ k _
  ·rw[kS]
   exact iS _ _ (by lia)
  ·have hE:∀e∈Es,nX (iR seed) e.1 e.2:=λe hE=>by
    obtain⟨k,hk⟩:=Ju.mp hE
    have hkl:=(EF.mp hk).1
    have hq:qs[k]?=some (qs[k]'(by lia)):=EA (by lia)
    obtain⟨e',he',_,_,_,_,_,_,_,h8⟩:=bf pE hq
    rw[hk]at he'
    cases he'
    exact h8
   exact hE _ (vN hm)
end Uf
end
section
namespace Uf
open PySem L2 UfSrt UfFin
abbrev iF:Stmt:=top 56
def oZ{tk s:List Str}(hs:s.Nodup)(ht:tk.Nodup):decide ((s.length:Int)-((s.filter λx=>!decide (x∈tk)).length:Int)<(tk.length:Int))=bO tk s:=by
 have e1:s.length=(s.filter λx=>decide (x∈tk)).length+(s.filter λx=>!decide (x∈tk)).length:=by
  induction s with
  |nil=>rfl
  |cons a r ih =>
   have ih:=ih (Fi.mp hs).2
   rw[Ht,Ht]
   cases c:decide (a∈tk) <;> simp <;> lia
 have e2:(s.filter λx=>decide (x∈tk)).length=(tk.filter λx=>decide (x∈s)).length:=by
  refine((IG (hs.sublist GZ) (ht.sublist GZ)).mpr λx=>?_).length_eq
  rw[Fx,Fx]
  simp[and_comm]
 have le:=Fu (λx=>decide (x∈s)) tk
 cases h:bO tk s with
 |true =>
  refine EM ?_
  unfold bO at h
  obtain⟨x,hx,hn⟩:=GV.mp h
  have ne:(tk.filter λx=>decide (x∈s)).length≠tk.length:=λz=>by
   have:=HY.mp z x hx
   simp[this]at hn
  lia
 |false =>
  refine EZ ?_
  unfold bO at h
  have e:(tk.filter λx=>decide (x∈s)).length=tk.length:=HY.mpr λx hx=>by
   have:=List.any_eq_false.mp h x hx
   simpa using this
  lia
def oQ(tk gv s:List Str):(gv.map λx=>decide (x∈s.filter λy=>!decide (y∈tk))).any id=second tk gv s:=by
 unfold second
 rw[Ik]
 congr 1
 funext x
 show decide _=_
 rw[Gs]
 simp[Fx]
def uI{xs:List Str}{p:Str->Bool}{i n:Nat}(h:xs.length<=n)(hn:n<=1000):(aw ((xs.take i).filter p)).length<sizeLine:=by
 have hsl:=E1
 rw[ao]
 have:=Fu p (xs.take i)
 rw[EL]at this
 lia
structure kM(H:Hp)(e:Addr)(tk gv:List Str):Prop where
 ob:∃l g,H e=some (.tup [.ref l,.ref g])/\H l=some (.lst (aw tk))/\H g=some (.lst (aw gv))
def kM.same{H H':Hp}{e:Addr}{tk gv:List Str}(s:au H H')(h:kM H e tk gv):kM H' e tk gv:=by
 obtain⟨l,g,h1,h2,h3⟩:=h.ob
 exact⟨l,g,s _ _ h1,s _ _ h2,s _ _ h3⟩
inductive uO(vs:List V)(H:Hp)(Q:VK)(E:XK):Prop
 |mk (e ab:Addr) (tk gv s:List Str) (_:vs=[.ref e,.ref ab]) (_:kM H e tk gv) (_:fq tk gv=true) (_:H ab=some (.tup (aw s))) (_:s.Nodup) (_:s.length<=50) (_:(bO tk s=true->∀H' t,au H H'->H' t=some (.tup [.str "held",.ref ab])->Q (.ref t) H')) (_:(bO tk s=false->second tk gv s=true->∀H' t,au H H'->H' t=some (.tup [.str "full",.ref ab])->Q (.ref t) H')) (_:(bO tk s=false->second tk gv s=false->∀H' t q,au H H'->H' q=some (.tup (aw (behind tk gv s)))->H' t=some (.tup [.str "done",.ref q])->Q (.ref t) H'))
def rC:az ["_law_ends", "_law_beads", "_law_rest"] ["_law_ends", "_law_beads"] (aj iF):=gm
def Ab{f:Addr}{fd:FuncData}(F:d3 K "_law_behind" "_law_behind" iF f fd)(T:Txt K mg)(T2:Txt2 mg):aM P w K mg base cW 1 f fd ["_law_ends", "_law_beads"] uO:=by
 refine F.oK rC λcdv A outer s H vs Q E hr h=>?_
 ·obtain⟨e,ab,tk,gv,s',rfl,hst,hmv,ha,hn,hz,k1,k2,k3⟩:=h
  have hsl:=E1
  obtain⟨l,g,he,hl,hg⟩:=hst.ob
  obtain⟨u1,u2,_,tk4,gv4⟩:=hU hmv
  refine⟨_,ah (eR 2 rC (cE (N:=["_law_place", "_law_ends"]) (n:=1) (ci:=[0]) rfl (qv (pv 1))
     (o9 rC)
     (λz=>⟨kZ 0,iD (bH d5 (pv 0) (cN dC (pv 1) av (λ_ _=>rfl)) (by with_unfolding_all rfl)),pv 0⟩)))
   (ah (cj (bH wq (aK qa (aD bu rfl T.len dM (aa (pv 1) ag)) (aD bu rfl T.len dM (aa (pv 2) ag))) (aD bu rfl T.len dM (aa (cN dC (pv 0) av (λ_ _=>rfl)) ag)) (cu _)) (aq (aH (dF (aa fF (aa (pv 1) ag))))) aZ)
   (ah (cj (bU (aD (kL rfl) rfl T2.any vM (aa (cE (N:=["_law_place", "_law_rest"]) (n:=1) (ci:=[2]) rfl (bh (cN dC (pv 0) av (λ_ _=>rfl)))
     (o9 rC)
     (λz=>⟨kZ 0,cR,dZ my (pv 0) (pv 1) (by with_unfolding_all rfl)⟩)) ag))) (aq (aH (dF (aa fF (aa (pv 1) ag))))) aZ)
   (aq (aH (dF (aa fF (aa (aX bE rfl T.tup fE (aa (aD dE rfl T.aI dO (aa (aK jl (pv 2) (cN dC (pv 0) av (λ_ _=>rfl))) ag)) ag)) ag))))))),?_⟩
  try dsimp only[bz,Cx.ff,Cx.cG]
  refine⟨_,rfl,ab,rfl,⟨_,cT.of ha⟩,λz D1 hD1=>o7 (a:=ab) (xs:=aw s') (λi ys H2=>ys=aw ((s'.take i).filter λx=>!decide (x∈tk))/\H2 D1=some (.lst ys)/\au H H2) ⟨rfl,ae,ak hD1⟩ (λi ys H2 _ p=>cT.of (p.2.2 _ _ ha)) ?_ ?_⟩
  ·rintro i v ys H2 hi ⟨rfl,hys,sm⟩
   obtain⟨x,hx,rfl⟩:=cz hi
   refine⟨_,rfl,_,rfl,e,_,0,_,rfl,rfl,cT.of (sm _ _ he),bY (j:=0) rfl,l,aw tk,rfl,.inl (aR.of (sm _ _ hl)),rfl,eJ _,_,rfl,?_⟩
   show if (!An (V.str x) (aw tk))=true then _ else _
   rw[jh]
   cases c1:decide (x∈tk) with
   |true =>
    refine br ⟨?_,hys,sm⟩
    rw[ar hx,FA]
    simp[c1]
   |false =>
    refine bM ⟨_,rfl,hys,uI hz (by decide),?_,ae,aF sm hD1⟩
    rw[ar hx,FA]
    unfold aw
    simp[c1]
  rintro ys H2 ⟨rfl,hys,sm⟩
  rw[ao,EN]at hys
  have lf:(s'.filter λx=>!decide (x∈tk)).length<=50:=ET (Fu _ _) hz
  have lk:=oZ hn (gU u1)
  have sr:=oQ tk gv s'
  generalize hrest:(s'.filter λx=>!decide (x∈tk))=rest at hys lf lk sr
  refine⟨_,rfl,_,s'.length,rfl,.inr ⟨_,cT.of (sm _ _ ha),(ao _).symm⟩,_,rfl,_,rest.length,rfl,.inl ⟨_,aR.of hys,(ao _).symm⟩,_,_,rfl,rfl,_,rfl,e,_,0,_,rfl,rfl,cT.of (sm _ _ he),bY (j:=0) rfl,_,tk.length,rfl,.inl ⟨_,aR.of (sm _ _ hl),(ao _).symm⟩,_,_,rfl,rfl,_,rfl,?_⟩
  rw[lk]
  cases c1:bO tk s' with
  |true =>
   refine bM ?_
   refine⟨_,rfl,by show 2<=sizeLine;lia,λt nt=>k1 c1 _ t (sm.trans (ak nt)) ae⟩
  |false =>
   refine br ?_
   refine⟨_,rfl,e,_,1,_,rfl,rfl,cT.of (sm _ _ he),bY (j:=1) rfl,g,rfl,⟨_,aR.of (sm _ _ hg)⟩,λz D2 hD2=>bN (a:=g) (xs:=aw gv) (λi ys H4=>ys=((gv.take i).map λx=>V.bl (decide (x∈rest)))/\H4 D2=some (.lst ys)/\au H2 H4) ⟨rfl,ae,ak hD2⟩ (λi ys H4 _ p=>aR.of ((sm.trans p.2.2) _ _ hg)) ?_ ?_⟩
   ·rintro i v ys H4 hi ⟨rfl,hys4,sm4⟩
    obtain⟨x,hx,rfl⟩:=cz hi
    refine⟨_,rfl,_,rfl,D1,aw rest,rfl,.inl (aR.of (sm4 _ _ hys)),rfl,eJ _,hys4,?_,?_,ae,aF sm4 hD2⟩
    ·rw[Et,EL]
     lia
    ·rw[ar hx,EI,jh]
     rfl
   rintro ys H4 ⟨rfl,hys4,sm4⟩
   rw[ao,EN]at hys4
   refine⟨D2,gv.map λx=>decide (x∈rest),rfl,aR.of (by rw[hys4,Fo];rfl),_,rfl,?_⟩
   rw[sr]
   have sB:=sm.trans sm4
   cases c2:second tk gv s' with
   |true =>
    refine bM ?_
    refine⟨_,rfl,by show 2<=sizeLine;lia,λt nt=>k2 c1 c2 _ t (sB.trans (ak nt)) ae⟩
   |false =>
    refine br ?_
    refine⟨_,rfl,_,rfl,e,_,1,_,rfl,rfl,cT.of (sB _ _ he),bY (j:=1) rfl,D1,g,_,_,rfl,rfl,sm4 _ _ hys,sB _ _ hg,by rw[ao,ao];lia,λq3 nq3=>?_⟩
    have e1:aw rest++aw gv=aw (rest++gv):=by unfold aw;rw[List.map_append]
    rw[e1]
    refine⟨q3,_,rfl,aR.of ae,by rw[Eu];lia,λq4 nq4=>⟨q4,_,rfl,.inl ⟨aR.of ae,λq5 nq5=>?_⟩⟩⟩
    have s5:=((ak (o:=.lst (aw (rest++gv))) nq3).trans (ak (o:=.lst (aw (aI (rest++gv)))) nq4)).trans (ak (o:=.tup (aw (aI (rest++gv)))) nq5)
    have hq5:(upd (upd (upd H4 q3 (.lst (aw (rest++gv)))) q4 (.lst (aw (aI (rest++gv))))) q5 (.tup (aw (aI (rest++gv))))) q5=some (.tup (aw (aI (rest++gv)))):=ae
    generalize upd (upd (upd H4 q3 (.lst (aw (rest++gv)))) q4 (.lst (aw (aI (rest++gv))))) q5 (.tup (aw (aI (rest++gv))))=H5 at s5 hq5 ⊢
    refine⟨by show 2<=sizeLine;lia,λt nt=>?_⟩
    have s6:au H5 (upd H5 t (.tup [.str "done",.ref q5])):=ak nt
    refine k3 c1 c2 _ t q5 (sB.trans (s5.trans s6)) ?_ ae
    rw[s6 _ _ hq5,<-hrest]
    rfl
end Uf
end
section
namespace L2
open PySem PySem.Spec PyProof.Rows UfSrt
def Bq(a:Addr)(o:Obj)(kvs:List (Key×V)):It :=
 ⟨λi H=>H a=some (.frz o (.dK kvs))/\i<kvs.length,λi H x H'=>H'=H/\∃k v,kvs[i]?=some (k,v)/\x=v,λi H=>H a=some (.frz o (.dK kvs))/\i=kvs.length⟩
def tD{P:Program}{w:World}{K:PySem.W.Frag}{tg:Expr}{a it:Addr}{o:Obj}{kvs:List (Key×V)}{es:Array DictEntry}{ep:Nat}(hd:o.data=.dict es ep) :
  Turn P w K tg (Bq a o kvs) [it] it (λi h=>h.IsValIter it a i kvs.length ep) where
 mem:=by simp
 obj:=λi h st b hb=>by
  have e:b=it:=by simpa using hb
  subst e
  obtain⟨o,e,c,d⟩:=st
  exact⟨o,e,λv z=>by rw[d]at z;cases z⟩
 keep:=λi h h' st k=>st.at λo e=>k it (by simp) o e
 item:=by
  intro X hP hw hK hc i pins s σ H E I hf st hg
  subst hP hw hK
  obtain⟨he,hi⟩:=hg
  obtain⟨vs,rel,hat,lo,hz⟩:=uK I he hd
  obtain⟨f0,f1,f2,f3,f4,f5⟩:=hf it (by simp)
  have hne:a≠it:=λz=>by rw[z,f0]at he;cases he
  have hl:kvs.length=vs.length:=rel.length
  have W:=Walks.dictValues (prog:=X.prog) (w:=X.w) (knd:=aU X.prog X.w) (I.ok.hd hc) it a hne vs ep
  refine W.item i s _ _ (by lia) ⟨(by rw[<-hl];exact st),hat⟩ λv h' tk hP st' kk=>?_
  obtain⟨k,hx⟩:=hP
  obtain⟨⟨k',v'⟩,hkv,hrel⟩:=jB rel hx
  have I1:Inv X pins σ H { s with heap:=h',toks:=tk }:=I.turned (λb o hb e=>kk b o (by simpa using hb) e) f0 f1 f3 f4 f5
  obtain⟨oi,e1,c1,d1⟩:=id st'.1
  exact⟨v,rfl,pF (s:={ s with heap:=h',toks:=tk }) e1 c1 d1 (by decide) ⟨v',H,I1,hrel.2,⟨rfl,k',v',hkv,rfl⟩,(by rw[hl];exact st'.1),λb hb=>(hf b hb).1⟩⟩
 done:=by
  intro X hP hw hK hc i pins s σ H E I hf st hg
  subst hP hw hK
  obtain⟨he,hi⟩:=hg
  obtain⟨vs,rel,hat,lo,hz⟩:=uK I he hd
  obtain⟨f0,f1,f2,f3,f4,f5⟩:=hf it (by simp)
  have hne:a≠it:=λz=>by rw[z,f0]at he;cases he
  have hl:kvs.length=vs.length:=rel.length
  have W:=Walks.dictValues (prog:=X.prog) (w:=X.w) (knd:=aU X.prog X.w) (I.ok.hd hc) it a hne vs ep
  subst hi
  rw[hl]at st
  exact W.done s _ _ ⟨st,hat⟩ λh' tk kk=>⟨rfl,I.turned (λb o hb e=>kk b o (by simpa using hb) e) f0 f1 f3 f4 f5⟩
 self:=λ_ _ _ _ _ st h=>wpAny_pyIter_valiter st h
section
variable {X:Cx}{tg:Expr}
def BF(tl:TE):TI:=λσ H R=>tl σ H λx H1=>∃a o kvs,x=.ref a/\H1 a=some (.frz o (.dK kvs))/\R (Bq a o kvs) H1
def yd{l:Expr}{tl:TE}{apos cpos:Pos}(hl:PE X l tl)(hbase:attributeBase l "values" X.env (eval l X.env)=eval l X.env:=by rfl)(hline:(apos.endLine==cpos.line)=true:=by rfl):PI X tg (.Call (.Attribute l "values" apos) [] [] cpos) (BF tl):=by
 intro pins s σ H R I h
 refine Jc hbase hline (bo (hl pins s σ H _ I h) λv s1 hZ=>?_)
 obtain⟨x,H1,I1,r1,a,o,kvs,e,ea,q⟩:=hZ
 subst e
 cases r1
 obtain⟨ho,z,y,vs,rel,dd⟩:=(show bc X.prog X.w H1 s1.heap a (.frz o (.dK kvs)) from I1.hok a _ ea)
 obtain⟨ep,hat⟩:=dd.dictAt
 obtain⟨o',es,ho',hc',hd',_⟩:=id hat
 have ho2:=ho
 rw[ho]at ho'
 cases ho'
 have hl:kvs.length=vs.length:=rel.length
 refine⟨"dict", "dict.values",PySem.F.plainAttrs_dict,Ja,PySem.F.type_dict_values,dd.typeIs,?_,Hh rfl (JF ?_)⟩
 ·exact(AH I1 (.inl ⟨kvs,.inr ⟨o,ea⟩⟩)).2.1
 refine call_meetsIn Ja dd.typeIs PySem.F.entry_dict_values (PySem.F.args_dict_values_1 _) (meets_dict_values _ a y) ⟨⟨vs,dd⟩,?_⟩
 refine wpAny_pyIter_values (kvs:=vs) (ep:=ep) (knd:=aU X.prog X.w) (v:=s1.heap.objs.size) (d:=a) ⟨_,Ew _ rfl,rfl,rfl⟩ (hat.at' λo e=>En _ e) ?_
 refine⟨_,[_],_,_,H1,rfl,I1.kept (t':=s1.toks) λb o e=>En _ (En _ e),tD (kvs:=kvs) hd',(by rw[hl];exact⟨_,Ew _ rfl,rfl,rfl⟩),λb hb=>?_,q⟩
 have e:=Gm.mp hb
 subst e
 exact I1.sP (by rw[Fh];exact Fq _) (I1.hok.fresh (by rw[Fh];exact Fq _))
end
def vy{a:Addr}{o:Obj}{kvs:List (Key×V)}{g:TG}{tb:TS}{D:Ends}{σ:St}{H:Hp}(Pv:Nat->St->Hp->Prop)(h0:Pv 0 σ H)(hl:∀i σ H,i<=kvs.length->Pv i σ H->H a=some (.frz o (.dK kvs)))
  (hs:∀i k v σ H,kvs[i]?=some (k,v)->Pv i σ H->g v σ H λσ2 H2=>tb { D with nx:=Pv (i+1),ct:=Pv (i+1),bk:=D.nx } σ2 H2) (hd:∀σ H,Pv kvs.length σ H->D.nx σ H) :
  ∃W:Nat->Nat->St->Hp->Prop,(∃m,W 0 m σ H)/\∀i m σ H,W i m σ H ->
   ((Bq a o kvs).stop i H/\D.nx σ H)\/((Bq a o kvs).go i H/\∃N:St->Hp->Prop,(∀σ' H',N σ' H'->∃m',m'<m/\W (i+1) m' σ' H')/\∀x H',(Bq a o kvs).yld i H x H'->g x σ H' λσ2 H2=>tb { D with nx:=N,ct:=N,bk:=D.nx } σ2 H2):=by
 refine⟨λi m σ H=>m=kvs.length-i/\i<=kvs.length/\Pv i σ H,⟨kvs.length,by simp,EV _,h0⟩,?_⟩
 rintro i m σ H ⟨rfl,hi,p⟩
 have q:=hl i σ H hi p
 by_cases hlt:i<kvs.length
 ·refine .inr ⟨⟨q,hlt⟩,Pv (i+1),λσ' H' p'=>⟨kvs.length-(i+1),by lia,rfl,hlt,p'⟩,λx H' y=>?_⟩
  obtain⟨e,k,v,hkv,rfl⟩:=y
  subst e
  exact hs i k _ σ _ hkv p
 ·have e:i=kvs.length:=by lia
  subst e
  exact .inl ⟨⟨q,rfl⟩,hd σ H p⟩
end L2
end
section
namespace Uf
open PySem L2 UfSrt UfFin
abbrev gL:Stmt:=top 57
abbrev gQ:Stmt:=top 58
abbrev gE:Stmt:=top 59
abbrev m6:Stmt:=top 60
def vO(H:Hp)(m:Mv)(v:V):Prop:=∃t l g,v=.ref t/\H t=some (.tup [.ref l,.ref g])/\H l=some (.lst (aw m.2.1))/\H g=some (.lst (aw m.2.2))
def vO.same{H H':Hp}{m:Mv}{v:V}(s:au H H')(h:vO H m v):vO H' m v:=by
 obtain⟨t,l,g,h1,h2,h3,h4⟩:=h
 exact⟨t,l,g,h1,s _ _ h2,s _ _ h3,s _ _ h4⟩
abbrev MP(H:Hp):List Mv->List (Key×V)->Prop:=Paired λm kv=>kv.1=Sum.inr m.1/\vO H m kv.2
theorem MP.same{H H':Hp}{ms:List Mv}{kvs:List (Key×V)}(s:au H H')(h:MP H ms kvs):MP H' ms kvs:=Paired.dy h λ_ _ z=>⟨z.1,z.2.same s⟩
def MP.put{H:Hp}{d:Addr}{o:HO}{kv0:List (Key×V)}{ms:List Mv}{kvs:List (Key×V)}(hd:H d=some (.dK kv0))(h:MP H ms kvs):MP (upd H d o) ms kvs:=Paired.dy h λ_ _ ⟨z,t,l,g,h1,h2,h3,h4⟩ =>
 ⟨z,t,l,g,h1,by rw[af (aJ h2 hd (λz=>nomatch z))];exact h2,by rw[af (aJ h3 hd (λz=>nomatch z))];exact h3,by rw[af (aJ h4 hd (λz=>nomatch z))];exact h4⟩
theorem MP.keys{H:Hp}:∀{ms:List Mv} {kvs:List (Key×V)},MP H ms kvs->kvs.map (·.1)=(names ms).map Sum.inr
 |_,_,.nil=>rfl
 |_,_,.cons h t=>by
  rw[Ff,h.1,MP.keys t]
  rfl
theorem MP.none{H:Hp}{ms:List Mv}{kvs:List (Key×V)}{x:Str}(h:MP H ms kvs)(hx:x∉names ms):cA kvs (Sum.inr x:Key)=.none:=by
 cases e:cA kvs (Sum.inr x:Key) with
 |none=>rfl
 |some v =>
  have:=rV e
  rw[h.keys]at this
  obtain⟨y,hy,e2⟩:=EH.mp this
  cases e2
  exact absurd hy hx
theorem MP.get{H:Hp}{m:Mv}:∀{ms:List Mv} {kvs:List (Key×V)},MP H ms kvs->(names ms).Nodup->m∈ms->∃v,cA kvs (Sum.inr m.1:Key)=.some v/\vO H m v
 |_,_,.nil,_,h=>by simp at h
 |m'::ms,_,.cons (b:=kv) h t,hn,hm=>by
  obtain⟨n1,n2⟩:=Fi.mp (show(m'.1::names ms).Nodup from hn)
  rcases EB.mp hm with rfl|hm
  ·exact⟨kv.2,bJ h.1,h.2⟩
  ·have ne:¬kv.1=(Sum.inr m.1:Key):=λz=>by
    rw[h.1]at z
    have z2:m'.1=m.1:=by injection z
    exact n1 (by rw[z2];exact EH.mpr ⟨m,hm,rfl⟩)
   rw[bA ne]
   exact MP.get t n2 hm
def gH(H:Hp)(d:Addr)(ms:List Mv):Prop:=∃o kvs,H d=some (.frz o (.dK kvs))/\MP H ms kvs
theorem gH.same{H H':Hp}{d:Addr}{ms:List Mv}(s:au H H')(h:gH H d ms):gH H' d ms:=by
 obtain⟨o,kvs,h1,h2⟩:=h
 exact⟨o,kvs,s _ _ h1,h2.same s⟩
theorem gH.get{H:Hp}{d:Addr}{ms:List Mv}{m:Mv}(h:gH H d ms)(hn:(names ms).Nodup)(hm:m∈ms):∃v,eQ H d (.str m.1) (some v)/\vO H m v:=by
 obtain⟨o,kvs,h1,h2⟩:=h
 obtain⟨v,h3,h4⟩:=h2.get hn hm
 exact⟨v,.inl ⟨kvs,Sum.inr m.1,.inr ⟨o,h1⟩,rfl,h3.symm⟩,h4⟩
abbrev FP:List (List Str×Nat)->List (List Key×V)->Prop:=Paired λp kv=>kv.1=dQ p.1/\kv.2=.int (p.2:Nat)
theorem FP.none{t:List Str}:∀{ws:List (List Str×Nat)} {kvs:List (List Key×V)},FP ws kvs->t∉ws.map (·.1)->cA kvs (dQ t)=.none
 |_,_,.nil,_=>rfl
 |p::ws,kv::kvs,.cons h r,e=>by
  have ht:¬p.1=t:=λz=>e (by simp[z])
  rw[bA (λz=>ht (iG (h.1.symm.trans z)))]
  exact FP.none r λz=>e (EK _ z)
theorem FP.some{t:List Str}{d:Nat}:∀{ws:List (List Str×Nat)} {kvs:List (List Key×V)},FP ws kvs->(ws.map (·.1)).Nodup->(t,d)∈ws->cA kvs (dQ t)=.some (.int (d:Nat))
 |_,_,.nil,_,e=>by simp at e
 |p::ws,kv::kvs,.cons h r,hn,e=>by
  obtain⟨n1,n2⟩:=Fi.mp (show(p.1::ws.map (·.1)).Nodup from hn)
  rcases EB.mp e with z|z
  ·subst z
   rw[bJ h.1,h.2]
  ·have ht:¬p.1=t:=λy=>n1 (by rw[y];exact EH.mpr ⟨(t,d),z,rfl⟩)
   rw[bA (λz=>ht (iG (h.1.symm.trans z)))]
   exact FP.some r n2 z
def FP.there{t:List Str}{ws:List (List Str×Nat)}{kvs:List (List Key×V)}(h:FP ws kvs)(hn:(ws.map (·.1)).Nodup)(ht:t∈ws.map (·.1)):∃d:Nat,cA kvs (dQ t)=.some (.int (d:Nat)):=by
 obtain⟨p,hp,rfl⟩:=EH.mp ht
 exact⟨p.2,h.some hn hp⟩
def j5{ms:List Mv}{t:List Str}(hn:(names ms).Nodup):cU ms t=none↔∀m∈ms,¬(bO m.2.1 t=false/\second m.2.1 m.2.2 t=true):=by
 unfold cU
 rw[HL]
 constructor
 ·intro h m hm ⟨h1,h2⟩
  refine h m.1 (cQ.mpr (EH.mpr ⟨m,hm,rfl⟩)) ?_
  unfold cI fk
  rw[de hn hm,ee hn hm,h1,h2]
  rfl
 ·intro h x hx
  obtain⟨m,hm,rfl⟩:=cP hx
  unfold cI fk
  rw[de hn hm,ee hn hm]
  intro z
  obtain⟨z1,z2⟩:=ES.mp z
  exact h m hm ⟨by simpa using z1,z2⟩
def qJ{ms:List Mv}{t:List Str}{x:Str}(hn:(names ms).Nodup)(h:cU ms t=some x):∃m∈ms,m.1=x/\bO m.2.1 t=false/\second m.2.1 m.2.2 t=true:=by
 have h1:=List.find?_some h
 have h2:=IP h
 obtain⟨m,hm,rfl⟩:=cP h2
 unfold cI fk at h1
 rw[de hn hm,ee hn hm]at h1
 obtain⟨z1,z2⟩:=ES.mp h1
 exact⟨m,hm,rfl,by simpa using z1,z2⟩
def sj{ms:List Mv}{t:List Str}{m:Mv}(hn:(names ms).Nodup)(hm:m∈ms):m.1∈iM ms t↔bO m.2.1 t=false/\second m.2.1 m.2.2 t=false:=by
 rw[jS]
 unfold cI fk
 rw[de hn hm,ee hn hm]
 exact⟨λh=>h.2,λh=>⟨EH.mpr ⟨m,hm,rfl⟩,h⟩⟩
def vG{ms:List Mv}{t:List Str}{m:Mv}(hn:(names ms).Nodup)(hm:m∈ms):cb ms t m.1=behind m.2.1 m.2.2 t:=by
 unfold cb
 rw[de hn hm,ee hn hm]
def Cv:decide (V.str ("held":Str)=V.str ("full":Str))=false:=by decide +kernel
def Ek:decide (V.str ("done":Str)=V.str ("full":Str))=false:=by decide +kernel
def DV:decide (V.str ("full":Str)=V.str ("full":Str))=true:=by decide +kernel
def vO.step{H:Hp}{m:Mv}{v:V}(h:vO H m v):∃t,v=.ref t/\kM H t m.2.1 m.2.2:=by
 obtain⟨t,l,g,h1,h2,h3,h4⟩:=h
 exact⟨t,h1,l,g,h2,h3,h4⟩
inductive rG(vs:List V)(H:Hp)(Q:VK)(E:XK):Prop
 |mk (dm as:Addr) (ms:List Mv) (st:List Str) (_:vs=[.ref dm,.ref as]) (_:gH H dm ms) (_:Sound ms st) (_:H as=some (.tup (aw (aI st)))) (_:(∀H',au H H'->(∀k t,UfBfs.At (graph ms) (aI st) k t->cU ms t=none)->Q .non H')) (_:(∀H' (dd:Nat) t,au H H'->UfBfs.At (graph ms) (aI st) dd t->cU ms t≠none->(∀j u,UfBfs.At (graph ms) (aI st) j u->cU ms u≠none->dd<=j)->Q (.int ((dd:Nat)+1)) H'))
def eh:az ["_law_moves", "_law_start", "_law_far", "_law_waiting", "_law_at_here", "_law_here", "_law_ends", "_law_word", "_law_there"] ["_law_moves", "_law_start"] (aj gL):=gm
structure nu(ms:List Mv)(st:List Str)(H H2:Hp)(d a:Addr)(k:Nat)(ws:List (List Str×Nat)):Prop where
 sm:au H H2
 fd:∃kvs,H2 d=some (.dT kvs)/\FP ws kvs
 wt:kX H2 a (ws.map (·.1))
 qi:UfBfs.QI (graph ms) (aI st) k ws
 fine:∀t∈ws.map (·.1),fu ms st t
def nu.then{ms:List Mv}{st:List Str}{H H2 H3:Hp}{d a:Addr}{k:Nat}{ws:List (List Str×Nat)}(h:nu ms st H H2 d a k ws)(s:au H2 H3):nu ms st H H3 d a k ws:=by
 obtain⟨sm,⟨kvs,h1,h2⟩,⟨qs,h3,h4⟩,qi,fine⟩:=h
 exact⟨sm.trans s,⟨kvs,s _ _ h1,h2⟩,⟨qs,s _ _ h3,Paired.dy h4 λ_ _ e=>s _ _ e⟩,qi,fine⟩
def nu.qN{ms:List Mv}{st:List Str}{H H2:Hp}{d a:Addr}{k:Nat}{ws:List (List Str×Nat)}(so:Sound ms st)(h:nu ms st H H2 d a k ws):ws.length<=4096:=by
 have:=j6 so h.qi.nd h.fine
 rwa[Et]at this
inductive LeI(ms:List Mv)(st:List Str)(H:Hp)(dm as d a:Addr)(m:Nat)(σ:St)(H4:Hp):Prop
 |mk (k:Nat) (ws:List (List Str×Nat)) (v5 v6 v7 v8:Option V) (q0:σ=[some (.ref dm),some (.ref as),some (.ref d),some (.ref a),some (.int k),v5,v6,v7,v8]) (q1:nu ms st H H4 d a k ws) (q2:k<=ws.length) (q3:m=5000-k)
inductive Cb(ms:List Mv)(st:List Str)(H:Hp)(dm as d a tq:Addr)(k dd:Nat)(t':List Str)(j:Nat)(σ:St)(H5:Hp):Prop
 |mk (ws:List (List Str×Nat)) (v6 v7 v8:Option V) (q0:σ=[some (.ref dm),some (.ref as),some (.ref d),some (.ref a),some (.int ((k:Nat)+1)),some (.ref tq),v6,v7,v8]) (q1:nu ms st H H5 d a k ws) (q2:k<ws.length) (q3:ws[k]?=some (t',dd)) (q4:H5 tq=some (.tup (aw t')))
   (q5:∀m∈ms.take j,¬(bO m.2.1 t'=false/\second m.2.1 m.2.2 t'=true)) (q6:∀m∈ms.take j,bO m.2.1 t'=false->second m.2.1 m.2.2 t'=false->behind m.2.1 m.2.2 t'∈ws.map (·.1))
theorem Cb.sm{ms:List Mv}{st:List Str}{H:Hp}{dm as d a tq:Addr}{k dd:Nat}{t':List Str}{j:Nat}{σ:St}{H5:Hp}(h:Cb ms st H dm as d a tq k dd t' j σ H5):au H H5:=by
 cases h with
 |mk _ _ _ _ _ q1=>exact q1.sm
def xx{f:Addr}{fd:FuncData}(F:d3 K "_law_least" "_law_least" gL f fd)(T:Txt K mg)(DB:kA P w K mg base "_law_behind" iF ["_law_ends", "_law_beads"] 1 uO) :
  aM P w K mg base cW 2 f fd ["_law_moves", "_law_start"] rG:=by
 refine F.oK eh λcdv A outer s H vs Q E hr h=>?_
 ·obtain⟨dm,as,ms,st,rfl,D,so,has,kn,ks⟩:=h
  have hsl:=E1
  have hu:=gh hr
  refine⟨_,ah (eR 2 eh (mE hu (pv 1) av))
   (ah (eR 3 eh (bZ (aa (pv 1) ag)))
   (ah (eR 4 eh av)
   (ah (iI Fg (bH wq (pv 4) (aD bu rfl T.len dM (aa (pv 3) ag)) (cu _))
    (ah (eR 5 eh (cN gW (pv 3) (pv 4) (λ_ _=>rfl)))
    (ah (eR 4 eh (aK gG (pv 4) av))
    (aq (dU Fg rfl (yd (pv 0)) (la 6 eh)
     (ah (qX (jR DB hr (aa (pv 6) (aa (pv 5) ag))) (gy rfl (aY (la 7 eh) (aY (la 8 eh) eV))))
     (ah (cj (bH iP (pv 7) fF (cu _)) (aq (aH (aK gG (eX hu (pv 2) (pv 5) (λ_ _=>rfl)) av))) aZ)
     (aq (cj (gI (hV hu (pv 8) (pv 2)))
      (ah (gZ hu (pv 2) (pv 8) (aK gG (eX hu (pv 2) (pv 5) (λ_ _=>rfl)) av) rfl)
      (aq (bD (gS E6 E9 Fb bC (pv 3) (aa (pv 8) ag))))) aZ)))))))))
   (aq (aH jx))))),?_⟩
  clear hu
  dsimp only[bz,Cx.ff]
  intro d nd
  have sd:au H (upd H d (.dT [])):=ak nd
  refine⟨_,rfl,ae,dQ (aI st),as,rfl,(by rw[d6];exact sd _ _ has),?_⟩
  have s2:au H (upd (upd H d (.dT [])) d (.dT [(dQ (aI st),V.int 0)])):=aF sd nd
  have hd2:(upd (upd H d (.dT [])) d (.dT [(dQ (aI st),V.int 0)])) d=some (.dT [(dQ (aI st),V.int 0)]):=ae
  generalize upd (upd H d (.dT [])) d (.dT [(dQ (aI st),V.int 0)])=H2 at s2 hd2 ⊢
  refine⟨_,rfl,by show 1<=sizeLine;lia,λa na=>?_⟩
  have s3:au H2 (upd H2 a (.lst [.ref as])):=ak na
  have na0:H a=none:=s2.free na
  have fs:=iy so
  have nnd:=so.nd
  obtain⟨om,kvm,hdm,mpm⟩:=id D
  have I0:nu ms st H (upd H2 a (.lst [.ref as])) d a 0 [(aI st,0)]:=⟨s2.trans s3,⟨_,s3 _ _ hd2,.cons ⟨rfl,rfl⟩ .nil⟩,⟨[as],ae,.cons ((s2.trans s3) _ _ has) .nil⟩,UfBfs.QI.start _ _,λt ht=>by
   have e:t=aI st:=by simpa using ht
   rw[e];exact fs⟩
  refine⟨LeI ms st H dm as d a,⟨_,0,_,none,none,none,none,rfl,I0,by simp,rfl⟩,?_⟩
  rintro m σ H4 ⟨k,ws,v5,v6,v7,v8,rfl,I4,hk,em⟩
  obtain⟨qs,ha4,hp4⟩:=I4.wt
  have qN:=I4.qN so
  have lq:qs.length=ws.length:=by rw[<-EW hp4,Et]
  refine⟨_,rfl,_,rfl,_,ws.length,rfl,.inl ⟨_,aR.of ha4,by rw[Et,lq]⟩,_,_,rfl,rfl,_,rfl,?_⟩
  by_cases hlt:k<ws.length
  ·rw[EM (show((k:Nat):Int)<((ws.length:Nat):Int) by lia)]
   refine bM ?_
   refine⟨λσ' H'=>∃m',m'<m/\LeI ms st H dm as d a m' σ' H',λσ' H' h=>h,?_⟩
   obtain⟨⟨t,dd⟩,htd⟩:∃p,ws[k]?=some p:=⟨ws[k],EA hlt⟩
   have hqk:qs[k]?=some qs[k]:=EA (by lia)
   obtain⟨t',ht',htq⟩:=bf hp4 hqk
   have et:t'=t:=by
    rw[E4,htd]at ht'
    exact(EO ht').symm
   subst et
   generalize qs[k]=tq at hqk htq
   have hft:fu ms st t':=I4.fine t' (EH.mpr ⟨(t',dd),EC htd,rfl⟩)
   have l12:=hft.len so
   have tnd:t'.Nodup:=hft.ris.nd
   refine⟨_,rfl,_,rfl,a,_,_,_,rfl,rfl,aR.of ha4,bY (j:=k) (by rw[E4,hqk];rfl),?_⟩
   refine⟨_,rfl,_,_,rfl,rfl,?_⟩
   have s04:=I4.sm
   refine⟨_,rfl,dm,om,kvm,rfl,s04 _ _ hdm,vy (a:=dm) (o:=om) (kvs:=kvm) (Cb ms st H dm as d a tq k dd t')
    ⟨ws,v6,v7,v8,rfl,I4,hlt,htd,htq,λm hm=>by simp at hm,λm hm=>by simp at hm⟩ (λj σ H5 _ h=>h.sm _ _ hdm) ?_ ?_⟩
   ·rintro j kx vx σ H5 hj ⟨ws,v6,v7,v8,rfl,I5,hlt5,htd5,htq5,hnf,hmy⟩
    obtain⟨m,hmj,_,hmv0⟩:=bf mpm hj
    obtain⟨te,rfl,hse⟩:=vO.step hmv0
    have hse5:=hse.same I5.sm
    have hm:m∈ms:=EC hmj
    have hmv:=so.mv m hm
    have etk:ms.take (j+1)=ms.take j++[m]:=ar hmj
    have mem1:∀{x:Mv},x∈ms.take (j+1)->x∈ms.take j\/x=m:=λhx=>by
     rw[etk]at hx
     rcases EX.mp hx with z|z
     ·exact .inl z
     ·exact .inr (by simpa using z)
    have skip:∀{ws':List (List Str×Nat)} {H':Hp} {v6 v7 v8:Option V},nu ms st H H' d a k ws'->k<ws'.length->ws'[k]?=some (t',dd)->H' tq=some (.tup (aw t'))->(∀x∈ws.map (·.1),x∈ws'.map (·.1))->¬(bO m.2.1 t'=false/\second m.2.1 m.2.2 t'=true)->(bO m.2.1 t'=false->second m.2.1 m.2.2 t'=false->behind m.2.1 m.2.2 t'∈ws'.map (·.1)) ->
      Cb ms st H dm as d a tq k dd t' (j+1) [some (.ref dm),some (.ref as),some (.ref d),some (.ref a),some (.int ((k:Nat)+1)),some (.ref tq),v6,v7,v8] H':=λ{ws' H' v6 v7 v8} I' h1 h2 h3 hsub h4 h5 =>
     ⟨ws',_,_,_,rfl,I',h1,h2,h3,λx hx=>(mem1 hx).elim (λz=>hnf x z) (λz=>by rw[z];exact h4),λx hx e1 e2=>(mem1 hx).elim (λz=>hsub _ (hmy x z e1 e2)) (λz=>by rw[z]at e1 e2 ⊢;exact h5 e1 e2)⟩
    have inws:t'∈ws.map (·.1):=EH.mpr ⟨(t',dd),EC htd5,rfl⟩
    refine⟨_,rfl,_,rfl,te,tq,m.2.1,m.2.2,t',rfl,hse5,hmv,htq5,tnd,by lia,λc1 H6 t6 s6 ht6=>?_,λc1 c2 H6 t6 s6 ht6=>?_,λc1 c2 H6 t6 q6 s6 hq6 ht6=>?_⟩
    ·have I6:=I5.then s6
     have htq6:=s6 _ _ htq5
     obtain⟨kvs6,hd6,fp6⟩:=I6.fd
     have htk6:H6 tq=some (.tup ((dQ t').map kV)):=by rw[d6];exact htq6
     refine⟨t6,_,rfl,cT.of ht6,rfl,_,_,rfl,_,_,rfl,rfl,?_⟩
     refine⟨_,rfl,rfl,_,rfl,?_⟩
     rw[Cv]
     refine br ?_
     refine⟨_,rfl,_,rfl,d,_,rfl,eQ.t hd6 htk6,_,rfl,?_⟩
     obtain⟨e,he⟩:=fp6.there I6.qi.nd inws
     rw[he]
     refine br ?_
     exact skip I6 hlt5 htd5 htq6 (λ_ z=>z) (λz=>by rw[c1]at z;cases z.1) (λz=>by rw[c1]at z;cases z)
    ·have I6:=I5.then s6
     have htq6:=s6 _ _ htq5
     obtain⟨kvs6,hd6,fp6⟩:=I6.fd
     have htk6:H6 tq=some (.tup ((dQ t').map kV)):=by rw[d6];exact htq6
     have hget:cA kvs6 (dQ t')=some (.int (dd:Nat)):=fp6.some I6.qi.nd (EC htd5)
     refine⟨t6,_,rfl,cT.of ht6,rfl,_,_,rfl,_,_,rfl,rfl,?_⟩
     refine⟨_,rfl,rfl,_,rfl,?_⟩
     rw[DV]
     refine bM ?_
     refine⟨_,rfl,_,rfl,d,_,rfl,(by rw[<-hget];exact eQ.t hd6 htk6),_,_,rfl,rfl,?_⟩
     obtain⟨f1,f2⟩:=I6.qi.found htd5
     refine ks H6 dd t' I6.sm f1 (λz=>(j5 nnd).mp z m hm ⟨c1,c2⟩) f2
    ·have I6:=I5.then s6
     have htq6:=s6 _ _ htq5
     obtain⟨kvs6,hd6,fp6⟩:=I6.fd
     have htk6:H6 tq=some (.tup ((dQ t').map kV)):=by rw[d6];exact htq6
     have hget:cA kvs6 (dQ t')=some (.int (dd:Nat)):=fp6.some I6.qi.nd (EC htd5)
     have hq6k:H6 q6=some (.tup ((dQ (behind m.2.1 m.2.2 t')).map kV)):=by rw[d6];exact hq6
     refine⟨t6,_,rfl,cT.of ht6,rfl,_,_,rfl,_,_,rfl,rfl,?_⟩
     refine⟨_,rfl,rfl,_,rfl,?_⟩
     rw[Ek]
     refine br ?_
     refine⟨_,rfl,_,rfl,d,_,rfl,eQ.t hd6 hq6k,_,rfl,?_⟩
     by_cases hin:behind m.2.1 m.2.2 t'∈ws.map (·.1)
     ·obtain⟨e,he⟩:=fp6.there I6.qi.nd hin
      rw[he]
      refine br ?_
      exact skip I6 hlt5 htd5 htq6 (λ_ z=>z) (λz=>by rw[c2]at z;cases z.2) (λ_ _=>hin)
     ·rw[fp6.none hin]
      refine bM ?_
      have lkv:kvs6.length=ws.length:=(EW fp6).symm
      have few6:=I6.qN so
      refine⟨_,rfl,_,rfl,d,_,rfl,(by rw[<-hget];exact eQ.t hd6 htk6),_,_,rfl,rfl,_,rfl,_,rfl,d,_,rfl,jK.t hd6 hq6k (by lia),?_⟩
      have pk:putK kvs6 (dQ (behind m.2.1 m.2.2 t')) (V.int ((dd:Nat)+1))=kvs6++[(dQ (behind m.2.1 m.2.2 t'),V.int ((dd:Nat)+1))]:=fm _ (fp6.none hin)
      rw[pk]
      obtain⟨qs8,ha8,hp8⟩:=I6.wt
      have t9:nh H6 (upd H6 d (.dT (kvs6++[(dQ (behind m.2.1 m.2.2 t'),V.int ((dd:Nat)+1))]))):=gu hd6 (λ_ z=>nomatch z)
      have s9:au H (upd H6 d (.dT (kvs6++[(dQ (behind m.2.1 m.2.2 t'),V.int ((dd:Nat)+1))]))):=aF I6.sm nd
      have nad:a≠d:=aJ ha8 hd6 (λz=>nomatch z)
      have ha9:(upd H6 d (.dT (kvs6++[(dQ (behind m.2.1 m.2.2 t'),V.int ((dd:Nat)+1))]))) a=some (.lst (qs8.map V.ref)):=by rw[af nad];exact ha8
      have hd9:(upd H6 d (.dT (kvs6++[(dQ (behind m.2.1 m.2.2 t'),V.int ((dd:Nat)+1))]))) d=some (.dT (kvs6++[(dQ (behind m.2.1 m.2.2 t'),V.int ((dd:Nat)+1))])):=ae
      have htq9:=t9 _ _ htq6
      have hq9:=t9 _ _ hq6
      have hp9:=Paired.dy hp8 λt q (e:H6 q=some (.tup (aw t)))=>t9 q _ e
      generalize upd H6 d (.dT (kvs6++[(dQ (behind m.2.1 m.2.2 t'),V.int ((dd:Nat)+1))]))=H9 at t9 s9 ha9 hd9 htq9 hq9 hp9 ⊢
      have lq8:qs8.length=ws.length:=by rw[<-EW hp8,Et]
      refine⟨_,rfl,.inl ⟨rfl,_,aR.of ha9⟩,_,rfl,a,_,_,rfl,rfl,ha9,(by rw[Et];lia),?_⟩
      have t11:nh H9 (upd H9 a (.lst (qs8.map V.ref++[V.ref q6]))):=gu ha9 (λ_ z=>nomatch z)
      have hmay:m.1∈(graph ms).may t':=(sj nnd hm).mpr ⟨c1,c2⟩
      have eq:=UfBfs.QI.add I6.qi htd5 hmay
      have enx:(graph ms).nxt t' m.1=behind m.2.1 m.2.2 t':=vG nnd hm
      have ead:UfBfs.addQ (graph ms) t' dd ws m.1=ws++[(behind m.2.1 m.2.2 t',dd+1)]:=by
       unfold UfBfs.addQ
       rw[enx,Ex hin]
      rw[ead]at eq
      have hfb:fu ms st (behind m.2.1 m.2.2 t'):=mh so hft hm c2
      refine skip (ws':=ws++[(behind m.2.1 m.2.2 t',dd+1)]) ⟨aF s9 na0,⟨_,by rw[af nad.symm];exact hd9,FW fp6 ⟨rfl,by simp⟩⟩,⟨qs8++[q6],by rw[ae,EI];rfl,?_⟩,eq,λu hu=>?_⟩ (by simp;lia) (by rw[FO hlt5];exact htd5) (t11 _ _ htq9) (λx hx=>by rw[EI];exact Fc _ hx) (λz=>by rw[c2]at z;cases z.2) (λ_ _=>by simp)
      ·rw[EI]
       exact FW (Paired.dy hp9 λt q (e:H9 q=some (.tup (aw t)))=>t11 q _ e) (t11 _ _ hq9)
      ·rw[EI]at hu
       rcases EX.mp hu with z|z
       ·exact I6.fine u z
       ·have e:u=behind m.2.1 m.2.2 t':=by simpa using z
        rw[e]
        exact hfb
   ·rintro σ H5 ⟨ws,v6,v7,v8,rfl,I5,hlt5,htd5,htq5,hnf,hmy⟩
    have el:kvm.length=ms.length:=(EW mpm).symm
    rw[el,EN]at hnf hmy
    refine⟨5000-(k+1),by have:=I5.qN so;lia,k+1,ws,_,_,_,_,rfl,⟨I5.sm,I5.fd,I5.wt,I5.qi.step htd5 ((j5 nnd).mpr hnf) λx hx=>?_,I5.fine⟩,hlt5,rfl⟩
    obtain⟨h1,h2,h3⟩:=jS.mp hx
    obtain⟨m,hm,rfl⟩:=EH.mp h1
    obtain⟨e1,e2⟩:=(sj nnd hm).mp hx
    show cb ms t' m.1∈_
    rw[vG nnd hm]
    exact hmy m hm e1 e2
  ·rw[EZ (show ¬((k:Nat):Int)<((ws.length:Nat):Int) by lia)]
   refine br ?_
   have ek:k=ws.length:=by lia
   subst ek
   exact kn H4 I4.sm I4.qi.done
end Uf
end
section
namespace L2
open PySem PySem.Spec PyProof.Rows UfSrt
def zS{xs:List V}{p:V->Bool}{i:Nat}{x:V}(h:xs.all p=true)(e:xs[i]?=some x):p x=true:=Gb.mp h x (EC e)
def jW{xs:List V}{us:List Value}(r:Vals xs us){i:Nat}{u:Value}(e:us[i]?=some u):∃x,xs[i]?=some x/\RelV x u:=by
 have hl:=r.length
 have hi:=(EF.mp e).1
 have h1:xs[i]?=some xs[i]:=EA (by lia)
 obtain⟨w,h2,h3⟩:=r.get h1
 rw[e]at h2
 cases h2
 exact⟨_,h1,h3⟩
section
variable {X:Cx}
inductive Alike(K:PySem.W.Frag)(H:Hp):V->V->Prop
 |flat {v:V}:fi v=true->Alike K H v v
 |tup {p q:Addr} {ts:List V}:cT K H p ts->cT K H q ts->ts.all fi=true->Alike K H (.ref p) (.ref q)
def pV{v:V}(h:fi v=true):rp v v=true:=by
 cases v <;> first|rfl|exact absurd (show false=true from h) EJ|(simp[rp])
def vB{pins:List (Addr×Obj)}{s:Shared}{σ:St}{H:Hp}{A:Around}{x y:V}{u v:Value}(I:Inv X pins σ H s)(h:Alike X.K H x y)(rx:RelV x u)(ry:RelV y v)(hu:A.units<cLine):SeqAt.EqAt A s u v true:=by
 cases h with
 |flat f =>
  have:=rf (A:=A) (s:=s) rx ry f f
  rwa[pV f]at this
 |@tup p q ts h1 h2 f =>
  cases rx
  cases ry
  by_cases e:p=q
  ·subst e
   exact SeqAt.EqAt.same _
  ·obtain⟨its,r1,p1,_⟩:=I.tuple h1
   obtain⟨its2,r2,p2,_⟩:=I.tuple h2
   have l1:=r1.length
   have l2:=r2.length
   have:=SeqAt.RcAt.tuples (A:=A) (e:=λ_=>true) p1 p2 hu λj h1 h2=>by
    have h1':j<its.length:=by simpa using h1
    have h2':j<its2.length:=by simpa using h2
    obtain⟨w,e1,e2⟩:=jW r1 (EA h1')
    obtain⟨w',e3,e4⟩:=jW r2 (EA h2')
    rw[e1]at e3
    cases e3
    have fw:=zS f e1
    have:=rf (A:=A.in1) (s:=s) e2 e4 fw fw
    rwa[pV fw]at this
   have e5:((List.range (min its.toArray.size its2.toArray.size)).all (λ_=>true)&&its.toArray.size==its2.toArray.size)=true:=by
    rw[ED,ED,<-l1,<-l2]
    simp
   rw[e5]at this
   exact .of_refs e this
def oX{pins:List (Addr×Obj)}{s:Shared}{σ:St}{H:Hp}{A:Around}{xs ys:List V}{us vs:List Value}(I:Inv X pins σ H s)(h:Paired (Alike X.K H) xs ys)(rx:Vals xs us)(ry:Vals ys vs)(hu:A.units<cLine) :
  ∀j (h1:j<us.toArray.size) (h2:j<vs.toArray.size),SeqAt.EqAt A s us.toArray[j] vs.toArray[j] true:=λj h1 h2=>by
 have h1':j<us.length:=by simpa using h1
 have h2':j<vs.length:=by simpa using h2
 obtain⟨w,e1,e2⟩:=jW rx (EA h1')
 obtain⟨w',e3,e4⟩:=jW ry (EA h2')
 obtain⟨a,e5,e6⟩:=jB h e3
 rw[e1]at e5
 cases e5
 exact vB I e6 e2 e4 hu
def Am(K:PySem.W.Frag)(b:Bool)(A:Around):R2:=λx y H Q=>∃p q xs ys,x=.ref p/\y=.ref q/\A.units+1<cLine/\aR K H p xs/\aR K H q ys/\Paired (Alike K H) xs ys/\Q (.bl b) H
def uV:g9 X (compareOp .Eq) (Am X.K true X.A):=by
 intro pins s σ H x y v u Q I rx ry h
 obtain⟨p,q,xs,ys,rfl,rfl,hu,hp,hq,hal,k⟩:=h
 cases rx
 cases ry
 obtain⟨its,r1,p1,_⟩:=I.list hp
 obtain⟨its2,r2,p2,_⟩:=I.list hq
 have l1:=r1.length
 have l2:=r2.length
 have l3:=EW hal
 refine SeqAt.RcAt.lists (e:=λ_=>true) p1.isList p2.isList (by simp;lia) (by lia) (oX (A:=X.A.in1) I hal r1 r2 hu) X.prog X.w X.xe _ ⟨.bl true,H,I,?_,k⟩
 show Value.bool _=Value.bool true
 simp
theorem jY{K:PySem.W.Frag}{H:Hp}:∀{xs:List V},xs.all fi=true->Paired (Alike K H) xs xs
 |[],_=>.nil
 |x::xs,h=>by
  rw[Hz,GQ]at h
  exact .cons (.flat h.1) (jY h.2)
end
def aM.calm{P:Program}{w:World}{K:PySem.W.Frag}{mg:Str->Option Value}{base:Heap}{k:Nat}{f:Addr}{fd:FuncData}{ps:List Str}{sp:Sp}(F:aM P w K mg base (sk P w) k f fd ps sp) :
  aM P w K mg base (λ_ _ _ _ _ _=>False) k f fd ps (λvs H Q _=>sp vs H Q λ_ _ _=>False) :=
 ⟨λvs H Q E h=>F.len vs H Q _ h,λA outer s H args us vs Q E hr he hb hv hs=>FL (F.run A outer s H args us vs Q (λ_ _ _=>False) hr he hb hv hs) λr s' h=>by
  cases r with
  |error e =>
   obtain⟨_,_,_,_,_,_,_,_,_,_,_,_,_,_,_,_,q⟩:=h
   exact q
  |ok fl=>cases fl <;> exact h⟩
end L2
end
section
namespace UfBfs
variable {σ μ:Type}[DecidableEq σ]
def cg.inv{g:G σ μ}{s u:σ}{r:List μ}{m:μ}(h:cg g s (r++[m]) u):∃t,cg g s r t/\m∈g.may t/\u=g.nxt t m:=by
 generalize hr:r++[m]=r' at h
 cases h with
 |nil=>simp at hr
 |snoc h1 h2 =>
  obtain⟨e1,e2⟩:=List.append_inj' hr rfl
  simp at e2
  subst e1 e2
  exact⟨_,h1,h2,rfl⟩
theorem cg.pre{g:G σ μ}{s:σ}:∀{r2:List μ} {r1:List μ} {u:σ},cg g s (r1++r2.reverse) u->∃t,cg g s r1 t
 |[],r1,u,h=>⟨u,by simpa using h⟩
 |m::r2,r1,u,h=>by
  rw[IJ,<-FY]at h
  obtain⟨t,h1,_⟩:=h.inv
  exact cg.pre h1
theorem cg.take{g:G σ μ}{s u:σ}{r:List μ}(h:cg g s r u)(i:Nat):∃t,cg g s (r.take i) t:=by
 have e:r=r.take i++(r.drop i).reverse.reverse:=by rw[List.reverse_reverse,FT]
 rw[e]at h
 exact cg.pre h
def cg.det{g:G σ μ}{s:σ}{r:List μ}{t:σ}(h:cg g s r t):∀{u:σ},cg g s r u->t=u:=by
 induction h with
 |nil =>
  intro u hu
  generalize hr:([]:List μ)=r' at hu
  cases hu with
  |nil=>rfl
  |snoc _ _=>simp at hr
 |snoc h1 h2 ih =>
  intro u hu
  obtain⟨t',h3,_,rfl⟩:=hu.inv
  rw[ih h3]
end UfBfs
namespace Uf
open PySem L2 UfSrt UfFin
def qI{ms:List Mv}{st:List Str}(so:Sound ms st){r:List Str}{t:List Str}(h:UfBfs.cg (graph ms) (aI st) r t):fu ms st t:=by
 induction h with
 |nil=>exact iy so
 |snoc _ h2 ih=>exact(kI so ih h2).choose_spec.2.2.2.2.2
def rK(n i:Nat):List Str:=if i<=n then List.replicate i ("done":Str) else List.replicate n ("done":Str)++[("full":Str)]
def AA{n i:Nat}(h:i<n):rK n (i+1)=rK n i++[("done":Str)]:=by
 unfold rK
 rw[EG (by lia),EG (by lia),List.replicate_succ']
def zH(n:Nat):rK n (n+1)=rK n n++[("full":Str)]:=by
 unfold rK
 rw[Ex (by lia),EG (Ep _)]
def xU{n i:Nat}:(rK n i).length<=n+1:=by
 unfold rK
 split
 ·rw[FQ];lia
 ·rw[Eu,FQ];exact Ep _
inductive rZ(vs:List V)(H:Hp)(Q:VK)(E:XK):Prop
 |mk (a dm as:Addr) (ms:List Mv) (st r:List Str) (x:Str) (t:List Str) (_:vs=[.ref dm,.ref as,.ref a]) (_:H a=some (.lst (aw (r++[x])))) (_:gH H dm ms) (_:Sound ms st) (_:H as=some (.tup (aw (aI st)))) (_:r.length<=5000) (_:UfBfs.cg (graph ms) (aI st) r t) (_:cU ms t=some x) (_:∀H',au H H'->Q (.bl true) H')
def h9:az ["_law_moves", "_law_start", "_law_row", "_law_words", "_law_beads", "_law_name_here", "_law_word"] ["_law_moves", "_law_start", "_law_row"] (aj gQ):=gm
inductive C7(H:Hp)(dm as a wa:Addr)(ms:List Mv)(st r:List Str)(i:Nat)(σ:St)(H2:Hp):Prop
 |mk (v5 v6:Option V) (q:Addr) (q0:σ=[some (.ref dm),some (.ref as),some (.ref a),some (.ref wa),some (.ref q),v5,v6]) (q1:au H H2) (q2:H2 wa=some (.lst (aw (rK r.length i)))) (q3:i<=r.length->∃u,H2 q=some (.tup (aw u))/\UfBfs.cg (graph ms) (aI st) (r.take i) u)
def C7.same{H:Hp}{dm as a wa:Addr}{ms:List Mv}{st r:List Str}{i:Nat}{σ:St}{H2:Hp}(h:C7 H dm as a wa ms st r i σ H2):au H H2:=by
 cases h
 assumption
def uU{f:Addr}{fd:FuncData}(F:d3 K "_law_shows" "_law_shows" gQ f fd)(T:Txt K mg)(DB:kA P w K mg base "_law_behind" iF ["_law_ends", "_law_beads"] 1 uO) :
  aM P w K mg base cW 2 f fd ["_law_moves", "_law_start", "_law_row"] rZ:=by
 refine F.oK h9 λcdv A outer s H vs Q E hr h=>?_
 ·obtain⟨a,dm,as,ms,st,r,x,t,rfl,ha,D,so,has,hr5,hle,hcr,kk⟩:=h
  have hsl:=E1
  have hu:=gh hr
  have hu0:=hr.p9
  refine⟨_,ah (eR 3 h9 (bZ ag))
   (ah (eR 4 h9 (pv 1))
   (ah (dU Fg rfl (bh (pv 2)) (la 5 h9)
    (ah (cj (gI (hV hu (pv 5) (pv 0))) (aq (aH iN)) aZ)
    (ah (qX (jR DB hr (aa (eX hu (pv 0) (pv 5) (λ_ _=>rfl)) (aa (pv 4) ag))) (gy rfl (aY (la 6 h9) (aY (la 4 h9) eV))))
    (aq (bD (gS E6 E9 Fb bC (pv 3) (aa (pv 6) ag)))))))
   (aq (aH (dZ uV (pv 3) (aK jl (aK Ao (bZ (aa fF ag)) (aK qa (aD bu rfl T.len dM (aa (pv 2) ag)) av)) (bZ (aa fF ag))) (cu _)))))),?_⟩
  clear hu
  dsimp only[bz,Cx.ff]
  have nnd:=so.nd
  have l1:(r++[x]).length=r.length+1:=by simp
  refine⟨EV _,λwa nwa=>?_⟩
  have s1:au H (upd H wa (.lst [])):=ak nwa
  have h1:(upd H wa (.lst [])) wa=some (.lst (aw (rK r.length 0))):=by rw[ae];unfold rK;rw[if_pos (Nat.zero_le _)];rfl
  generalize upd H wa (.lst [])=H1 at s1 h1 ⊢
  refine⟨_,rfl,?_⟩
  refine⟨_,rfl,a,rfl,⟨_,aR.of (s1 _ _ ha)⟩,cO (K:=K) (a:=a) (xs:=aw (r++[x])) (C7 H dm as a wa ms st r) ⟨none,none,as,rfl,s1,h1,λ_=>⟨aI st,s1 _ _ has,.nil⟩⟩ (λi σ H2 _ h=>aR.of (h.same _ _ ha)) ?_ ?_⟩
  ·rintro i v σ H2 hi ⟨v5,v6,q,rfl,sm,hw,hiu⟩
   obtain⟨y,hy,rfl⟩:=cz hi
   have hil:i<r.length+1:=by
    have:=(EF.mp hy).1
    rwa[l1]at this
   obtain⟨u,hq,hlu⟩:=hiu (by lia)
   have hfu:=qI so hlu
   have l12:=hfu.len so
   have lw:=xU (n:=r.length) (i:=i)
   rcases Nat.lt_or_eq_of_le (show i<=r.length by lia) with hlt|heq
   ·obtain⟨u',hu'⟩:=hle.take (i+1)
    rw[ar (EA hlt)]at hu'
    obtain⟨u2,hl2,hmay,eu'⟩:=hu'.inv
    have e2:=hlu.det hl2
    subst e2
    obtain⟨m,hm,hmy,c1,c2,eb,hfb⟩:=kI so hfu hmay
    have ey:y=m.1:=by
     rw[FO hlt,EA hlt]at hy
     rw[hmy]
     exact(EO hy).symm
    subst ey
    obtain⟨vv,dg,mv⟩:=(D.same sm).get nnd hm
    obtain⟨te,rfl,hse⟩:=vO.step mv
    refine⟨_,rfl,_,rfl,dm,_,rfl,dg,_,rfl,?_⟩
    refine br ?_
    refine⟨_,rfl,_,rfl,dm,_,rfl,dg,_,rfl,te,q,m.2.1,m.2.2,u,rfl,hse,so.mv m hm,hq,hfu.ris.nd,by lia,(λc=>absurd (c1.symm.trans c) (by simp)),(λ_ c=>absurd (c2.symm.trans c) (by simp)),λ_ _ H3 t3 q3 s3 hq3 ht3=>?_⟩
    refine⟨t3,_,rfl,cT.of ht3,rfl,_,_,rfl,_,_,rfl,rfl,?_⟩
    refine⟨_,rfl,.inl ⟨rfl,_,aR.of (s3 _ _ hw)⟩,_,rfl,wa,_,_,rfl,rfl,s3 _ _ hw,by rw[ao];lia,?_⟩
    refine⟨_,_,q3,rfl,aF (sm.trans s3) nwa,by rw[ae,eF,AA hlt],λ_=>⟨behind m.2.1 m.2.2 u,?_,?_⟩⟩
    ·rw[af (aJ hq3 (s3 _ _ hw) (λz=>nomatch z))]
     exact hq3
    ·rw[ar (EA hlt)]
     have e3:=UfBfs.cg.snoc hlu hmay
     have e4:(graph ms).nxt u r[i]=behind m.2.1 m.2.2 u:=eb
     rw[e4]at e3
     exact e3
   ·subst heq
    rw[EN]at hlu
    have e2:=hle.det hlu
    subst e2
    obtain⟨m,hm,hmy,c1,c2⟩:=qJ nnd hcr
    have ey:y=m.1:=by
     rw[Hy (Ep _),Nat.sub_self]at hy
     rw[hmy]
     exact(EO hy).symm
    subst ey
    obtain⟨vv,dg,mv⟩:=(D.same sm).get nnd hm
    obtain⟨te,rfl,hse⟩:=vO.step mv
    refine⟨_,rfl,_,rfl,dm,_,rfl,dg,_,rfl,?_⟩
    refine br ?_
    refine⟨_,rfl,_,rfl,dm,_,rfl,dg,_,rfl,te,q,m.2.1,m.2.2,t,rfl,hse,so.mv m hm,hq,hfu.ris.nd,by lia,(λc=>absurd (c1.symm.trans c) (by simp)),λ_ _ H3 t3 s3 ht3=>?_,λ_ c=>absurd (c2.symm.trans c) (by simp)⟩
    refine⟨t3,_,rfl,cT.of ht3,rfl,_,_,rfl,_,_,rfl,rfl,?_⟩
    refine⟨_,rfl,.inl ⟨rfl,_,aR.of (s3 _ _ hw)⟩,_,rfl,wa,_,_,rfl,rfl,s3 _ _ hw,by rw[ao];lia,?_⟩
    exact⟨_,_,q,rfl,aF (sm.trans s3) nwa,by rw[ae,eF,zH],λc=>absurd c (by lia)⟩
  ·rintro σ H2 ⟨v5,v6,q,rfl,sm,hw,_⟩
   rw[ao,l1]at hw
   refine⟨_,rfl,by show 1<=sizeLine;lia,λl nl=>?_⟩
   refine xF nl λH3 s3 h3=>?_
   refine⟨_,rfl,_,r.length+1,rfl,.inl ⟨_,aR.of (s3 _ _ (sm _ _ ha)),by rw[ao,l1]⟩,_,_,rfl,rfl,l,_,_,rfl,rfl,h3,by lia,by lia,?_,λl2 nl2=>?_⟩
   ·show 1*_<=sizeLine
    lia
   have er:(((r.length+1:Nat):Int)-1).toNat=r.length:=by lia
   rw[er]
   have ef:(List.replicate r.length [V.str "done"]).flatten=aw (List.replicate r.length "done"):=by
    unfold aw
    rw[List.map_replicate]
    induction r.length with
    |zero=>rfl
    |succ n ih=>rw[Fl,Hk,ih,Fl];rfl
   rw[ef]
   refine xF nl2 λH4 s4 h4=>?_
   refine⟨by show 1<=sizeLine;lia,λl3 nl3=>?_⟩
   have s5:au H4 (upd H4 l3 (.lst [V.str "full"])):=ak nl3
   have h5:(upd H4 l3 (.lst [V.str "full"])) l3=some (.lst [V.str "full"]):=ae
   have h45:=s5 _ _ h4
   generalize upd H4 l3 (.lst [V.str "full"])=H5 at s5 h5 h45 ⊢
   refine⟨l2,l3,_,_,rfl,rfl,h45,h5,by rw[ao,FQ];show _+1<=_;lia,λl4 nl4=>?_⟩
   have ew:aw (List.replicate r.length "done")++[V.str "full"]=aw (rK r.length (r.length+1)):=by
    rw[eF]
    unfold rK
    rw[Ex (by lia)]
   rw[ew]
   have s6:au H5 (upd H5 l4 (.lst (aw (rK r.length (r.length+1))))):=ak nl4
   have s26:=s3.trans (s4.trans (s5.trans s6))
   refine⟨wa,l4,_,_,rfl,rfl,?_,aR.of (s26 _ _ hw),aR.of ae,jY (eJ _),?_⟩
   ·exact gh hr
   ·exact kk _ (sm.trans s26)
end Uf
end
section
namespace L2
open PySem PySem.Spec PyProof.Rows UfX
def j9(CX:pX)(X:Cx)(σ:St)(E:XK):Prop:=∀(pins:List (Addr×Obj)) (H:Hp) (s:Shared) (e:Value) (s':Shared),Inv X pins σ H s->CX X.stack H s E e s'->X.xe e s'
def yH(X:Cx)(B:Addr)(i:Nat)(th:Addr->TS)(D:Ends)(σ:St):XK:=λcls dx H=>∃C,cls=.ref C/\qO X.K C B/\∀a,H a=none->th a (mD i D) (σ.set i (some (.ref a))) (upd H a (cS a (.ref C) dx))
section
variable {X:Cx}{pins:List (Addr×Obj)}{D:Ends}{B:Addr}{i:Nat}{n cn:Str}{np hpos:Pos}{b0:Stmt}{suite:List Stmt}{th:Addr->TS}
def Bn(hst:X.stack=X.env::X.outer)(hfr:X.env.frame=some X.env.locals)(hex:X.ex=[])(hN:X.N.Nodup)(hi:X.N[i]?=some n)(hk:X.env.scope.names.lookup n=some .local)(hg:Gl X cn)(hm:X.mg cn=some (.ref B))(hd:(cn==("__debug__":Str))=false)
  (hsu:∀a,lK (X.held a) (b0::suite) (th a)) :
  ∀σ:St,j9 (sk X.prog X.w) (X.ic pins D [.ExceptHandler (some (.Name cn np)) (some n) (b0::suite) hpos]) σ (yH X B i th D σ):=λσ pins' H1 s1 e s' I h=>by
 obtain⟨a,T,cls,a0,dx,H',rfl,os,bare,un,hok,x,na,nT,ha,hT,C,rfl,U,q⟩:=h
 have J:=(I.wX os un hok bare λb z=>absurd z (by simp)).fQ
 have up:∀b,s1.heap.get? b=none->X.s₀.heap.get? b=none:=λb hb=>by
  cases z:X.s₀.heap.get? b with
  |none=>rfl
  |some o =>
   obtain⟨o',h3⟩:=I.base.there b o z (by show b∉X.ex;rw[hex];simp)
   rw[hb]at h3
   cases h3
 have pa:∀b,s1.heap.get? b=none->∀p∈X.pn++pins,p.1≠b:=λb hb p hp z=>by
  have:=(I.pin p (Fc _ hp)).1
  rw[z,hb]at this
  cases this
 obtain⟨oa,va,hoa,_,_,hda,_,_,hsT⟩:=id x
 obtain⟨_,_,oT,vT,hoT,hdT,_⟩:=hsT T rfl
 have hst':X.A.frames=some (X.env::X.outer):=by rw[<-hst];exact J.ok.frames
 have hff:s'.heap.FunFrames X.base (X.env::X.outer):=by rw[<-hst];exact J.stack
 refine UfX.land (base:=X.base) hst' hff hfr x λh2 T2 x2 lT st=>?_
 have st1:UfX.Step (fJ X.stack) a (some T) s'.heap h2:=by rw[hst];exact st
 have J1:=J.flew st1 hoa hda ha (up a na) (λT' z=>by cases z;exact⟨hT,up T nT,oT,vT,hoT,hdT⟩) (λp hp=>⟨pa a na p hp,λz=>pa T nT p hp (EO z).symm⟩) hex
 have hT2:H' T2=none:=J.hok.fresh lT
 have uT2:X.s₀.heap.get? T2=none:=FH (ET J.sz lT)
 obtain⟨⟨cn1,cq,N,bases,tl,hasD,sn,subs,ab,col,cdd,l0,l1,l2,l3,l5,nw,hC,hsub⟩,⟨bn,bq,NB,bases',tl',hasD',sn',subs',ab',col',cdd',m0,m1,m2,m3,m5,nw',hB,hbb⟩⟩:=U
 obtain⟨oa2,va2,hoa2,hcl2,hdx2,hda2,h02,hn2,hs2⟩:=id x2
 refine wpAny_handleBy_cons (codeAny_handlers_test (Gy J1.ok.kind hg (HM (by rw[J1.ok.glob];exact J1.mod.glob.keeps J1.bk) hm ?_) hd)) (λz=>nomatch z)
 refine UfX.tY (J1.eD _ _ hC) (J1.eD _ _ hB) hoa2 hcl2 hbb hsub (codeAny_handlers_suite_as ?_)
 have nTf:T2∉fJ X.stack:=λhm2=>by
  obtain⟨_,o,ho,hnf⟩:=J1.stack.mem hm2
  obtain⟨_,_,oT2,vT2,hoT2,hdT2,_⟩:=hs2 T2 rfl
  rw[hoT2]at ho
  cases ho
  exact hnf _ hdT2
 refine UfX.again (fr:=fJ X.stack) x2 nTf λh3 x3 st3=>?_
 obtain⟨_,_,oT2,vT2,hoT2,hdT2,_⟩:=hs2 T2 rfl
 have J2:=J1.flew st3 hoa2 hda2 ha (up a na) (λT' z=>by cases z;exact⟨hT2,uT2,oT2,vT2,hoT2,hdT2⟩) (λp hp=>⟨pa a na p hp,λz=>by
  have e1:=(J.pin p hp).1
  rw[<-EO z]at e1
  exact absurd (EE (Er e1) lT) (Fe _)⟩) hex
 obtain⟨oa3,va3,hoa3,hcl3,hdx3,hda3,_,_,_⟩:=id x3
 have aL:a≠X.env.locals:=λz=>by
  obtain⟨m,⟨o,es,ep,ho,hd',_⟩,_⟩:=J2.loc
  rw[<-z]at ho
  have ho:h3.get? a=some o:=ho
  rw[hoa3]at ho
  cases ho
  rw[hda3]at hd'
  cases hd'
 have aC:∀y c,X.env.cells.lookup y=some c->c≠a:=λy c hy z=>by
  obtain⟨v,o,ho,hd'⟩:=J2.cell y c hy
  rw[z]at ho
  have ho:h3.get? a=some o:=ho
  rw[hoa3]at ho
  cases ho
  rw[hda3]at hd'
  cases hd'
 have J3:=J2.By (a:=a) (φ:=eE a (.ref C) dx) ha (up a na) aL aC (pa a na) (eE.ok ⟨oa3,va3,hoa3,hcl3,hdx3,hda3⟩)
 have J4:=J3
 refine iW J4 hN hi (Or.inl hk) (v:=.ref a) rfl (λs5 I5=>?_) (.inr hk)
 have run:=hsu a pins s5 _ _ (mD i D) (I5.held a) (q a ha)
 have behind:∀{σ':St} {H5:Hp} {s6:Shared} {R:Shared->Prop},Inv X pins σ' H5 s6->(∀s7,Inv X pins (σ'.set i none) H5 s7->R s7) ->
   wpAny (model X.prog X.w) X.A (do bindName X.env n .none;unbindBehindTheSuite X.env n hpos) (λ_ s7=>R s7) X.xe s6:=λ{σ' H5 s6 R} K1 k1=>by
  have lt:i<σ'.length:=by rw[K1.len];exact(EF.mp hi).1
  refine Em (wpAny_bindName (iW K1 hN hi (Or.inl hk) (v:=.non) rfl (λs7 K2=>?_) (.inr hk)))
  exact wpAny_onRaise (sI K2 hN hi hk lt λs8 K3=>k1 s8 K3)
 refine Fy run (λf s6 hf=>?_) λ_ _ z=>False.elim z
 have ok:=J4.ok
 cases f with
 |next=>obtain⟨σ',H5,K1,z⟩:=hf;exact behind (K1.mY ok) λs7 K2=>⟨_,_,K2,z⟩
 |brk=>obtain⟨σ',H5,K1,z⟩:=hf;exact behind (K1.mY ok) λs7 K2=>⟨_,_,K2,z⟩
 |cont=>obtain⟨σ',H5,K1,z⟩:=hf;exact behind (K1.mY ok) λs7 K2=>⟨_,_,K2,z⟩
 |ret u=>obtain⟨v,σ',H5,K1,rv,z⟩:=hf;exact behind (K1.mY ok) λs7 K2=>⟨v,_,_,K2,rv,z⟩
end
section
variable {X:Cx}{CX:pX}{k:Nat}{f C:Addr}{fd:FuncData}{ps:List Str}{sp:Sp}{dvs:List V}{ds:List Value}{E:XK}{x m:Str}{p pos apos:Pos}{e o:Expr}{es:List Expr}{ta:TE}{t:TA}
def sO{pins:List (Addr×Obj)}{σ:St}{H:Hp}{s:Shared}{Q:VK}{us:List Value}{vs:List V}(M:Mk X.K C f)(F:aM X.prog X.w X.K X.mg X.base CX k f fd ps sp)(hr:bB (k+1) X.A)(hb:Binds X.K fd ps ds)(hd:Vals dvs ds)
  (hx:j9 CX X σ E) (I:Inv X pins σ H s) (r:Vals vs us)
  (h:∀x dx,H x=none->H dx=none->dx≠x->sp (.ref x::(vs++dvs)) (upd (upd H dx (.own x)) x (.ins C dx [])) (λv H2=>v=.non/\Q (.ref x) H2) E) :
  wpAny (model X.prog X.w) X.A (call (.ref C) us) (EP X pins σ Q) X.xe s:=by
 have hq:=h (s.heap.objs.size+1) s.heap.objs.size (I.hok.fresh (Fq _)) (I.hok.fresh (Ep _)) (Ez (FI _))
 have I2:=Inv.made (C:=C) I
 have r2:Vals (V.ref (s.heap.objs.size+1)::(vs++dvs)) (Value.ref (s.heap.objs.size+1)::(us++ds)):=.cons rfl (r.append hd)
 have hl:(Value.ref (s.heap.objs.size+1)::us++ds).length=ps.length:=by
  have e:=r2.length
  rw[F.len _ _ _ _ hq]at e
  exact e.symm
 refine Hd (o5 (f:=f) I.eD M.makes M.init (Hc.mp M.fn) (FL (F.run _ X.stack _ _ ⟨Value.ref (s.heap.objs.size+1)::us,[]⟩ (Value.ref (s.heap.objs.size+1)::(us++ds)) _ _ E (hr.make C us [])
  (I2.vU.make C us []) (hb _ (Value.ref (s.heap.objs.size+1)::us) I2.eD hl) r2 hq) λr s' hq'=>?_))
 cases r with
 |error e=>exact hx pins _ _ e s' I2 hq'
 |ok fl =>
  cases fl with
  |ret u =>
   obtain⟨v,H',I3,rv,ev,q3⟩:=I2.after hq'
   subst ev
   exact⟨rv,⟨V.ref (s.heap.objs.size+1),H',I3,rfl,q3⟩⟩
  |next=>exact False.elim hq'
  |brk=>exact False.elim hq'
  |cont=>exact False.elim hq'
def xr{E:St->XK}(M:Mk X.K C f)(F:aM X.prog X.w X.K X.mg X.base CX k f fd ps sp)(hr:bB (k+1) X.A)(hg:Gl X x)(hm:X.mg x=some (.ref C))(hb:Binds X.K fd ps ds)(hd:Vals dvs ds)(hx:∀σ,j9 CX X σ (E σ))
  (ha:PA X (e::es) t) (hdb:(x==("__debug__":Str))=false:=by decide) (he:starEach (e::es) X.env=(false,eval e X.env)::starEach es X.env:=by rfl) (hpl:(backTo pos (starEach es X.env)).any (·.1)=false:=by rfl) :
  PE X (.Call (.Name x p) (e::es) [] pos) (λσ H Q=>zr C sp dvs (E σ) t σ H Q):=by
 intro pins s σ H Q I h
 refine Fp (gg I hg hm ?_ hdb)
 refine Gd (h₀:=X.base) I.ok.mod.kin M.kp (bo (ha pos pins s σ H _ I h) λus s1 ⟨vs,H1,I1,r,q⟩=>⟨I1.eD,?_⟩) he hpl
 exact sO M F hr hb hd (hx σ) I1 r q
end
end L2
end
section
namespace Uf
open PySem L2 UfSrt UfFin
def Eg:bootBuiltins "ValueError"=some (.type "ValueError"):=by decide +kernel
structure zx(mg:Str->Option Value)(NE CR CL CF CH CE CO CC CA CM CN CP CW CS CX CY CI:Addr):Prop where
 ne:mg "NetError"=some (.ref NE)
 cr:mg "Crowded"=some (.ref CR)
 cl:mg "Clash"=some (.ref CL)
 cf:mg "Full"=some (.ref CF)
 ch:mg "Held"=some (.ref CH)
 ce:mg "NoName"=some (.ref CE)
 co:mg "NoNet"=some (.ref CO)
 cc:mg "NoOccurrence"=some (.ref CC)
 ca:mg "Apart"=some (.ref CA)
 cm:mg "Misfit"=some (.ref CM)
 cn:mg "NoMove"=some (.ref CN)
 cp:mg "NoPlace"=some (.ref CP)
 cw:mg "NoRow"=some (.ref CW)
 cs:mg "NoSpot"=some (.ref CS)
 cx:mg "NoText"=some (.ref CX)
 cy:mg "TooMany"=some (.ref CY)
 ci:mg "Twice"=some (.ref CI)
 ve:mg "ValueError"=none
structure wU(K:PySem.W.Frag)(NE CR CL CF CH CE CO CC CA CM CN CP CW CS CX CY CI:Addr):Prop where
 un:qO K CR NE
 ei:tw K CR
 eg:Ac K CR "row"
 k0:PySem.W.kitOne K (.ref CR) (.ref CR)=some true
 kv:PySem.W.kitOne K (.ref CR) (.type "ValueError")=some true
 ka:PySem.W.kitAny K (.ref CR) [.ref CL,.ref CF,.ref CH,.ref CE,.ref CO,.ref CC,.ref CA,.ref CM]=some false
 kb:PySem.W.kitAny K (.ref CR) [.ref CN,.ref CP,.ref CW,.ref CS,.ref CX,.ref CY,.ref CI]=some false
inductive rN(C:Addr)(vs:List V)(H:Hp)(Q:VK)(E:XK):Prop
 |mk (d p rl bl:Addr) (ms:List Mv) (S:List Str) (_:vs=[.ref d,.ref p]) (_:H d=some (.tup [.ref rl,.ref bl])) (_:jr H rl ms) (_:H bl=some (.lst (aw S))) (_:ny ms S) (_:bK C H p ms S) (_:∀H',au H H'->Q (.bl true) H')
def dH:az ["_law_drawn", "_law_net", "_law_moves", "_law_name_here", "_law_takes", "_law_gives", "_law_start", "_law_least_here", "_law_row", "e"] ["_law_drawn", "_law_net"] (aj gE):=gm
inductive DE(H:Hp)(d p mo:Addr)(ms:List Mv)(i:Nat)(σ:St)(H2:Hp):Prop
 |mk (v3 v4 v5:Option V) (kvs:List (Key×V)) (q0:σ=[some (.ref d),some (.ref p),some (.ref mo),v3,v4,v5,none,none,none,none]) (q1:au H H2) (q2:H2 mo=some (.dK kvs)) (q3:MP H2 (ms.take i) kvs)
def DE.same{H:Hp}{d p mo:Addr}{ms:List Mv}{i:Nat}{σ:St}{H2:Hp}(h:DE H d p mo ms i σ H2):au H H2:=by
 cases h
 assumption
def vQ{f C CW fW NE CR CL CF CH CE CO CC CA CM CN CP CQ CS CX CY CI:Addr}{fd fdW:FuncData}(F:d3 K "_law_web_right" "_law_web_right" gE f fd)(T:Txt K mg)(M:zx mg NE CR CL CF CH CE CO CC CA CM CN CP CQ CS CX CY CI)(KR:wU K NE CR CL CF CH CE CO CC CA CM CN CP CQ CS CX CY CI)
  (mgW:mg "Web"=some (.ref CW)) (MW:Mk K CW fW) (bW:Binds K fdW ["self", "net"] []) (GW:aM P w K mg base (sk P w) 9 fW fdW ["self", "net"] (rQ C CW CR))
  (DL:kA P w K mg base "_law_least" gL ["_law_moves", "_law_start"] 2 rG)
  (DS:kA P w K mg base "_law_shows" gQ ["_law_moves", "_law_start", "_law_row"] 2 rZ) :
  aM P w K mg base (sk P w) 11 f fd ["_law_drawn", "_law_net"] (rN C):=by
 refine F.DI dH (λvs H Q E h=>?_) (λcdv A outer s H vs Q E hr h=>?_)
 ·obtain⟨d,p,rl,bl,ms,S,rfl,_⟩:=h
  rfl
 ·obtain⟨d,p,rl,bl,ms,S,rfl,hd,hrow,hbl,ok,N,kk⟩:=h
  have hsl:=E1
  have hu:=gh hr
  have hr2:bB 2 _:=hr.mono (by decide)
  refine⟨_,ah (eR 2 dH iC)
   (ah (dU PassesOwn.leaving rfl (bh (cN dC (pv 0) av (λ_ _=>rfl))) (gy rfl (aY (la 3 dH) (aY (la 4 dH) (aY (la 5 dH) eV))))
    (aq (gZ hu (pv 2) (pv 3) (dF (aa (pv 4) (aa (pv 5) ag))) rfl)))
   (ah (eR 6 dH (aX bE rfl T.tup fE (aa (aD dE rfl T.aI dO (aa (cN dC (pv 0) av (λ_ _=>rfl)) ag)) ag)))
   (ah (eR 7 dH (jR DL hr2 (aa (zO (pv 2)) (aa (pv 6) ag))))
   (ah (eR 8 dH jx)
   (ah (Az (λD pins=>aq (bD (xr MW GW hr rfl mgW bW .nil
    (Bn (i:=9) rfl rfl rfl dH.nd rfl rfl rfl M.ne rfl (λxa =>
     ah (cj (PW.pt (pw_or (cK (bU (aD fL rfl T.isi lQ (aa (pv 9) (aa (bb (v:=.ref CR) rfl M.cr rfl) ag))))) (pw_or1 (bU (aD fL rfl T.isi lQ (aa (pv 9) (aa (dF (aa (bb (v:=.ref CL) rfl M.cl rfl) (aa (bb (v:=.ref CF) rfl M.cf rfl) (aa (bb (v:=.ref CH) rfl M.ch rfl) (aa (bb (v:=.ref CE) rfl M.ce rfl) (aa (bb (v:=.ref CO) rfl M.co rfl) (aa (bb (v:=.ref CC) rfl M.cc rfl) (aa (bb (v:=.ref CA) rfl M.ca rfl) (aa (bb (v:=.ref CM) rfl M.cm rfl) ag))))))))) ag))))))) (aq (aH iN)) aZ)
     (ah (cj (PW.pt (pw_or (bU (aD fL rfl T.isi lQ (aa (pv 9) (aa (dF (aa (bb (v:=.ref CN) rfl M.cn rfl) (aa (bb (v:=.ref CP) rfl M.cp rfl) (aa (bb (v:=.ref CQ) rfl M.cw rfl) (aa (bb (v:=.ref CS) rfl M.cs rfl) (aa (bb (v:=.ref CX) rfl M.cx rfl) (aa (bb (v:=.ref CY) rfl M.cy rfl) (aa (bb (v:=.ref CI) rfl M.ci rfl) ag)))))))) ag)))) (pw_or1 (cK (bU (aD fL rfl T.isi lQ (aa (pv 9) (aa (mZ (v:=.ty "ValueError") rfl M.ve Eg rfl) ag)))))))) (aq (aH iN)) aZ)
     (aq (eR 8 dH (qp (pv 9) rfl))))))
    (aa (pv 1) ag)))))
   (ah (cj (gI (vq (pv 7))) (aq (aH (Ak (vq (pv 8))))) aZ)
   (ah (cj (PW.pt (pw_or (cK (bU (aD oV rfl T.isi lQ (aa (pv 8) (aa (mZ (v:=.ty "list") rfl T.lst dS rfl) ag))))) (pw_or (bH BJ (aD bu rfl T.len dM (aa (pv 8) ag)) (pv 7) (cu _)) (pw_or1 (cK (bU (jR DS hr2 (aa (pv 2) (aa (pv 6) (aa (pv 8) ag)))))))))) (aq (aH iN)) aZ)
   (ah (bD (wd E6 PySem.F.slot_list_clear PySem.F.type_list_clear vC (pv 8)))
   (aq (aH iN)))))))))),?_⟩
  clear hu
  dsimp only[bz,Cx.ff]
  intro mo nmo
  refine xF nmo λH1 s1 h1=>?_
  obtain⟨qs,hqs,pqs⟩:=id hrow
  have lqs:=EW pqs
  have so:=j3 ok.net
  have lm:=so.ml
  refine⟨_,rfl,d,_,0,_,rfl,rfl,cT.of (s1 _ _ hd),bY (j:=0) rfl,rl,rfl,⟨_,aR.of (s1 _ _ hqs)⟩,cO (K:=K) (a:=rl) (xs:=qs.map V.ref) (DE H d p mo ms) ⟨none,none,none,[],rfl,s1,h1,.nil⟩ (λi σ H2 _ h=>aR.of (h.same _ _ hqs)) ?_ ?_⟩
  ·rintro i v σ H2 hi ⟨v3,v4,v5,kvs,rfl,s2,hmo,mp⟩
   obtain⟨q,hq,rfl⟩:=cX hi
   obtain⟨m,hm,l,g,e1,e2,e3⟩:=bf pqs hq
   refine⟨q,_,rfl,cT.of (s2 _ _ e1),rfl,_,_,rfl,_,_,rfl,_,_,rfl,rfl,?_⟩
   refine⟨_,rfl,_,rfl,by show 2<=sizeLine;lia,λt nt=>?_⟩
   refine xF nt λH3 s3 ht=>?_
   have hmo3:=s3 _ _ hmo
   have lkv:kvs.length=(ms.take i).length:=(EW mp).symm
   refine⟨_,rfl,_,rfl,mo,_,rfl,jK.k (k:=Sum.inr m.1) hmo3 (jt (by rw[lkv,EL];lia)),?_⟩
   have hnew:m.1∉names (ms.take i):=λz=>by
    have nd:=so.nd
    have e:names ms=names (ms.take i)++names (ms.drop i):=by
     unfold names
     rw[<-EI,FT]
    rw[e]at nd
    have hin:m.1∈names (ms.drop i):=by
     refine EH.mpr ⟨m,?_,rfl⟩
     refine EC (i:=0) ?_
     rw[IB]
     exact hm
    exact(Fw.mp nd).2.2 _ z _ hin rfl
   have pk:putK kvs (Sum.inr m.1:Key) (V.ref t)=kvs++[(Sum.inr m.1,V.ref t)]:=fm _ (mp.none hnew)
   rw[pk]
   refine⟨_,_,_,_,rfl,aF (s2.trans s3) nmo,ae,?_⟩
   rw[ar hm]
   refine FW ((mp.same s3).put hmo3) ⟨rfl,t,l,g,rfl,?_,?_,?_⟩
   ·rw[af (aJ ht hmo3 (λz=>nomatch z))];exact ht
   ·have e2':=(s2.trans s3) _ _ e2
    rw[af (aJ e2' hmo3 (λz=>nomatch z))];exact e2'
   ·have e3':=(s2.trans s3) _ _ e3
    rw[af (aJ e3' hmo3 (λz=>nomatch z))];exact e3'
  rintro σ H2 ⟨v3,v4,v5,kvs,rfl,s2,hmo,mp⟩
  rw[Et,<-lqs,EN]at mp
  refine⟨_,rfl,d,_,1,_,rfl,rfl,cT.of (s2 _ _ hd),bY (j:=1) rfl,bl,S,rfl,aR.of (s2 _ _ hbl),by have:=so.Dj;lia,λq2 nq2=>⟨q2,_,rfl,.inl ⟨aR.of ae,λas nas=>?_⟩⟩⟩
  have s3:=(ak (o:=.lst (aw (aI S))) nq2).trans (ak (o:=.tup (aw (aI S))) nas)
  have has:(upd (upd H2 q2 (.lst (aw (aI S)))) as (.tup (aw (aI S)))) as=some (.tup (aw (aI S))):=ae
  generalize upd (upd H2 q2 (.lst (aw (aI S)))) as (.tup (aw (aI S)))=H3 at s3 has ⊢
  have hmo3:=s3 _ _ hmo
  refine⟨_,rfl,mo,kvs,rfl,hmo3,λo=>?_⟩
  have f4:(upd H3 mo (.frz o (.dK kvs))) mo=some (.frz o (.dK kvs)):=ae
  have mp4:=MP.put (o:=.frz o (.dK kvs)) hmo3 (mp.same s3)
  have s4:au H (upd H3 mo (.frz o (.dK kvs))):=aF (s2.trans s3) nmo
  have has4:(upd H3 mo (.frz o (.dK kvs))) as=some (.tup (aw (aI S))):=by rw[af (aJ has hmo3 (λz=>nomatch z))];exact has
  generalize upd H3 mo (.frz o (.dK kvs))=H4 at f4 mp4 s4 has4 ⊢
  have D4:gH H4 mo ms:=⟨o,kvs,f4,mp4⟩
  have N4:bK C H4 p ms S:=N.same s4
  refine⟨_,rfl,mo,as,ms,S,rfl,D4,so,has4,λH5 s5 hno=>?_,λH5 dd t s5 hat hbad hmin=>?_⟩
  ·refine⟨_,rfl,λx dx nx ndx nex=>?_⟩
   have sn:au H5 (upd (upd H5 dx (.own x)) x (.ins CW dx [])):=λb o e=>by
    rw[af (ai e nx),af (ai e ndx)]
    exact e
   refine⟨x,dx,p,ms,S,rfl,ae,(N4.same s5).same sn,λrow hr _=>?_,λ_ H6 _ keep=>⟨rfl,?_⟩⟩
   ·exfalso
    obtain⟨r,t,m,rfl,hl,hb,_⟩:=hr
    have h0:=hno r.length t ⟨r,rfl,hl⟩
    have hb:cU ms t=some m:=hb
    rw[h0]at hb
    cases hb
   ·have s6:au H5 H6:=λb o e=>keep b o (sn b o e) (ai e nx)
    refine⟨_,rfl,_,rfl,?_⟩
    refine bM ?_
    refine⟨_,rfl,?_⟩
    exact kk H6 (s4.trans (s5.trans s6))
  ·refine⟨_,rfl,λx dx nx ndx nex=>?_⟩
   have sn:au H5 (upd (upd H5 dx (.own x)) x (.ins CW dx [])):=λb o e=>by
    rw[af (ai e nx),af (ai e ndx)]
    exact e
   refine⟨x,dx,p,ms,S,rfl,ae,(N4.same s5).same sn,λrow hr hl5=>?_,λhn=>absurd (hn dd t hat) hbad⟩
   intro H6 dx6 q6 s6 nq6 hx6 hq6
   have nq5:H5 q6=none:=sn.free nq6
   have s56:=sn.trans s6
   obtain⟨r,t2,m,rfl,hl,hb,hmin2⟩:=hr
   have edd:r.length=dd:=by
    have a1:=hmin2 dd t hat hbad
    have a2:=hmin r.length t2 ⟨r,rfl,hl⟩ (by have hb:cU ms t2=some m:=hb;rw[hb];simp)
    lia
   refine⟨CR,rfl,KR.un,λe ne=>?_⟩
   have s7:au H6 (upd H6 e (cS e (.ref CR) (some dx6))):=ak ne
   have he:(upd H6 e (cS e (.ref CR) (some dx6))) e=some (cS e (.ref CR) (some dx6)):=ae
   have hx7:=s7 _ _ hx6
   have hq7:=s7 _ _ hq6
   generalize upd H6 e (cS e (.ref CR) (some dx6))=H7 at s7 he hx7 hq7 ⊢
   refine⟨_,rfl,e,CR,dx6,_,_,true,rfl,he,hx7,KR.ei,?_,.inl ⟨(λz=>nomatch z),KR.k0⟩⟩
   refine⟨_,rfl,?_⟩
   refine br ?_
   refine⟨_,rfl,by show 8<=sizeLine;lia,λtp ntp=>?_⟩
   refine xF ntp λH8 s8 htp=>?_
   refine⟨e,CR,dx6,_,_,false,rfl,s8 _ _ he,s8 _ _ hx7,KR.ei,?_,.inr ⟨tp,_,rfl,htp,(λd hd=>by simp at hd;rcases hd with rfl|rfl|rfl|rfl|rfl|rfl|rfl|rfl <;> exactλz=>nomatch z),KR.ka⟩⟩
   refine⟨_,rfl,?_⟩
   refine br ?_
   refine⟨_,rfl,by show 7<=sizeLine;lia,λtp2 ntp2=>?_⟩
   refine xF ntp2 λH9 s9 htp2=>?_
   have he9:=(s8.trans s9) _ _ he
   have hx9:=(s8.trans s9) _ _ hx7
   have hq9:=(s8.trans s9) _ _ hq7
   refine⟨e,CR,dx6,_,_,false,rfl,he9,hx9,KR.ei,?_,.inr ⟨tp2,_,rfl,htp2,(λd hd=>by simp at hd;rcases hd with rfl|rfl|rfl|rfl|rfl|rfl|rfl <;> exactλz=>nomatch z),KR.kb⟩⟩
   refine⟨_,rfl,?_⟩
   refine br ?_
   refine⟨_,rfl,e,CR,dx6,_,_,true,rfl,he9,hx9,KR.ei,?_,.inl ⟨(λz=>nomatch z),KR.kv⟩⟩
   refine⟨_,rfl,?_⟩
   refine br ?_
   refine⟨_,rfl,e,CR,dx6,_,q6,rfl,he9,hx9,KR.eg,by simp[List.lookup],?_⟩
   have s59:=s56.trans (s7.trans (s8.trans s9))
   have s09:=s4.trans (s5.trans s59)
   have s49:=s5.trans s59
   have l1:(r++[m]).length=dd+1:=by rw[Eu,edd];rfl
   refine⟨_,rfl,_,rfl,?_⟩
   refine br ?_
   refine⟨_,rfl,_, "list",_,true,rfl,iq.lst hq9,(by rfl),true,rfl,?_⟩
   refine br ?_
   refine⟨_,rfl,_,dd+1,rfl,.inl ⟨_,aR.of hq9,by rw[ao,l1]⟩,_,rfl,rfl,_,rfl,?_⟩
   refine Bm (by simp) ?_
   have r5:r.length<=5000:=by rw[Eu]at hl5;exact Nat.le_of_succ_le_succ hl5
   refine⟨_,rfl,_,rfl,_,rfl,q6,mo,as,ms,S,r,m,t2,rfl,hq9,D4.same s49,so,s49 _ _ has4,r5,hl,hb,λH10 s10=>⟨_,rfl,?_⟩⟩
   refine br ?_
   refine⟨_,rfl,.inl ⟨rfl,_,aR.of (s10 _ _ hq9)⟩,q6,_,rfl,rfl,s10 _ _ hq9,?_⟩
   exact kk _ (aF (s09.trans s10) (s4.free (s5.free nq5)))
inductive rT(K:PySem.W.Frag)(vs:List V)(H:Hp)(Q:VK)(E:XK):Prop
 |mk (a:Addr) (ns:List Int) (_:vs=[.ref a]) (_:aR K H a (ns.map V.int)) (_:ns.length<=63) (_:H TB=some wx) (_:∀H',Q (.bl true) H')
def uH:az ["_law_script", "_law_drawn", "_law_net"] ["_law_script"] (aj m6):=gm
def Ae{f C fRi:Addr}{fd fdRi:FuncData}(F:d3 K "law" "law" m6 f fd)
  (DWi:kA P w K mg base "_law_wild" jI ["_law_script"] 2 (vd K))
  (DMa:kA P w K mg base "_law_made" jG ["_law_drawn"] 7 (uT C))
  (DRi:Def K mg "_law_web_right" gE ["_law_drawn", "_law_net"] fRi fdRi) (GRi:aM P w K mg base (sk P w) 11 fRi fdRi ["_law_drawn", "_law_net"] (rN C)) :
  aM P w K mg base (sk P w) 12 f fd ["_law_script"] (rT K):=by
 refine F.DI uH (λvs H Q E h=>?_) (λcdv A outer s H vs Q E hr h=>?_)
 ·obtain⟨a,ns,rfl,_⟩:=h
  rfl
 ·obtain⟨a,ns,rfl,ha,hz,tb,kk⟩:=h
  have hr2:bB 2 _:=hr.mono (by decide)
  have hr7:bB 7 _:=hr.mono (by decide)
  refine⟨_,ah (eR 1 uH (jR DWi hr2 (aa (pv 0) ag)))
   (ah (eR 2 uH (jR DMa hr7 (aa (pv 1) ag)))
   (aq (aH (nj (cH GRi hr rfl DRi.mg DRi.fn.kp DRi.bd .nil zG (aa (pv 1) (aa (pv 2) ag))) (m9 (cH GRi hr rfl DRi.mg DRi.fn.kp DRi.bd .nil zG (aa (pv 1) (aa (pv 2) ag)))))))),?_⟩
  try dsimp only[bz,Cx.ff,Cx.cG]
  refine⟨_,rfl,a,ns,rfl,ha,hz,λH1 d rl bl ms S s1 hd hrow hbl ok=>?_⟩
  refine⟨_,rfl,d,rl,bl,ms,S,rfl,hd,hrow,hbl,ok,s1 _ _ tb,λH2 p s2 N=>?_⟩
  refine⟨_,rfl,_,rfl,d,p,rl,bl,ms,S,rfl,s2 _ _ hd,hrow.same s2,s2 _ _ hbl,ok,N,λH3 s3=>⟨_,rfl,?_⟩⟩
  refine bM ?_
  have s23:=s2.trans s3
  exact⟨_,rfl,_,rfl,d,p,rl,bl,ms,S,rfl,s23 _ _ hd,hrow.same s23,s23 _ _ hbl,ok,N.same s3,λH4 _=>kk H4⟩
end Uf
end
section
namespace Att
open PySem PySem.W PySem.Calls PyProof.Rows
theorem mz{n:Int}:∀{ns:List Int},n∈ns->WData.weight (.int n)<=WData.weightAll (ns.map WData.int)
 |m::ns,h=>by
  rw[Ff,WData.weightAll]
  rcases EB.mp h with z|z
  ·rw[z]
   lia
  ·have:=mz z
   lia
def tJ{ns:List Int}(h:WData.layableAll [WData.list (ns.map WData.int)]=true){n:Int}(hn:n∈ns):Builtin.Int.intBits n<=2 ^ 20:=by
 unfold WData.layableAll WData.layable at h
 rw[Hz,GQ,GQ,GQ,HR,HR]at h
 have h1:=h.1.2
 rw[WData.weight]at h1
 have h2:=ET (mz hn) h1
 rw[WData.weight]at h2
 exact h2
def nI{l:OpenLaw}{n:Nat}{q:Program}{loose:List Str}{XP:(Str->Option Value)->Heap->Prop}{YP:World->Heap->Prop}{d:DefRec}
  (hn:l.most=some n) (hdf:d.params.defaults=[])
  (call:∀(w:World) (s₀ s₁:Shared) (mg mb:Str->Option Value) (fa:Addr) (o:Obj) (pm cd doc:Value) (a:Addr) (vs:List Value) (ns:List Int),
   Ground q loose [] XP w s₀ mg mb s₁.heap->YP w s₁.heap ->
   s₁.heap.get? fa=some o->o.data=.func (docDef d.name d.params d.body d.scope pm cd doc)->s₁.heap.CodeRec cd d.name->mg d.name=some (.ref fa) ->
   s₁.heap.get? a=some { cls:=.type "list",data:=.seq vs.toArray }->IntsAre vs ns->ns.length<=n->(∀n∈ns,Builtin.Int.intBits n<=2 ^ 20)->s₁.gens = #[] ->
   codeAny (model l.prog w) callerA (.call (.ref fa) ⟨[.ref a],[]⟩) (λr s'=>r=.ok (.ret (.bool true))/\OldK s₁.heap s'.heap/\s'.os=s₁.os/\AllBare s'.gens) s₁) :
  WalkO q loose XP YP l.row.toRowW d [] (λf vs=>PySem.call f vs):=by
 intro w s₀ s₁ mg mb G Y fa o pm cd doc dV kV ho hd hcd hD hmg hg args vals as hpre hlay hrd hwl hlo
 obtain rfl:dV=.none:=Dflts.none hD hdf
 obtain rfl:kV=.none:=Dflts.noKw hD
 obtain⟨a,vs,ns,rfl,rfl,hobj,hints,hlen⟩:=tV hn hpre hwl
 refine enter_call (FL (call w s₀ s₁ mg mb fa o pm cd doc a vs ns G Y ho (fd_plain hd) hcd hmg hobj hints hlen (λn hn=>tJ hlay hn) hg) λr s' hq=>?_)
 obtain⟨rfl,h2,h3,h4⟩:=hq
 exact⟨.inl ⟨.bool true,.bool true,[],rfl,λ_=>rfl,.bool true,sE l _,λ_=>⟨List.Pairwise.nil,λ_ hm=>(nomatch hm)⟩⟩,h2,h3,h4⟩
end Att
namespace L2
open PySem PySem.Spec PyProof.Rows
end L2
namespace Uf
open PySem PyProof.Rows
end Uf
end
section
namespace L2
open PySem PySem.Spec PyProof.Rows
def ue{P:Program}{w:World}{K:PySem.W.Frag}{mg mb:Str->Option Value}{CX:pX}{k:Nat}{fa a TB c:Addr}{fd:FuncData}{x:Str}{sp:Sp}{s₁:Shared}{vs:List Value}{ns:List Int}(pos:Pos)(q:Str)
  (KX:K.In s₁.heap) (hns:s₁.heap.Ns mainGlobals mg) (hb:s₁.heap.Ns builtinsNs mb) (hbb:∀x:Str,x≠"__name__"->mb x=bootBuiltins x) (hlim:s₁.heap.NoLimit) (hg:s₁.gens = #[])
  (ha:s₁.heap.get? a=some { cls:=.type "list",data:=.seq vs.toArray }) (hi:IntsAre vs ns) (hl:ns.length<=sizeLine) (hr:bB k callerA) (hT:s₁.heap.get? TB=some (PySem.W.tabObj #[])) (hC:PySem.W.CodeHd s₁.heap c TB) (hKT:K.lookup TB=none) (hbm:oM mg s₁.heap)
  (F:∀base:Heap,K.In base->base.Ns mainGlobals mg->oM mg base->aM P w K mg base CX k fa fd [x] sp) (hbind:∀(s:Shared) (u:Value),BindsTo s fd ⟨[u],[]⟩ [(x,u)])
  (hsp:∀H:Hp,aR K H a (ns.map V.int)->H TB=some (.tbl (lz pos q))->sp [.ref a] H (λv _=>v=.bl true) λ_ _ _=>False)
  (hCX:∀H e s',CX [] H s₁ (λ_ _ _=>False) e s'->False) :
  codeAny (model P w) callerA (.call (.ref fa) ⟨[.ref a],[]⟩) (λr s'=>r=.ok (.ret (.bool true))/\OldK s₁.heap s'.heap/\s'.os=s₁.os/\AllBare s'.gens) s₁:=by
 have rv:=mn hi
 have lenV:=hi.length
 have naT:a≠TB:=λz=>by rw[z,hT]at ha;cases ha
 have core:∀H:Hp,(∀b,b≠TB->H b=none\/(b=a/\∃o xs,H b=some (.frz o (.lst xs))))->H TB=some (.tbl (lz pos q))->aR K H a (ns.map V.int)->gF P w H s₁.heap->(H a≠none->K.lookup a=none) ->
   codeAny (model P w) callerA (.call (.ref fa) ⟨[.ref a],[]⟩) (λr s'=>r=.ok (.ret (.bool true))/\OldK s₁.heap s'.heap/\s'.os=s₁.os/\AllBare s'.gens) s₁:=by
  intro H hO hHT hS hok hK
  have base_of:∀{b:Addr} {o:Obj},s₁.heap.get? b=some o->H b=none->(lH s₁.heap H).get? b=some o:=λe n=>wg e n
  have free:∀{b:Addr} {o:Obj},s₁.heap.get? b=some o->(∀y z,o.data≠.seq y z)->(∀y,o.data≠.fields y)->H b=none:=λ{b o} e n1 n2=>by
   by_cases hb:b=TB
   ·rw[hb,hT]at e
    cases e
    exact absurd rfl (n2 _)
   ·rcases hO b hb with z|⟨z,_⟩
    ·exact z
    ·rw[z,ha]at e
     cases e
     exact absurd rfl (n1 _ _)
  have nsK:∀{b:Addr} {m:Str->Option Value},s₁.heap.Ns b m->(lH s₁.heap H).Ns b m:=λ{b m} ⟨o,es,ep,e,d,r⟩=>⟨o,es,ep,base_of e (free e (λy z q=>by rw[d]at q;cases q) λy q=>by rw[d]at q;cases q),d,r⟩
  have hKb:K.In (lH s₁.heap H):=λb o e=>base_of (KX b o e) (by
   by_cases hb:b=TB
   ·rw[hb,hKT]at e;cases e
   ·rcases hO b hb with z|⟨z,o',xs,y⟩
    ·exact z
    ·subst z
     rw[hK (by rw[y];exactλq=>nomatch q)]at e
     cases e)
  have hM:Mod K mg (lH s₁.heap H):=⟨hKb,nsK hns,⟨mb,nsK hb,hbb⟩,let ⟨mc,h1,h2⟩:=hlim;⟨mc,nsK h1,h2⟩⟩
  have hB:oM mg (lH s₁.heap H):=by
   obtain⟨bm,ob,b1,b2,b3,b4,b5,b6⟩:=hbm
   exact⟨bm,ob,b1,b2,base_of b3 (free b3 (λy z q=>by rw[b6]at q;cases q) λy q=>by rw[b6]at q;cases q),b4,b5,b6⟩
  have e0:nF P w K mg (lH s₁.heap H) callerA [] s₁ H:=⟨rfl,hM,λb o e=>yj e,JO (uh _ _),trivial,λb hb=>absurd (show b∈([]:List Addr) from hb) (by simp),hok,.of_eq hg⟩
  refine FL ((F _ hKb (nsK hns) hB).run callerA [] s₁ H ⟨[.ref a],[]⟩ [.ref a] [.ref a] _ _ hr e0 (hbind s₁ (.ref a)) (.cons rfl .nil) (hsp H hS hHT)) λr s' h=>?_
  cases r with
  |error e=>exact(hCX H e s' h).elim
  |ok fl =>
   cases fl with
   |next=>exact False.elim h
   |brk=>exact False.elim h
   |cont=>exact False.elim h
   |ret u =>
    obtain⟨v,H',os,bare,un,hok',r',q'⟩:=h
    have q':v=.bl true:=q'
    subst q'
    obtain rfl:u=Value.bool true:=r'
    obtain⟨more,eT⟩:=un.tbls TB _ hHT
    obtain⟨_,_,qs,_,gT,_⟩:=(show rj H' s'.heap TB _ from hok' TB _ eT)
    have keep:∀b o,b≠TB->s₁.heap.get? b=some o->s'.heap.get? b=some o:=λb o hb e=>by
     cases q:H b with
     |none=>exact un.keep b o e q (by intro z;exact absurd (show b∈([]:List Addr) from z) (by simp)) (by simp)
     |some u =>
      rcases hO b hb with z|⟨_,ob,xs,z⟩
      ·rw[q]at z;cases z
      ·have z2:=un.frzs b ob _ z
       obtain⟨e1,_⟩:=hok b _ z
       obtain⟨e2,_⟩:=hok' b _ z2
       rw[e]at e1;cases e1
       exact e2
    refine⟨rfl,⟨λb o e=>?_,λb o e=>?_⟩,os,bare⟩
    ·by_cases hb:b=TB
     ·subst hb
      rw[hT]at e
      cases e
      exact .inr (.inl ⟨(hC.tab hT).isCodeTable,rfl,#[],qs,rfl,by rw[Array.empty_append];exact gT⟩)
     ·exact .inl (keep b o hb e)
    ·by_cases hb:b=TB
     ·rw[hb];exact⟨_,gT⟩
     ·exact⟨o,keep b o hb e⟩
 have tabok:∀H:Hp,rj H s₁.heap TB (lz pos q):=λH=>⟨pos,q,#[],rfl,hT,trivial,.inl rfl⟩
 cases hk:K.lookup a with
 |some o =>
  have e:=KX a o hk
  rw[ha]at e
  cases e
  refine core (λb=>if b=TB then some (.tbl (lz pos q)) else none) (λb hb=>.inl (Ex hb)) (EG rfl) (.inr ⟨_,vs.toArray,_,hk,rfl,rfl,rfl,by rw[ED,lenV];exact hl,by simpa using rv⟩) (λb u z=>?_) λz=>absurd (Ex naT) z
  by_cases hb:b=TB
  ·have z':=(EG hb).symm.trans z
   cases z'
   subst hb
   exact tabok _
  ·have z':=(Ex hb).symm.trans z
   cases z'
 |none =>
  refine core (λb=>if b=TB then some (.tbl (lz pos q)) else if b=a then some (.frz { cls:=.type "list",data:=.seq vs.toArray } (.lst (ns.map V.int))) else none) (λb hb=>?_) (EG rfl) (.inl (.inr ⟨{ cls:=.type "list",data:=.seq vs.toArray },(Ex naT).trans (EG rfl)⟩)) (λb u z=>?_) λ_=>hk
  ·by_cases h2:b=a
   ·exact .inr ⟨h2,_,_,(Ex hb).trans (EG h2)⟩
   ·exact .inl ((Ex hb).trans (Ex h2))
  ·by_cases hb:b=TB
   ·have z':=(EG hb).symm.trans z
    cases z'
    subst hb
    exact tabok _
   ·have z:=(Ex hb).symm.trans z
    by_cases h2:b=a
    ·have z':=(EG h2).symm.trans z
     cases z'
     subst h2
     exact⟨ha,by rw[Et];exact hl,vs,_,rv,ha⟩
    ·have z':=(Ex h2).symm.trans z
     cases z'
def xq{l:PySem.W.OpenLaw}{n k:Nat}{q:Program}{loose:List Str}{XP:(Str->Option Value)->Heap->Prop}{YP:World->Heap->Prop}{d:DefRec}{K:Params->PySem.W.Frag}{CX:World->pX}{sp:World->Sp}{x:Str}{TB c:Addr}(pos:Pos)(qn:Str)
  (hn:l.most=some n) (hn2:n<=sizeLine) (hdf:d.params.defaults=[]) (hr:bB k callerA)
  (hY:∀(w:World) (h:Heap),YP w h->(K w.params).In h/\h.get? TB=some (PySem.W.tabObj #[])) (hch:∀w:World,PySem.W.codeHdIn (K w.params) c TB=true) (hKT:∀w:World,(K w.params).lookup TB=none)
  (F:∀(w:World) (mg:Str->Option Value) (fa:Addr) (h:Heap),(K w.params).In h->h.Ns mainGlobals mg->mg d.name = some (.ref fa) ->
   ∃fd:FuncData,(∀(s:Shared) (u:Value),BindsTo s fd ⟨[u],[]⟩ [(x,u)]) /\
    ∀base:Heap,(K w.params).In base->base.Ns mainGlobals mg->oM mg base->aM l.prog w (K w.params) mg base (CX w) k fa fd [x] (sp w))
  (hsp:∀(w:World) (H:Hp) (a:Addr) (ns:List Int),ns.length<=n->(∀n∈ns,Builtin.Int.intBits n<=2 ^ 20)->aR (K w.params) H a (ns.map V.int)->H TB=some (.tbl (lz pos qn))->sp w [.ref a] H (λv _=>v=.bl true) λ_ _ _=>False)
  (hCX:∀(w:World) (H:Hp) (s:Shared) (e:Value) (s':Shared),CX w [] H s (λ_ _ _=>False) e s'->False) :
  PySem.W.WalkO q loose XP YP l.row.toRowW d [] (λf vs=>PySem.call f vs):=by
 refine Att.nI hn hdf λw s₀ s₁ mg mb fa o pm cd doc a vs ns G Y ho hd hcd hmg hobj hints hlen hbit hg=>?_
 obtain⟨KX,hT⟩:=hY w _ Y
 obtain⟨fd,hb,hF⟩:=F w mg fa _ KX G.T.g hmg
 exact ue pos qn KX G.T.g G.T.b G.T.builtins G.T.nolimit hg hobj hints (ET hlen hn2) hr hT (JL KX (hch w)) (hKT w) G.T.bmain hF hb (λH hS hH=>hsp w H a ns hlen hbit hS hH) λH e s'=>hCX w H s₁ e s'
end L2
end
section
namespace Uf
open PySem L2 UfSrt PyProof.Rows
def lu{us:List Value}(h:us.length=1):∃a,us=[a]:=Jp.mp h
def gj{us:List Value}(h:us.length=2):∃a b,us=[a,b]:=match us,h with|[a,b],_=>⟨a,b,rfl⟩
def sR{us:List Value}(h:us.length=3):∃a b c,us=[a,b,c]:=match us,h with|[a,b,c],_=>⟨a,b,c,rfl⟩
def C0{us:List Value}(h:us.length=4):∃a b c d,us=[a,b,c,d]:=match us,h with|[a,b,c,d],_=>⟨a,b,c,d,rfl⟩
def all_mk{l:PySem.W.OpenLaw}{w:World}{K:PySem.W.Frag}{h:Heap}{mg:Str->Option Value}{fa C CW CR NR NE NNE CL CF CH CE CO CC CA CM CN CP CQ CS CX CY CI:Addr}(X:K.In h)(G:h.Ns mainGlobals mg)(hfa:mg "law"=some (.ref fa))
  {f1:Addr} {od1 an1:Option Addr} {sl1:Array (Option Value)} {oc1 kV1 dc1 pm1 cd1 ct1:Value}
  {f2:Addr} {od2 an2:Option Addr} {sl2:Array (Option Value)} {oc2 kV2 dc2 pm2 cd2 ct2:Value}
  {f3:Addr} {od3 an3:Option Addr} {sl3:Array (Option Value)} {oc3 kV3 dc3 pm3 cd3 ct3:Value}
  {f4:Addr} {od4 an4:Option Addr} {sl4:Array (Option Value)} {oc4 kV4 dc4 pm4 cd4 ct4:Value}
  {f5:Addr} {od5 an5:Option Addr} {sl5:Array (Option Value)} {oc5 kV5 dc5 pm5 cd5 ct5:Value}
  {f6:Addr} {od6 an6:Option Addr} {sl6:Array (Option Value)} {oc6 kV6 dc6 pm6 cd6 ct6:Value}
  {f7:Addr} {od7 an7:Option Addr} {sl7:Array (Option Value)} {oc7 kV7 dc7 pm7 cd7 ct7:Value}
  {f8:Addr} {od8 an8:Option Addr} {sl8:Array (Option Value)} {oc8 kV8 dc8 pm8 cd8 ct8:Value}
  {f9:Addr} {od9 an9:Option Addr} {sl9:Array (Option Value)} {oc9 kV9 dc9 pm9 cd9 ct9:Value}
  {f10:Addr} {od10 an10:Option Addr} {sl10:Array (Option Value)} {oc10 kV10 dc10 pm10 cd10 ct10:Value}
  {f11:Addr} {od11 an11:Option Addr} {sl11:Array (Option Value)} {oc11 kV11 dc11 pm11 cd11 ct11:Value}
  {f12:Addr} {od12 an12:Option Addr} {sl12:Array (Option Value)} {oc12 kV12 dc12 pm12 cd12 ct12:Value}
  {f13:Addr} {od13 an13:Option Addr} {sl13:Array (Option Value)} {oc13 kV13 dc13 pm13 cd13 ct13:Value}
  {f14:Addr} {od14 an14:Option Addr} {sl14:Array (Option Value)} {oc14 kV14 dc14 pm14 cd14 ct14:Value}
  {f15:Addr} {od15 an15:Option Addr} {sl15:Array (Option Value)} {oc15 kV15 dc15 pm15 cd15 ct15:Value}
  {f16:Addr} {od16 an16:Option Addr} {sl16:Array (Option Value)} {oc16 kV16 dc16 pm16 cd16 ct16:Value}
  {f17:Addr} {od17 an17:Option Addr} {sl17:Array (Option Value)} {oc17 kV17 dc17 pm17 cd17 ct17:Value}
  {f18:Addr} {od18 an18:Option Addr} {sl18:Array (Option Value)} {oc18 kV18 dc18 pm18 cd18 ct18:Value}
  {f19:Addr} {od19 an19:Option Addr} {sl19:Array (Option Value)} {oc19 kV19 dc19 pm19 cd19 ct19:Value}
  {f20:Addr} {od20 an20:Option Addr} {sl20:Array (Option Value)} {oc20 kV20 dc20 pm20 cd20 ct20:Value}
  {f21:Addr} {od21 an21:Option Addr} {sl21:Array (Option Value)} {oc21 kV21 dc21 pm21 cd21 ct21:Value}
  {f22:Addr} {od22 an22:Option Addr} {sl22:Array (Option Value)} {oc22 kV22 dc22 pm22 cd22 ct22:Value}
  {f23:Addr} {od23 an23:Option Addr} {sl23:Array (Option Value)} {oc23 kV23 dc23 pm23 cd23 ct23:Value}
  {f24:Addr} {od24 an24:Option Addr} {sl24:Array (Option Value)} {oc24 kV24 dc24 pm24 cd24 ct24:Value}
  {f25:Addr} {od25 an25:Option Addr} {sl25:Array (Option Value)} {oc25 kV25 dc25 pm25 cd25 ct25:Value}
  {f26:Addr} {od26 an26:Option Addr} {sl26:Array (Option Value)} {oc26 kV26 dc26 pm26 cd26 ct26:Value}
  {f27:Addr} {od27 an27:Option Addr} {sl27:Array (Option Value)} {oc27 kV27 dc27 pm27 cd27 ct27:Value}
  {f28:Addr} {od28 an28:Option Addr} {sl28:Array (Option Value)} {oc28 kV28 dc28 pm28 cd28 ct28:Value}
  {f29:Addr} {od29 an29:Option Addr} {sl29:Array (Option Value)} {oc29 kV29 dc29 pm29 cd29 ct29:Value}
  {f30:Addr} {od30 an30:Option Addr} {sl30:Array (Option Value)} {oc30 kV30 dc30 pm30 cd30 ct30:Value}
  {f31:Addr} {od31 an31:Option Addr} {sl31:Array (Option Value)} {oc31 kV31 dc31 pm31 cd31 ct31:Value}
  {f32:Addr} {od32 an32:Option Addr} {sl32:Array (Option Value)} {oc32 kV32 dc32 pm32 cd32 ct32:Value}
  {f33:Addr} {od33 an33:Option Addr} {sl33:Array (Option Value)} {oc33 kV33 dc33 pm33 cd33 ct33:Value}
  {f34:Addr} {od34 an34:Option Addr} {sl34:Array (Option Value)} {oc34 kV34 dc34 pm34 cd34 ct34:Value}
  {f35:Addr} {od35 an35:Option Addr} {sl35:Array (Option Value)} {oc35 kV35 dc35 pm35 cd35 ct35:Value}
  {f36:Addr} {od36 an36:Option Addr} {sl36:Array (Option Value)} {kV36 dc36 pm36 cd36 ct36:Value}
  {tk1 tk2 tk3 tk4 tk5 tk6 tk7:PySem.Tok}
  {cnCR:Str} {cqCR:Str} {basesCR:List Value} {tlCR:List Value} {hasDCR:Bool} {snCR:List Str} {subsCR:List Value} {abCR:Bool} {colCR:Option Bool} {cddCR:Option Addr} {l0CR:Option Value} {l1CR:Option Value} {l2CR:Option Value} {l3CR:Option Value} {l5CR:Option Value}
  {cnNE:Str} {cqNE:Str} {basesNE:List Value} {tlNE:List Value} {hasDNE:Bool} {snNE:List Str} {subsNE:List Value} {abNE:Bool} {colNE:Option Bool} {cddNE:Option Addr} {l0NE:Option Value} {l1NE:Option Value} {l2NE:Option Value} {l3NE:Option Value} {l5NE:Option Value} {nwNE:String}
  (aC:PySem.W.nsIn K mainGlobals "Net"=some (some (.ref C)))
  (aW:PySem.W.nsIn K mainGlobals "Web"=some (some (.ref CW)))
  (gCR:PySem.W.nsIn K mainGlobals "Crowded"=some (some (.ref CR)))
  (gNE:PySem.W.nsIn K mainGlobals "NetError"=some (some (.ref NE)))
  (gCL:PySem.W.nsIn K mainGlobals "Clash"=some (some (.ref CL)))
  (gCF:PySem.W.nsIn K mainGlobals "Full"=some (some (.ref CF)))
  (gCH:PySem.W.nsIn K mainGlobals "Held"=some (some (.ref CH)))
  (gCE:PySem.W.nsIn K mainGlobals "NoName"=some (some (.ref CE)))
  (gCO:PySem.W.nsIn K mainGlobals "NoNet"=some (some (.ref CO)))
  (gCC:PySem.W.nsIn K mainGlobals "NoOccurrence"=some (some (.ref CC)))
  (gCA:PySem.W.nsIn K mainGlobals "Apart"=some (some (.ref CA)))
  (gCM:PySem.W.nsIn K mainGlobals "Misfit"=some (some (.ref CM)))
  (gCN:PySem.W.nsIn K mainGlobals "NoMove"=some (some (.ref CN)))
  (gCP:PySem.W.nsIn K mainGlobals "NoPlace"=some (some (.ref CP)))
  (gCQ:PySem.W.nsIn K mainGlobals "NoRow"=some (some (.ref CQ)))
  (gCS:PySem.W.nsIn K mainGlobals "NoSpot"=some (some (.ref CS)))
  (gCX:PySem.W.nsIn K mainGlobals "NoText"=some (some (.ref CX)))
  (gCY:PySem.W.nsIn K mainGlobals "TooMany"=some (some (.ref CY)))
  (gCI:PySem.W.nsIn K mainGlobals "Twice"=some (some (.ref CI)))
  (a1:PySem.W.nsIn K mainGlobals "bit"=some (some (.ref f1)))
  (a2:PySem.W.nsIn K mainGlobals "members"=some (some (.ref f2)))
  (a3:PySem.W.nsIn K mainGlobals "lacks_bead"=some (some (.ref f3)))
  (a4:PySem.W.nsIn K mainGlobals "gives_second"=some (some (.ref f4)))
  (a5:PySem.W.nsIn K mainGlobals "state_behind"=some (some (.ref f5)))
  (a6:PySem.W.nsIn K mainGlobals "may"=some (some (.ref f6)))
  (a7:PySem.W.nsIn K mainGlobals "crowder"=some (some (.ref f7)))
  (a8:PySem.W.nsIn K mainGlobals "newly_reached"=some (some (.ref f8)))
  (a9:PySem.W.nsIn K mainGlobals "row_by_ways"=some (some (.ref f9)))
  (a10:PySem.W.nsIn K mainGlobals "shortest_row"=some (some (.ref f10)))
  (a11:PySem.W.nsIn K mainGlobals "crowding"=some (some (.ref f11)))
  (a12:PySem.W.nsIn K mainGlobals "is_name"=some (some (.ref f12)))
  (a13:PySem.W.nsIn K mainGlobals "are_unlike_names"=some (some (.ref f13)))
  (a14:PySem.W.nsIn K mainGlobals "is_move"=some (some (.ref f14)))
  (a15:PySem.W.nsIn K mainGlobals "places_of"=some (some (.ref f15)))
  (a16:PySem.W.nsIn K mainGlobals "makes_net"=some (some (.ref f16)))
  (a17:PySem.W.nsIn K mainGlobals "_law_at"=some (some (.ref f17)))
  (a18:PySem.W.nsIn K mainGlobals "_law_name"=some (some (.ref f18)))
  (a19:PySem.W.nsIn K mainGlobals "_law_loose_step"=some (some (.ref f19)))
  (a20:PySem.W.nsIn K mainGlobals "_law_made"=some (some (.ref f20)))
  (a21:PySem.W.nsIn K mainGlobals "_law_wild"=some (some (.ref f21)))
  (a22:PySem.W.nsIn K mainGlobals "_law_behind"=some (some (.ref f22)))
  (a23:PySem.W.nsIn K mainGlobals "_law_least"=some (some (.ref f23)))
  (a24:PySem.W.nsIn K mainGlobals "_law_shows"=some (some (.ref f24)))
  (a25:PySem.W.nsIn K mainGlobals "_law_web_right"=some (some (.ref f25)))
  (a26:PySem.W.nsIn K mainGlobals "law"=some (some (.ref f26)))
  (a27:PySem.W.findIn K (.ref C) "__init__"=some (some (.ref f27)))
  (i27:PySem.W.isFn K (.ref f27)=true)
  (a28:PySem.W.findIn K (.ref C) "places"=some (some (.ref f28)))
  (i28:PySem.W.isFn K (.ref f28)=true)
  (a29:PySem.W.findIn K (.ref C) "moves"=some (some (.ref f29)))
  (i29:PySem.W.isFn K (.ref f29)=true)
  (a30:PySem.W.findIn K (.ref C) "start"=some (some (.ref f30)))
  (i30:PySem.W.isFn K (.ref f30)=true)
  (a31:PySem.W.findIn K (.ref C) "must_have"=some (some (.ref f31)))
  (i31:PySem.W.isFn K (.ref f31)=true)
  (a32:PySem.W.findIn K (.ref C) "takes"=some (some (.ref f32)))
  (i32:PySem.W.isFn K (.ref f32)=true)
  (a33:PySem.W.findIn K (.ref C) "gives"=some (some (.ref f33)))
  (i33:PySem.W.isFn K (.ref f33)=true)
  (a34:PySem.W.findIn K (.ref CW) "__init__"=some (some (.ref f34)))
  (i34:PySem.W.isFn K (.ref f34)=true)
  (a35:PySem.W.findIn K (.ref CW) "add_spots"=some (some (.ref f35)))
  (i35:PySem.W.isFn K (.ref f35)=true)
  (oCR:K.lookup CR=some (excClassObj cnCR cqCR CR NR basesCR tlCR hasDCR snCR subsCR abCR colCR cddCR l0CR l1CR l2CR l3CR l5CR "ValueError.__new__"))
  (oNE:K.lookup NE=some (excClassObj cnNE cqNE NE NNE basesNE tlNE hasDNE snNE subsNE abNE colNE cddNE l0NE l1NE l2NE l3NE l5NE nwNE))
  (a36:PySem.W.nsIn K NR "__init__"=some (some (.ref f36)))
  (l1:K.lookup f1=some ⟨oc1,od1,.func (PySem.W.fnOf "bit" "bit" (aE nZ) (ay nZ) (aj nZ) .none kV1 dc1 pm1 an1 cd1 ct1),sl1⟩)
  (c1:PySem.W.codeIn K cd1 "bit"=true)
  (k1:PySem.W.keepIn K (.ref f1)=true)
  (l2:K.lookup f2=some ⟨oc2,od2,.func (PySem.W.fnOf "members" "members" (aE dN) (ay dN) (aj dN) .none kV2 dc2 pm2 an2 cd2 ct2),sl2⟩)
  (c2:PySem.W.codeIn K cd2 "members"=true)
  (k2:PySem.W.keepIn K (.ref f2)=true)
  (l3:K.lookup f3=some ⟨oc3,od3,.func (PySem.W.fnOf "lacks_bead" "lacks_bead" (aE fV) (ay fV) (aj fV) .none kV3 dc3 pm3 an3 cd3 ct3),sl3⟩)
  (c3:PySem.W.codeIn K cd3 "lacks_bead"=true)
  (k3:PySem.W.keepIn K (.ref f3)=true)
  (l4:K.lookup f4=some ⟨oc4,od4,.func (PySem.W.fnOf "gives_second" "gives_second" (aE d9) (ay d9) (aj d9) .none kV4 dc4 pm4 an4 cd4 ct4),sl4⟩)
  (c4:PySem.W.codeIn K cd4 "gives_second"=true)
  (k4:PySem.W.keepIn K (.ref f4)=true)
  (l5:K.lookup f5=some ⟨oc5,od5,.func (PySem.W.fnOf "state_behind" "state_behind" (aE eY) (ay eY) (aj eY) .none kV5 dc5 pm5 an5 cd5 ct5),sl5⟩)
  (c5:PySem.W.codeIn K cd5 "state_behind"=true)
  (k5:PySem.W.keepIn K (.ref f5)=true)
  (l6:K.lookup f6=some ⟨oc6,od6,.func (PySem.W.fnOf "may" "may" (aE pW) (ay pW) (aj pW) .none kV6 dc6 pm6 an6 cd6 ct6),sl6⟩)
  (c6:PySem.W.codeIn K cd6 "may"=true)
  (k6:PySem.W.keepIn K (.ref f6)=true)
  (l7:K.lookup f7=some ⟨oc7,od7,.func (PySem.W.fnOf "crowder" "crowder" (aE dR) (ay dR) (aj dR) .none kV7 dc7 pm7 an7 cd7 ct7),sl7⟩)
  (c7:PySem.W.codeIn K cd7 "crowder"=true)
  (k7:PySem.W.keepIn K (.ref f7)=true)
  (l8:K.lookup f8=some ⟨oc8,od8,.func (PySem.W.fnOf "newly_reached" "newly_reached" (aE gM) (ay gM) (aj gM) .none kV8 dc8 pm8 an8 cd8 ct8),sl8⟩)
  (c8:PySem.W.codeIn K cd8 "newly_reached"=true)
  (k8:PySem.W.keepIn K (.ref f8)=true)
  (l9:K.lookup f9=some ⟨oc9,od9,.func (PySem.W.fnOf "row_by_ways" "row_by_ways" (aE gP) (ay gP) (aj gP) .none kV9 dc9 pm9 an9 cd9 ct9),sl9⟩)
  (c9:PySem.W.codeIn K cd9 "row_by_ways"=true)
  (k9:PySem.W.keepIn K (.ref f9)=true)
  (l10:K.lookup f10=some ⟨oc10,od10,.func (PySem.W.fnOf "shortest_row" "shortest_row" (aE gK) (ay gK) (aj gK) .none kV10 dc10 pm10 an10 cd10 ct10),sl10⟩)
  (c10:PySem.W.codeIn K cd10 "shortest_row"=true)
  (k10:PySem.W.keepIn K (.ref f10)=true)
  (l11:K.lookup f11=some ⟨oc11,od11,.func (PySem.W.fnOf "crowding" "crowding" (aE cF) (ay cF) (aj cF) .none kV11 dc11 pm11 an11 (.ref 413) ct11),sl11⟩)
  (c11:PySem.W.codeIn K (.ref 413) "crowding"=true)
  (k11:PySem.W.keepIn K (.ref f11)=true)
  (l12:K.lookup f12=some ⟨oc12,od12,.func (PySem.W.fnOf "is_name" "is_name" (aE cv) (ay cv) (aj cv) .none kV12 dc12 pm12 an12 cd12 ct12),sl12⟩)
  (c12:PySem.W.codeIn K cd12 "is_name"=true)
  (k12:PySem.W.keepIn K (.ref f12)=true)
  (l13:K.lookup f13=some ⟨oc13,od13,.func (PySem.W.fnOf "are_unlike_names" "are_unlike_names" (aE dI) (ay dI) (aj dI) .none kV13 dc13 pm13 an13 cd13 ct13),sl13⟩)
  (c13:PySem.W.codeIn K cd13 "are_unlike_names"=true)
  (k13:PySem.W.keepIn K (.ref f13)=true)
  (l14:K.lookup f14=some ⟨oc14,od14,.func (PySem.W.fnOf "is_move" "is_move" (aE dY) (ay dY) (aj dY) .none kV14 dc14 pm14 an14 cd14 ct14),sl14⟩)
  (c14:PySem.W.codeIn K cd14 "is_move"=true)
  (k14:PySem.W.keepIn K (.ref f14)=true)
  (l15:K.lookup f15=some ⟨oc15,od15,.func (PySem.W.fnOf "places_of" "places_of" (aE ez) (ay ez) (aj ez) .none kV15 dc15 pm15 an15 cd15 ct15),sl15⟩)
  (c15:PySem.W.codeIn K cd15 "places_of"=true)
  (k15:PySem.W.keepIn K (.ref f15)=true)
  (l16:K.lookup f16=some ⟨oc16,od16,.func (PySem.W.fnOf "makes_net" "makes_net" (aE gO) (ay gO) (aj gO) .none kV16 dc16 pm16 an16 cd16 ct16),sl16⟩)
  (c16:PySem.W.codeIn K cd16 "makes_net"=true)
  (k16:PySem.W.keepIn K (.ref f16)=true)
  (l17:K.lookup f17=some ⟨oc17,od17,.func (PySem.W.fnOf "_law_at" "_law_at" (aE zB) (ay zB) (aj zB) .none kV17 dc17 pm17 an17 cd17 ct17),sl17⟩)
  (c17:PySem.W.codeIn K cd17 "_law_at"=true)
  (k17:PySem.W.keepIn K (.ref f17)=true)
  (l18:K.lookup f18=some ⟨oc18,od18,.func (PySem.W.fnOf "_law_name" "_law_name" (aE jC) (ay jC) (aj jC) .none kV18 dc18 pm18 an18 cd18 ct18),sl18⟩)
  (c18:PySem.W.codeIn K cd18 "_law_name"=true)
  (k18:PySem.W.keepIn K (.ref f18)=true)
  (l19:K.lookup f19=some ⟨oc19,od19,.func (PySem.W.fnOf "_law_loose_step" "_law_loose_step" (aE gR) (ay gR) (aj gR) .none kV19 dc19 pm19 an19 cd19 ct19),sl19⟩)
  (c19:PySem.W.codeIn K cd19 "_law_loose_step"=true)
  (k19:PySem.W.keepIn K (.ref f19)=true)
  (l20:K.lookup f20=some ⟨oc20,od20,.func (PySem.W.fnOf "_law_made" "_law_made" (aE jG) (ay jG) (aj jG) .none kV20 dc20 pm20 an20 cd20 ct20),sl20⟩)
  (c20:PySem.W.codeIn K cd20 "_law_made"=true)
  (k20:PySem.W.keepIn K (.ref f20)=true)
  (l21:K.lookup f21=some ⟨oc21,od21,.func (PySem.W.fnOf "_law_wild" "_law_wild" (aE jI) (ay jI) (aj jI) .none kV21 dc21 pm21 an21 cd21 ct21),sl21⟩)
  (c21:PySem.W.codeIn K cd21 "_law_wild"=true)
  (k21:PySem.W.keepIn K (.ref f21)=true)
  (l22:K.lookup f22=some ⟨oc22,od22,.func (PySem.W.fnOf "_law_behind" "_law_behind" (aE iF) (ay iF) (aj iF) .none kV22 dc22 pm22 an22 cd22 ct22),sl22⟩)
  (c22:PySem.W.codeIn K cd22 "_law_behind"=true)
  (k22:PySem.W.keepIn K (.ref f22)=true)
  (l23:K.lookup f23=some ⟨oc23,od23,.func (PySem.W.fnOf "_law_least" "_law_least" (aE gL) (ay gL) (aj gL) .none kV23 dc23 pm23 an23 cd23 ct23),sl23⟩)
  (c23:PySem.W.codeIn K cd23 "_law_least"=true)
  (k23:PySem.W.keepIn K (.ref f23)=true)
  (l24:K.lookup f24=some ⟨oc24,od24,.func (PySem.W.fnOf "_law_shows" "_law_shows" (aE gQ) (ay gQ) (aj gQ) .none kV24 dc24 pm24 an24 cd24 ct24),sl24⟩)
  (c24:PySem.W.codeIn K cd24 "_law_shows"=true)
  (k24:PySem.W.keepIn K (.ref f24)=true)
  (l25:K.lookup f25=some ⟨oc25,od25,.func (PySem.W.fnOf "_law_web_right" "_law_web_right" (aE gE) (ay gE) (aj gE) .none kV25 dc25 pm25 an25 cd25 ct25),sl25⟩)
  (c25:PySem.W.codeIn K cd25 "_law_web_right"=true)
  (k25:PySem.W.keepIn K (.ref f25)=true)
  (l26:K.lookup f26=some ⟨oc26,od26,.func (PySem.W.fnOf "law" "law" (aE m6) (ay m6) (aj m6) .none kV26 dc26 pm26 an26 cd26 ct26),sl26⟩)
  (c26:PySem.W.codeIn K cd26 "law"=true)
  (k26:PySem.W.keepIn K (.ref f26)=true)
  (l27:K.lookup f27=some ⟨oc27,od27,.func (PySem.W.fnOf "__init__" "Net.__init__" (aE j4) (ay j4) (aj j4) .none kV27 dc27 pm27 an27 cd27 ct27),sl27⟩)
  (c27:PySem.W.codeIn K cd27 "Net.__init__"=true)
  (k27:PySem.W.keepIn K (.ref f27)=true)
  (l28:K.lookup f28=some ⟨oc28,od28,.func (PySem.W.fnOf "places" "Net.places" (aE jH) (ay jH) (aj jH) .none kV28 dc28 pm28 an28 cd28 ct28),sl28⟩)
  (c28:PySem.W.codeIn K cd28 "Net.places"=true)
  (k28:PySem.W.keepIn K (.ref f28)=true)
  (l29:K.lookup f29=some ⟨oc29,od29,.func (PySem.W.fnOf "moves" "Net.moves" (aE iJ) (ay iJ) (aj iJ) .none kV29 dc29 pm29 an29 cd29 ct29),sl29⟩)
  (c29:PySem.W.codeIn K cd29 "Net.moves"=true)
  (k29:PySem.W.keepIn K (.ref f29)=true)
  (l30:K.lookup f30=some ⟨oc30,od30,.func (PySem.W.fnOf "start" "Net.start" (aE fD) (ay fD) (aj fD) .none kV30 dc30 pm30 an30 cd30 ct30),sl30⟩)
  (c30:PySem.W.codeIn K cd30 "Net.start"=true)
  (k30:PySem.W.keepIn K (.ref f30)=true)
  (l31:K.lookup f31=some ⟨oc31,od31,.func (PySem.W.fnOf "must_have" "Net.must_have" (aE iH) (ay iH) (aj iH) .none kV31 dc31 pm31 an31 cd31 ct31),sl31⟩)
  (c31:PySem.W.codeIn K cd31 "Net.must_have"=true)
  (k31:PySem.W.keepIn K (.ref f31)=true)
  (l32:K.lookup f32=some ⟨oc32,od32,.func (PySem.W.fnOf "takes" "Net.takes" (aE fe) (ay fe) (aj fe) .none kV32 dc32 pm32 an32 cd32 ct32),sl32⟩)
  (c32:PySem.W.codeIn K cd32 "Net.takes"=true)
  (k32:PySem.W.keepIn K (.ref f32)=true)
  (l33:K.lookup f33=some ⟨oc33,od33,.func (PySem.W.fnOf "gives" "Net.gives" (aE fT) (ay fT) (aj fT) .none kV33 dc33 pm33 an33 cd33 ct33),sl33⟩)
  (c33:PySem.W.codeIn K cd33 "Net.gives"=true)
  (k33:PySem.W.keepIn K (.ref f33)=true)
  (l34:K.lookup f34=some ⟨oc34,od34,.func (PySem.W.fnOf "__init__" "Web.__init__" (aE iw) (ay iw) (aj iw) .none kV34 dc34 pm34 an34 cd34 ct34),sl34⟩)
  (c34:PySem.W.codeIn K cd34 "Web.__init__"=true)
  (k34:PySem.W.keepIn K (.ref f34)=true)
  (l35:K.lookup f35=some ⟨oc35,od35,.func (PySem.W.fnOf "add_spots" "Web.add_spots" (aE oB) (ay oB) (aj oB) .none kV35 dc35 pm35 an35 cd35 ct35),sl35⟩)
  (c35:PySem.W.codeIn K cd35 "Web.add_spots"=true)
  (k35:PySem.W.keepIn K (.ref f35)=true)
  (l36:K.lookup f36=some ⟨.type "function",od36,.func (PySem.W.fnOf "__init__" "Crowded.__init__" (aE eC) (ay eC) (aj eC) .none kV36 dc36 pm36 an36 cd36 ct36),sl36⟩)
  (c36:PySem.W.codeIn K cd36 "Crowded.__init__"=true)
  (k36:PySem.W.keepIn K (.ref f36)=true)
  (hch:PySem.W.codeHdIn K 413 TB=true)
  (pg:PySem.W.plainGet K C Str.empty=true)
  (hd:PySem.W.hasDictIn K C=true)
  (po:PySem.W.plainOver K C=true)
  (sa:PySem.W.findIn K (.ref C) "__setattr__"=some (some (.builtin "object.__setattr__")))
  (mk:PySem.W.makesIn K C=true)
  (kc:PySem.W.keepIn K (.ref C)=true)
  (pgW:PySem.W.plainGet K CW Str.empty=true)
  (hdW:PySem.W.hasDictIn K CW=true)
  (poW:PySem.W.plainOver K CW=true)
  (saW:PySem.W.findIn K (.ref CW) "__setattr__"=some (some (.builtin "object.__setattr__")))
  (mkW:PySem.W.makesIn K CW=true)
  (kcW:PySem.W.keepIn K (.ref CW)=true)
  (wN:PySem.W.findIn K (.ref CW) "base_net"=some none)
  (wS:PySem.W.findIn K (.ref CW) "spot_tuples"=some none)
  (wO:PySem.W.findIn K (.ref CW) "occurrence_tuples"=some none)
  (wH:PySem.W.findIn K (.ref CW) "numbers_there"=some none)
  (wW:PySem.W.findIn K (.ref CW) "own_bits"=some none)
  (wG:PySem.W.findIn K (.ref CW) "given_bits"=some none)
  (wB:PySem.W.findIn K (.ref CW) "beside_bits"=some none)
  (wT:PySem.W.findIn K (.ref CW) "taker_bits"=some none)
  (wP:PySem.W.findIn K (.ref CW) "place_bits"=some none)
  (nP:PySem.W.findIn K (.ref C) "place_names"=some none)
  (nS:PySem.W.findIn K (.ref C) "start_state"=some none)
  (nT:PySem.W.findIn K (.ref C) "taken_by"=some none)
  (nG:PySem.W.findIn K (.ref C) "given_by"=some none)
  (z1:PySem.W.nsIn K mainGlobals "all"=some none)
  (z2:PySem.W.nsIn K mainGlobals "len"=some none)
  (z3:PySem.W.nsIn K mainGlobals "set"=some none)
  (z4:PySem.W.nsIn K mainGlobals "list"=some none)
  (z5:PySem.W.nsIn K mainGlobals "tuple"=some none)
  (z6:PySem.W.nsIn K mainGlobals "str"=some none)
  (z7:PySem.W.nsIn K mainGlobals "sorted"=some none)
  (z8:PySem.W.nsIn K mainGlobals "isinstance"=some none)
  (z9:PySem.W.nsIn K mainGlobals "range"=some none)
  (z10:PySem.W.nsIn K mainGlobals "enumerate"=some none)
  (z11:PySem.W.nsIn K mainGlobals "any"=some none)
  (z12:PySem.W.nsIn K mainGlobals "reversed"=some none)
  (z13:PySem.W.nsIn K mainGlobals "dict"=some none)
  (z14:PySem.W.nsIn K mainGlobals "ValueError"=some none)
  (y1:PySem.W.nsIn K mainGlobals "LETTERS"=some (some (.str xC tk1)))
  (y2:PySem.W.nsIn K mainGlobals "LONGEST_NAME"=some (some (.int 8 tk2)))
  (y3:PySem.W.nsIn K mainGlobals "MOST_PLACES"=some (some (.int 12 tk3)))
  (y4:PySem.W.nsIn K mainGlobals "MOST_MOVES"=some (some (.int 12 tk4)))
  (y5:PySem.W.nsIn K mainGlobals "LEAST_TAKEN"=some (some (.int 1 tk5)))
  (y6:PySem.W.nsIn K mainGlobals "MOST_TAKEN"=some (some (.int 4 tk6)))
  (y7:PySem.W.nsIn K mainGlobals "MOST_GIVEN"=some (some (.int 4 tk7)))
  (bNE:PySem.W.specialIn K (.ref NE) "__getattribute__"=some (some (.builtin "type.__getattribute__")))
  (rNE:PySem.W.readsIn K NE (.type "type")=true)
  (fNE:PySem.W.findCls K (.ref NE) (.type "type") "__init__"=some (.val (.builtin "ValueError.__init__")))
  (hNE:tlNE.contains (.type "BaseException")=true)
  (xc:PySem.W.specialIn K (.builtin "object.__class__") "__get__"=some (some (.builtin "getset_descriptor.__get__")))
  (xt:PySem.W.takesIn K (.builtin "object.__class__")=some true)
  (taCR:PySem.W.tailIn K mH tlCR=true)
  (noCR:PySem.W.nsOkIn K NR=true)
  (kpCR:PySem.W.keepIn K (.ref CR)=true)
  (hdCR:PySem.W.hasDictIn K CR=true)
  (coCR:tlCR.contains (.type "BaseException")=true)
  (unCR:(Value.ref CR::tlCR).contains (.ref NE)=true)
  (gaCR:PySem.W.findIn K (.ref CR) "__getattribute__"=some (some (.builtin "BaseException.__getattribute__")))
  (gnCR:PySem.W.findIn K (.ref CR) "__getattr__"=some none)
  (hmCR:PySem.W.mroIn K CR (.type "BaseException")=some true)
  (hoCR:PySem.W.mroIn K CR (.type "object")=some true)
  (clCR:PySem.W.findIn K (.ref CR) "__class__"=some (some (.builtin "object.__class__")))
  (qvCR:PySem.W.kitOne K (.ref CR) (.type "ValueError")=some true)
  (q0CR:PySem.W.kitOne K (.ref CR) (.ref CR)=some true)
  (saCR:PySem.W.findIn K (.ref CR) "__setattr__"=some (some (.builtin "object.__setattr__")))
  (mrCR:((PySem.W.clsIn K CR).any λcd=>bp cd.mro)=true)
  (tkCR:PySem.W.takerIn K CR "row"=some none)
  (naCR:PySem.W.findIn K (.ref CR) "row"=some none)
  (qaCR:PySem.W.kitAny K (.ref CR) [.ref CL,.ref CF,.ref CH,.ref CE,.ref CO,.ref CC,.ref CA,.ref CM]=some false)
  (qbCR:PySem.W.kitAny K (.ref CR) [.ref CN,.ref CP,.ref CQ,.ref CS,.ref CX,.ref CY,.ref CI]=some false) :
  ∃fd:FuncData,(∀(s:Shared) (v:Value),BindsTo s fd ⟨[v],[]⟩ [("_law_script",v)])/\∀base:Heap,K.In base->base.Ns mainGlobals mg->oM mg base->aM l.prog w K mg base cW 12 fa fd ["_law_script"] (rT K):=by
 have e:=hfa.symm.trans (Ey X G a26)
 cases e
 have T:Txt K mg:=⟨Fd X G z1,Fd X G z2,Fd X G z3,Fd X G z4,Fd X G z5,Fd X G z6,Fd X G z7,Fd X G z8,⟨_,Ey X G y1⟩,⟨_,Ey X G y2⟩,⟨_,Ey X G y3⟩,⟨_,Ey X G y4⟩,⟨_,Ey X G y5⟩,⟨_,Ey X G y6⟩,⟨_,Ey X G y7⟩⟩
 have T2:Txt2 mg:=⟨Fd X G z9,Fd X G z10,Fd X G z11⟩
 have NC:iB K C:=⟨⟨pg,hd,po,sa⟩,nP,nS,nT,nG⟩
 have WC:AU K CW:=⟨⟨pgW,hdW,poW,saW⟩,wN,wS,wO,wH,wW,wG,wB,wT,wP⟩
 have M27:zx mg NE CR CL CF CH CE CO CC CA CM CN CP CQ CS CX CY CI:=⟨Ey X G gNE,Ey X G gCR,Ey X G gCL,Ey X G gCF,Ey X G gCH,Ey X G gCE,Ey X G gCO,Ey X G gCC,Ey X G gCA,Ey X G gCM,Ey X G gCN,Ey X G gCP,Ey X G gCQ,Ey X G gCS,Ey X G gCX,Ey X G gCY,Ey X G gCI,Fd X G z14⟩
 have F1:=aV (st:=nZ) l1 c1 k1
 have b1:=F1.binds (ps:=["number"]) λ_ _ _ _ _ _ us hl=>by obtain⟨a0,rfl⟩:=lu hl;rfl
 have D1:Def K mg "bit" nZ ["number"] f1 _:=⟨F1,Ey X G a1,b1⟩
 have F2:=aV (st:=dN) l2 c2 k2
 have b2:=F2.binds (ps:=["bits"]) λ_ _ _ _ _ _ us hl=>by obtain⟨a0,rfl⟩:=lu hl;rfl
 have D2:Def K mg "members" dN ["bits"] f2 _:=⟨F2,Ey X G a2,b2⟩
 have F3:=aV (st:=fV) l3 c3 k3
 have b3:=F3.binds (ps:=["net", "state", "move"]) λ_ _ _ _ _ _ us hl=>by obtain⟨a0,a1,a2,rfl⟩:=sR hl;rfl
 have D3:Def K mg "lacks_bead" fV ["net", "state", "move"] f3 _:=⟨F3,Ey X G a3,b3⟩
 have F4:=aV (st:=d9) l4 c4 k4
 have b4:=F4.binds (ps:=["net", "state", "move"]) λ_ _ _ _ _ _ us hl=>by obtain⟨a0,a1,a2,rfl⟩:=sR hl;rfl
 have D4:Def K mg "gives_second" d9 ["net", "state", "move"] f4 _:=⟨F4,Ey X G a4,b4⟩
 have F5:=aV (st:=eY) l5 c5 k5
 have b5:=F5.binds (ps:=["net", "state", "move"]) λ_ _ _ _ _ _ us hl=>by obtain⟨a0,a1,a2,rfl⟩:=sR hl;rfl
 have D5:Def K mg "state_behind" eY ["net", "state", "move"] f5 _:=⟨F5,Ey X G a5,b5⟩
 have F6:=aV (st:=pW) l6 c6 k6
 have b6:=F6.binds (ps:=["net", "state"]) λ_ _ _ _ _ _ us hl=>by obtain⟨a0,a1,rfl⟩:=gj hl;rfl
 have D6:Def K mg "may" pW ["net", "state"] f6 _:=⟨F6,Ey X G a6,b6⟩
 have F7:=aV (st:=dR) l7 c7 k7
 have b7:=F7.binds (ps:=["net", "state"]) λ_ _ _ _ _ _ us hl=>by obtain⟨a0,a1,rfl⟩:=gj hl;rfl
 have D7:Def K mg "crowder" dR ["net", "state"] f7 _:=⟨F7,Ey X G a7,b7⟩
 have F8:=aV (st:=gM) l8 c8 k8
 have b8:=F8.binds (ps:=["net", "states", "ways"]) λ_ _ _ _ _ _ us hl=>by obtain⟨a0,a1,a2,rfl⟩:=sR hl;rfl
 have D8:Def K mg "newly_reached" gM ["net", "states", "ways"] f8 _:=⟨F8,Ey X G a8,b8⟩
 have F9:=aV (st:=gP) l9 c9 k9
 have b9:=F9.binds (ps:=["ways", "state"]) λ_ _ _ _ _ _ us hl=>by obtain⟨a0,a1,rfl⟩:=gj hl;rfl
 have D9:Def K mg "row_by_ways" gP ["ways", "state"] f9 _:=⟨F9,Ey X G a9,b9⟩
 have F10:=aV (st:=gK) l10 c10 k10
 have b10:=F10.binds (ps:=["net", "last_in"]) λ_ _ _ _ _ _ us hl=>by obtain⟨a0,a1,rfl⟩:=gj hl;rfl
 have D10:Def K mg "shortest_row" gK ["net", "last_in"] f10 _:=⟨F10,Ey X G a10,b10⟩
 have F11:=aV (st:=cF) l11 c11 k11
 have b11:=F11.binds (ps:=["net"]) λ_ _ _ _ _ _ us hl=>by obtain⟨a0,rfl⟩:=lu hl;rfl
 have D11:Def K mg "crowding" cF ["net"] f11 _:=⟨F11,Ey X G a11,b11⟩
 have F12:=aV (st:=cv) l12 c12 k12
 have b12:=F12.binds (ps:=["thing"]) λ_ _ _ _ _ _ us hl=>by obtain⟨a0,rfl⟩:=lu hl;rfl
 have D12:Def K mg "is_name" cv ["thing"] f12 _:=⟨F12,Ey X G a12,b12⟩
 have F13:=aV (st:=dI) l13 c13 k13
 have b13:=F13.binds (ps:=["things"]) λ_ _ _ _ _ _ us hl=>by obtain⟨a0,rfl⟩:=lu hl;rfl
 have D13:Def K mg "are_unlike_names" dI ["things"] f13 _:=⟨F13,Ey X G a13,b13⟩
 have F14:=aV (st:=dY) l14 c14 k14
 have b14:=F14.binds (ps:=["taken", "given"]) λ_ _ _ _ _ _ us hl=>by obtain⟨a0,a1,rfl⟩:=gj hl;rfl
 have D14:Def K mg "is_move" dY ["taken", "given"] f14 _:=⟨F14,Ey X G a14,b14⟩
 have F15:=aV (st:=ez) l15 c15 k15
 have b15:=F15.binds (ps:=["moves", "start"]) λ_ _ _ _ _ _ us hl=>by obtain⟨a0,a1,rfl⟩:=gj hl;rfl
 have D15:Def K mg "places_of" ez ["moves", "start"] f15 _:=⟨F15,Ey X G a15,b15⟩
 have F16:=aV (st:=gO) l16 c16 k16
 have b16:=F16.binds (ps:=["moves", "start"]) λ_ _ _ _ _ _ us hl=>by obtain⟨a0,a1,rfl⟩:=gj hl;rfl
 have D16:Def K mg "makes_net" gO ["moves", "start"] f16 _:=⟨F16,Ey X G a16,b16⟩
 have F17:=aV (st:=zB) l17 c17 k17
 have b17:=F17.binds (ps:=["_law_script", "_law_k"]) λ_ _ _ _ _ _ us hl=>by obtain⟨a0,a1,rfl⟩:=gj hl;rfl
 have D17:Def K mg "_law_at" zB ["_law_script", "_law_k"] f17 _:=⟨F17,Ey X G a17,b17⟩
 have F18:=aV (st:=jC) l18 c18 k18
 have b18:=F18.binds (ps:=["_law_k", "_law_seed"]) λ_ _ _ _ _ _ us hl=>by obtain⟨a0,a1,rfl⟩:=gj hl;rfl
 have D18:Def K mg "_law_name" jC ["_law_k", "_law_seed"] f18 _:=⟨F18,Ey X G a18,b18⟩
 have F19:=aV (st:=gR) l19 c19 k19
 have b19:=F19.binds (ps:=["_law_cell", "_law_names"]) λ_ _ _ _ _ _ us hl=>by obtain⟨a0,a1,rfl⟩:=gj hl;rfl
 have D19:Def K mg "_law_loose_step" gR ["_law_cell", "_law_names"] f19 _:=⟨F19,Ey X G a19,b19⟩
 have F20:=aV (st:=jG) l20 c20 k20
 have b20:=F20.binds (ps:=["_law_drawn"]) λ_ _ _ _ _ _ us hl=>by obtain⟨a0,rfl⟩:=lu hl;rfl
 have D20:Def K mg "_law_made" jG ["_law_drawn"] f20 _:=⟨F20,Ey X G a20,b20⟩
 have F21:=aV (st:=jI) l21 c21 k21
 have b21:=F21.binds (ps:=["_law_script"]) λ_ _ _ _ _ _ us hl=>by obtain⟨a0,rfl⟩:=lu hl;rfl
 have D21:Def K mg "_law_wild" jI ["_law_script"] f21 _:=⟨F21,Ey X G a21,b21⟩
 have F22:=aV (st:=iF) l22 c22 k22
 have b22:=F22.binds (ps:=["_law_ends", "_law_beads"]) λ_ _ _ _ _ _ us hl=>by obtain⟨a0,a1,rfl⟩:=gj hl;rfl
 have D22:Def K mg "_law_behind" iF ["_law_ends", "_law_beads"] f22 _:=⟨F22,Ey X G a22,b22⟩
 have F23:=aV (st:=gL) l23 c23 k23
 have b23:=F23.binds (ps:=["_law_moves", "_law_start"]) λ_ _ _ _ _ _ us hl=>by obtain⟨a0,a1,rfl⟩:=gj hl;rfl
 have D23:Def K mg "_law_least" gL ["_law_moves", "_law_start"] f23 _:=⟨F23,Ey X G a23,b23⟩
 have F24:=aV (st:=gQ) l24 c24 k24
 have b24:=F24.binds (ps:=["_law_moves", "_law_start", "_law_row"]) λ_ _ _ _ _ _ us hl=>by obtain⟨a0,a1,a2,rfl⟩:=sR hl;rfl
 have D24:Def K mg "_law_shows" gQ ["_law_moves", "_law_start", "_law_row"] f24 _:=⟨F24,Ey X G a24,b24⟩
 have F25:=aV (st:=gE) l25 c25 k25
 have b25:=F25.binds (ps:=["_law_drawn", "_law_net"]) λ_ _ _ _ _ _ us hl=>by obtain⟨a0,a1,rfl⟩:=gj hl;rfl
 have D25:Def K mg "_law_web_right" gE ["_law_drawn", "_law_net"] f25 _:=⟨F25,Ey X G a25,b25⟩
 have F26:=aV (st:=m6) l26 c26 k26
 have F27:=aV (st:=j4) l27 c27 k27
 have b27:=F27.binds (ps:=["self", "moves", "start"]) λ_ _ _ _ _ _ us hl=>by obtain⟨a0,a1,a2,rfl⟩:=sR hl;rfl
 have D27:jL K C "__init__" "Net.__init__" j4 ["self", "moves", "start"] f27 _:=⟨F27,⟨a27,i27,k27⟩,b27⟩
 have F28:=aV (st:=jH) l28 c28 k28
 have b28:=F28.binds (ps:=["self"]) λ_ _ _ _ _ _ us hl=>by obtain⟨a0,rfl⟩:=lu hl;rfl
 have D28:jL K C "places" "Net.places" jH ["self"] f28 _:=⟨F28,⟨a28,i28,k28⟩,b28⟩
 have F29:=aV (st:=iJ) l29 c29 k29
 have b29:=F29.binds (ps:=["self"]) λ_ _ _ _ _ _ us hl=>by obtain⟨a0,rfl⟩:=lu hl;rfl
 have D29:jL K C "moves" "Net.moves" iJ ["self"] f29 _:=⟨F29,⟨a29,i29,k29⟩,b29⟩
 have F30:=aV (st:=fD) l30 c30 k30
 have b30:=F30.binds (ps:=["self"]) λ_ _ _ _ _ _ us hl=>by obtain⟨a0,rfl⟩:=lu hl;rfl
 have D30:jL K C "start" "Net.start" fD ["self"] f30 _:=⟨F30,⟨a30,i30,k30⟩,b30⟩
 have F31:=aV (st:=iH) l31 c31 k31
 have b31:=F31.binds (ps:=["self", "move"]) λ_ _ _ _ _ _ us hl=>by obtain⟨a0,a1,rfl⟩:=gj hl;rfl
 have D31:jL K C "must_have" "Net.must_have" iH ["self", "move"] f31 _:=⟨F31,⟨a31,i31,k31⟩,b31⟩
 have F32:=aV (st:=fe) l32 c32 k32
 have b32:=F32.binds (ps:=["self", "move"]) λ_ _ _ _ _ _ us hl=>by obtain⟨a0,a1,rfl⟩:=gj hl;rfl
 have D32:jL K C "takes" "Net.takes" fe ["self", "move"] f32 _:=⟨F32,⟨a32,i32,k32⟩,b32⟩
 have F33:=aV (st:=fT) l33 c33 k33
 have b33:=F33.binds (ps:=["self", "move"]) λ_ _ _ _ _ _ us hl=>by obtain⟨a0,a1,rfl⟩:=gj hl;rfl
 have D33:jL K C "gives" "Net.gives" fT ["self", "move"] f33 _:=⟨F33,⟨a33,i33,k33⟩,b33⟩
 have F34:=aV (st:=iw) l34 c34 k34
 have b34:=F34.binds (ps:=["self", "net"]) λ_ _ _ _ _ _ us hl=>by obtain⟨a0,a1,rfl⟩:=gj hl;rfl
 have D34:jL K CW "__init__" "Web.__init__" iw ["self", "net"] f34 _:=⟨F34,⟨a34,i34,k34⟩,b34⟩
 have F35:=aV (st:=oB) l35 c35 k35
 have b35:=F35.binds (ps:=["self", "places", "giver", "beside"]) λ_ _ _ _ _ _ us hl=>by obtain⟨a0,a1,a2,a3,rfl⟩:=C0 hl;rfl
 have D35:jL K CW "add_spots" "Web.add_spots" oB ["self", "places", "giver", "beside"] f35 _:=⟨F35,⟨a35,i35,k35⟩,b35⟩
 have F36:=aV (st:=eC) l36 c36 k36
 have b36:=F36.binds (ps:=["self", "row"]) λ_ _ _ _ _ _ us hl=>by obtain⟨a0,a1,rfl⟩:=gj hl;rfl
 have BNE:uD K NE:=⟨bNE,rNE,fNE⟩
 have ENE:uy K NE:=⟨_,_,_,_,_,_,_,_,_,_,_,_,_,_,_,_,_,oNE,hNE⟩
 have TCR:wu K CR NR:=⟨_,_,_,_,_,_,_,_,_,_,_,_,_,_,_,oCR,taCR⟩
 have ECR:uy K CR:=⟨_,_,_,_,_,_,_,_,_,_,_,_,_,_,_,_,_,oCR,coCR⟩
 have SCR:vV K CR "row":=⟨saCR,mrCR,tkCR,hdCR⟩
 have WCR:Ca K CR NR f36:=⟨TCR,noCR,a36,⟨_,l36,rfl⟩,kpCR⟩
 have UCR:qO K CR NE:=⟨⟨_,_,_,_,_,_,_,_,_,_,_,_,_,_,_,_,_,oCR,unCR⟩,ENE⟩
 have ICR:tw K CR:=⟨gaCR,gnCR,hmCR,hoCR,hdCR,clCR,xc,xt⟩
 have QCR:wU K NE CR CL CF CH CE CO CC CA CM CN CP CQ CS CX CY CI:=⟨UCR,ICR,⟨gaCR,gnCR,hmCR,hdCR,naCR⟩,q0CR,qvCR,qaCR,qbCR⟩
 refine⟨PySem.W.fnOf "law" "law" (aE m6) (ay m6) (aj m6) .none kV26 dc26 pm26 an26 cd26 ct26,λs v=>.of_eq rfl,λbase _ _ hbm=>?_⟩
 have GI:=yI (P:=l.prog) (w:=w) (mg:=mg) (base:=base) F27 T NC D12 D13 D14 D15 D16
 have GPl:=yt (P:=l.prog) (w:=w) (mg:=mg) (base:=base) F28 T NC
 have GM:=xR (P:=l.prog) (w:=w) (mg:=mg) (base:=base) F29 T NC
 have GS:=wm (P:=l.prog) (w:=w) (mg:=mg) (base:=base) F30 NC
 have GT:=wR (P:=l.prog) (w:=w) (mg:=mg) (base:=base) F32 T NC D12 D31
 have GG:=vE (P:=l.prog) (w:=w) (mg:=mg) (base:=base) F33 T NC D12 D31
 have GL:=vS (P:=l.prog) (w:=w) (mg:=mg) (base:=base) F3 T T2.any NC ⟨_,_,D32,GT⟩
 have GSe:=sQ (P:=l.prog) (w:=w) (mg:=mg) (base:=base) F4 T T2.any NC ⟨_,_,D32,GT⟩ ⟨_,_,D33,GG⟩
 have GB:=sZ (P:=l.prog) (w:=w) (mg:=mg) (base:=base) F5 T NC ⟨_,_,D32,GT⟩ ⟨_,_,D33,GG⟩
 have GMay:=zX (P:=l.prog) (w:=w) (mg:=mg) (base:=base) F6 NC ⟨_,_,D29,GM⟩ ⟨_,_,D3,GL⟩ ⟨_,_,D4,GSe⟩
 have GCd:=qP (P:=l.prog) (w:=w) (mg:=mg) (base:=base) F7 NC ⟨_,_,D29,GM⟩ ⟨_,_,D3,GL⟩ ⟨_,_,D4,GSe⟩
 have GN:=vR (P:=l.prog) (w:=w) (mg:=mg) (base:=base) F8 ⟨_,_,D6,GMay⟩ ⟨_,_,D5,GB⟩
 have GR:=uP (P:=l.prog) (w:=w) (mg:=mg) (base:=base) F9 T (Fd X G z12)
 have GSr:=vi (P:=l.prog) (w:=w) (mg:=mg) (base:=base) F10 NC ⟨_,_,D30,GS⟩ ⟨_,_,D7,GCd⟩ ⟨_,_,D8,GN⟩ ⟨_,_,D9,GR⟩
 have GCr:=oG (P:=l.prog) (w:=w) (mg:=mg) (base:=base) F11 rfl hch hbm ⟨_,_,D10,GSr⟩
 have GBi:=Ax (P:=l.prog) (w:=w) (mg:=mg) (base:=base) F1
 have GMe:=qc (P:=l.prog) (w:=w) (mg:=mg) (base:=base) F2
 have GAd:=yb (P:=l.prog) (w:=w) (mg:=mg) (base:=base) F35 T WC ⟨_,_,D2,GMe⟩ ⟨_,_,D1,GBi⟩
 have XCR:=nV (P:=l.prog) (w:=w) (mg:=mg) (base:=base) F36 T M27.ne BNE TCR SCR
 have YCR:zh l.prog w K mg base CR NR f36 _:=⟨WCR,Ey X G gCR,b36,XCR,ECR⟩
 have GWi:=xl (C:=C) (CW:=CW) F34 T (Fd X G z13) NC WC YCR ⟨_,_,D11,GCr⟩ ⟨_,_,D28,GPl⟩ ⟨_,_,D30,GS⟩ ⟨_,_,D35,GAd⟩
 have GAt:=xJ (P:=l.prog) (w:=w) (mg:=mg) (base:=base) F17 T
 have GNa:=yv (P:=l.prog) (w:=w) (mg:=mg) (base:=base) F18 T
 have GLo:=wJ (P:=l.prog) (w:=w) (mg:=mg) (base:=base) F19 T
 have GMa:=xZ (P:=l.prog) (w:=w) (mg:=mg) (base:=base) F20 T (Ey X G aC) ⟨mk,a27,i27,kc⟩ b27 GI
 have GWl:=yK (P:=l.prog) (w:=w) (mg:=mg) (base:=base) F21 T T2 ⟨_,_,D17,GAt⟩ ⟨_,_,D18,GNa⟩ ⟨_,_,D19,GLo⟩
 have GBe:=Ab (P:=l.prog) (w:=w) (mg:=mg) (base:=base) F22 T T2
 have GLe:=xx (P:=l.prog) (w:=w) (mg:=mg) (base:=base) F23 T ⟨_,_,D22,GBe⟩
 have GSh:=uU (P:=l.prog) (w:=w) (mg:=mg) (base:=base) F24 T ⟨_,_,D22,GBe⟩
 have GRi:=vQ F25 T M27 QCR (Ey X G aW) ⟨mkW,a34,i34,kcW⟩ b34 GWi ⟨_,_,D23,GLe⟩ ⟨_,_,D24,GSh⟩
 have GLw:=Ae F26 ⟨_,_,D21,GWl⟩ ⟨_,_,D20,GMa⟩ D25 GRi
 exact GLw.calm.imp λ_ _ _ _ ⟨a,b,c,d,e,f,g⟩=>⟨a,b,c,d,e,f,g⟩
def walk{l:PySem.W.OpenLaw}{q:Program}{loose:List Str}{XP:(Str->Option Value)->Heap->Prop}{YP:World->Heap->Prop}{d:DefRec}{K:Params->PySem.W.Frag}(hn:l.most=some 63)(hdf:d.params.defaults=[])
  (hY:∀(w:World) (h:Heap),YP w h->(K w.params).In h/\h.get? TB=some (PySem.W.tabObj #[])) (hch:∀w:World,PySem.W.codeHdIn (K w.params) 413 TB=true) (hKT:∀w:World,(K w.params).lookup TB=none)
  (F:∀(w:World) (mg:Str->Option Value) (fa:Addr) (h:Heap),(K w.params).In h->h.Ns mainGlobals mg->mg d.name = some (.ref fa) ->
   ∃fd:FuncData,(∀(s:Shared) (u:Value),BindsTo s fd ⟨[u],[]⟩ [("_law_script",u)])/\∀base:Heap,(K w.params).In base->base.Ns mainGlobals mg->oM mg base->aM l.prog w (K w.params) mg base cW 12 fa fd ["_law_script"] (rT (K w.params))) :
  PySem.W.WalkO q loose XP YP l.row.toRowW d [] (λf vs=>PySem.call f vs) :=
 L2.xq (n:=63) (k:=12) (x:="_law_script") (CX:=λ_=>cW) (sp:=λw=>rT (K w.params)) uL "crowding.<locals>.<lambda>" hn (by decide) hdf ⟨rfl,by decide,by decide,rfl⟩ hY hch hKT F (λ_ _ a ns hl hb hS hT=>⟨a,ns,rfl,hS,hl,hT,λ_=>rfl⟩) λ_ _ _ _ _ z=>z
end Uf
end
section
open PySem PySem.W PyProof.Rows
namespace PySem.W.Fast
def tw7870593027474491050:=()
def tw13650956658135571759:=()
def tw8128818010506175699:=()
def tw8613834210486840773:=()
def tw6766889086285578317:=()
def tw8301518754774410182:=()
def tw7622284123901954251:=()
def tw11249397509602014213:=()
def tw15807147402049999562:=()
def tw2112566642488819709:=()
def tw7261106999331638197:=()
def tw14110942356390927023:=()
def tw14842051229034788429:=()
def tw1754647606759697112:=()
def tw16877355651701700649:=()
def tw17310105112095047034:=()
def tw15811938219217991285:=()
def tw6002789119308000064:=()
def tw2059714066981980095:=()
def tw5066775929558951352:=()
def tw17972481138151114770:=()
def tw6460693936947789372:=()
def tw18105343710565440077:=()
def tw13077723553817920242:=()
def tw4564364471851411793:=()
def tw12689823907355157598:=()
def tw13548084233506301451:=()
def tw1264702077813994884:=()
def tw10525656850049311119:=()
def tw5088862884347562495:=()
def tw18420744488255122517:=()
def tw17610319412617680275:=()
def tw2450844255013305465:=()
def tw4282307057455484530:=()
def tw7030879208649079762:=()
def tw2189584594487547594:=()
def tw14221661892651677112:=()
def tw1132134691596039956:=()
def tw9375622716121887004:=()
def tw13565213507976080181:=()
def tw16288473904229623176:=()
def tw8551805799990079519:=()
def tw14745342314361320586:=()
def tw10813258908719041447:=()
def tw18137341794663582474:=()
def tw282196056617969742:=()
def tw12105782657328736599:=()
def tw11554140793072066357:=()
def tw2072169450378221512:=()
def tw4179635900038039424:=()
def tw5846601536545796627:=()
def tw7633794968388641348:=()
def tw1988447125935653567:=()
def tw8769482501556534608:=()
def tw7757833201129677602:=()
def tw6982442258883785379:=()
def tw9740763196457431110:=()
def tw3916496419160251829:=()
def tw9054395982462623878:=()
def tw10961843646526599541:=()
def tw10158549083044927842:=()
def tw6042706178539239247:=()
def tw16258168071441154929:=()
def tw10094719749374552906:=()
def tw17117264074560106928:=()
def tw15788055049962623055:=()
def tw3988145746091516337:=()
def tw15248689432771547425:=()
def tw10899502114790681306:=()
def tw11700455019774710826:=()
def tw8518083814682704963:=()
def tw7306808790828923319:=()
def tw8782709728756424571:=()
def tw1652151817123476849:=()
def tw3250288277830964976:=()
def tw17702382859715122055:=()
def tw17587428088091432283:=()
def tw8458451832971209158:=()
def tw16195800769964464353:=()
def tw14272625036284732904:=()
def tw18331667801775127560:=()
def tw11750192565054364279:=()
def tw11082100370265392565:=()
def tw2438891458981592914:=()
def tw9426489117636681369:=()
def tw16877701164877378681:=()
def tw12311377804225168522:=()
def tw11935389064265585065:=()
def tw12995549143734237978:=()
def tw17906803482983151146:=()
def tw14285752015591006435:=()
def tw13460722111437259214:=()
def tw17361079361779956366:=()
def tw16430718665005041542:=()
def tw5011324976259635789:=()
def tw1542960710848830035:=()
def tw17741283877414845946:=()
def tw1159350276244617685:=()
def tw5760968727489120311:=()
def tw14238642656376891323:=()
def tw9589939696281846724:=()
def tw9094906644071710520:=()
def tw10836252901895864292:=()
def tw4270918070864418666:=()
def tw8501545376351677560:=()
def tw15844586170051550838:=()
def tw13602548831275807006:=()
def tw10531022886183112166:=()
def tw7538445780815900643:=()
def tw14279618371595891208:=()
def tw5284393480304460270:=()
def tw14230691589752009480:=()
def tw9414802913303127530:=()
def tw16203676125212951592:=()
def tw15021765642264436142:=()
def tw14142858983193745107:=()
def tw9406731497310758384:=()
def tw15439130942618491365:=()
def tw11152496129553369903:=()
def tw12758439328191383023:=()
def tw7933470139466944737:=()
def tw7414336412630060096:=()
def tw17665709144910692058:=()
def tw11366070878467605972:=()
def tw11420434963575677961:=()
def tw12969771881763115045:=()
def tw16576400937324021858:=()
def tw346839249905452531:=()
def tw8360117953381148551:=()
def tw6881831062000465482:=()
def tw14437238553352390012:=()
def tw10959490675109187103:=()
def tw7792930288142092449:=()
def tw6470773355574825803:=()
def tw4177627872916361762:=()
def tw2578091553338565700:=()
def tw6787865438276604935:=()
def tw15864282205277930140:=()
def tw1059821184966695094:=()
def tw10791126686257841123:=()
def tw6313459342597532752:=()
def tw6471293936248711238:=()
def tw158295722841264315:=()
def tw15530172930944517448:=()
def tw2873316109220880301:=()
def tw13782244893475919366:=()
def tw4230918736732511960:=()
def tw11764341519403983900:=()
def tw12066814286027902718:=()
def tw4913572103855749736:=()
def tw3539884749707449927:=()
def tw4404893462583073886:=()
def tw14930702688253303320:=()
def tw17497579715588635575:=()
def tw562769569954754464:=()
def tw14541046824109058547:=()
def tw11946040738260346570:=()
def tw16788439326138463448:=()
def tw14760068956396389365:=()
def tw4828055761551162788:=()
def tw5299189597502917867:=()
def tw476004392903034687:=()
def tw10623447272020230447:=()
def tw6627197870990076940:=()
def tw15579660450709244530:=()
def tw729616016553525365:=()
def tw3782792928657134631:=()
def tw9492535611064518112:=()
def tw6201448642325570549:=()
def tw11151302702331823382:=()
def tw17831440017329601909:=()
def tw14862985206397361689:=()
def tw7461473363135075615:=()
def tw17792733520168742588:=()
def tw11586373563868579566:=()
def tw5547984464791179927:=()
def tw6036940667531992116:=()
def tw6184342686620407893:=()
def tw12679959182211680591:=()
def tw2048682069131862734:=()
def tw1239581826510734100:=()
def tw6141701805550132603:=()
def tw455262721864779263:=()
def tw1026744011429395038:=()
def tw264839814067483670:=()
def tw4763957804076461783:=()
def tw5798814033787048108:=()
def tw1395299472940609304:=()
def tw15252470769860931999:=()
def tw14372718904571617887:=()
def tw5881383831875419040:=()
def tw12070684658932188735:=()
def tw12386657556314392375:=()
def tw12996890708597827931:=()
def tw303936530882477441:=()
def tw6815894167818950446:=()
def tw2644944881068431636:=()
def tw1225720925699434943:=()
def tw477197516574887688:=()
def tw4757986347984784506:=()
def tw4408997040829605546:=()
def tw5251748932465567035:=()
def tw11817229386256109411:=()
def tw7369874661401686033:=()
def tw7202652322031744019:=()
def tw332549671482693009:=()
def tw7217103988768150152:=()
def tw11240539595873752090:=()
def tw17296247864692064335:=()
def tw9454549151624249114:=()
def tw5075157933534533450:=()
def tw5854356767713603527:=()
def tw18087164361998935056:=()
def tw17682990283596901960:=()
def tw15269275123525226411:=()
def tw2769971072699865721:=()
def tw18258400721958832530:=()
def tw8547084732456805983:=()
def tw9527221926873421534:=()
def tw12757336421650463005:=()
def tw12734835892856772616:=()
def tw15318273698852190852:=()
def tw11367110075415115175:=()
def tw3742856445771888848:=()
def tw10493351154318833899:=()
def tw10015172668012854286:=()
def tw11927824265273734924:=()
def tw9292294258200754982:=()
def tw13363400114116886415:=()
def tw13891328465709470582:=()
def tw7098383461230940121:=()
def tw10291755048332963171:=()
def tw10459952662926806341:=()
def tw220221241180978952:=()
def tw13996355227881457690:=()
def tw9182101893102126648:=()
def tw252956867540926989:=()
def tw12276991882013166992:=()
def tw4663566149682681565:=()
def tw13931727653682420878:=()
def tw18213920194693911309:=()
def tw14622882253150378620:=()
def tw14428934242883782675:=()
def tw12883118621602146485:=()
def tw1366183283207383853:=()
def tw12698941614678062668:=()
def tw8872056593360672199:=()
def tw16326414453041237225:=()
def tw14305931275683106370:=()
def tw606604069348353131:=()
def tw13455026823033456295:=()
def tw133842268780717882:=()
def tw13064959346618903470:=()
def tw13542462403594086367:=()
def tw11839818620267742727:=()
def tw6685145090422739066:=()
def tw5373907837304635363:=()
def tw17713364505716199233:=()
def tw11953322008379871792:=()
def tw12462959757636816214:=()
def tw12349710304350435598:=()
def tw6878611545584605464:=()
def tw8285680962952288799:=()
def tw4846463835758354660:=()
def tw6510803615492743609:=()
def tw8826190688073408607:=()
def tw13057151182643978271:=()
def tw6276233058687963665:=()
def tw14031090439546907013:=()
def tw11750411294978571617:=()
def tw13316443452841673007:=()
def tw10371529929340300436:=()
def tw7106077386000151830:=()
def tw9307704856243841271:=()
def tw13812043616829001441:=()
def tw2293798779384238404:=()
def tw12105664873652785437:=()
def tw298106021716793527:=()
def tw5998699796500981072:=()
def tw5534749023219959755:=()
def tw9586915352673565059:=()
def tw457973498127106126:=()
def tw18411952790208787498:=()
def tw1033684373528176674:=()
def tw7411206957681769096:=()
def tw16979860243139996036:=()
def tw14354275542264223822:=()
def tw3272382195615510947:=()
def tw16337934473643205988:=()
def tw14345297761749098770:=()
def tw597393599833586270:=()
def tw6396208205781661230:=()
def tw5655502412114951981:=()
def tw15510275185723556138:=()
def tw17847837911547723127:=()
def tw285835508234074435:=()
def tw17596110478077686706:=()
def tw17174270645534861165:=()
def tw10906264553474291230:=()
def tw12536219749687379648:=()
def tw4697373661900363933:=()
def tw14607581791434006514:=()
def tw6542201977973725390:=()
def tw3267798410146121927:=()
def tw3608499144938654278:=()
def tw6254179045399621359:=()
def tw1422922669113883885:=()
def tw11393234590771860119:=()
def tw17307092198928725235:=()
def tw194026985510602526:=()
def tw9812479738483174290:=()
def tw51425051332738020:=()
def tw17579207868839042879:=()
def tw3523441416357442166:=()
def tw7435811923134071282:=()
def tw14621010614461531347:=()
def tw4007920519200752061:=()
def tw11121300624085783736:=()
def tw2717891851863531890:=()
def tw13968638099707637400:=()
def tw8101729766917181410:=()
def tw4479716197859202423:=()
def tw17582408324681655807:=()
def tw8962294596351137705:=()
def tw15871560301154231570:=()
def tw13697358185768905059:=()
def tw17052017805398911018:=()
def tw14775851266542969194:=()
def tw12559558396980073877:=()
def tw5549760677621606150:=()
def tw3492788284864962326:=()
def tw2185975617315693370:=()
def tw17172777748494937332:=()
def tw18074575801881163670:=()
def tw3909238457825905380:=()
def tw9191904921594136421:=()
def tw17559359001357930119:=()
def tw3333263185045117293:=()
def tw2490979900802127533:=()
def tw4710833262479339206:=()
def tw6193108553159654329:=()
def tw7158865494171349200:=()
def tw12411656337568999045:=()
def tw12627525790773120211:=()
def tw5136345898003951935:=()
def tw18266318199309274515:=()
def tw6133560308211023295:=()
def tw11026783095285557821:=()
def tw15538129481271277040:=()
def tw12920184574659638322:=()
def tw5326080023724939802:=()
def tw13692005269330039380:=()
def tw3410528337730936700:=()
def tw17151933513949021172:=()
def tw7442664034156174167:=()
def tw4389300494089923611:=()
def tw12794415622333679242:=()
def tw4628018106751450417:=()
def tw13941730942690803326:=()
def tw18122946101504794268:=()
def tw15862457183682383930:=()
def tw10051689733609459495:=()
def tw15737079582617409725:=()
def tw321762319403821072:=()
def tw6040814192904411597:=()
def tw12033472544505167693:=()
def tw7156704294402321761:=()
def tw11433241593542980131:=()
def tw9903210199556642408:=()
def tw12036014140496194810:=()
def tw731134719726381366:=()
def tw3019368079147512167:=()
def tw15650139321425009549:=()
def tw16378961718399728255:=()
def tw10138817459011303115:=()
def tw18002031325671115848:=()
def tw7834907455748009842:=()
def tw1005795755815687300:=()
def tw2210961512751240954:=()
def tw18297981056121894718:=()
def tw902059786725615380:=()
def tw11490235307106769883:=()
def tw9480391438260850326:=()
def tw9644548988604264280:=()
def tw13109597893727279652:=()
def tw11023385744500326536:=()
def tw3505759463970336602:=()
def tw9842443077092952679:=()
def tw9805808435568127459:=()
def tw2503478384944919306:=()
def tw18423618753018665566:=()
def tw9216407393702782122:=()
def tw2258659695690117986:=()
def tw422076017500180991:=()
def tw5825926722204494251:=()
def tw12260108712629751340:=()
def tw6622281066900493668:=()
def tw10031398947438926462:=()
def tw4889871684113905774:=()
def tw6171334207544516575:=()
def tw17610651229546507487:=()
def tw11426178553127936037:=()
def tw14581775086178334026:=()
def tw4324386478212427657:=()
def tw314924982966962769:=()
def tw16899629946091136026:=()
def tw1845216723783455817:=()
def tw6685929658783122876:=()
def tw1184490562947267186:=()
def tw13778997624373508772:=()
def tw9018392507507145086:=()
def tw2793669017989307616:=()
def tw101108006896450763:=()
def tw778999366216468176:=()
def tw17245393288477423541:=()
def tw14878298956694692119:=()
def tw14623665318218486300:=()
def tw9376584224699211662:=()
def tw12218214328460341286:=()
def tw1750929930553666266:=()
def tw11388239306628612349:=()
def tw17705440139672509066:=()
def tw4452765692494162479:=()
def tw4123373172814210398:=()
def tw8509429671917700758:=()
def tw11661428281758127254:=()
def tw3236661005183555800:=()
def tw76410476313270470:=()
def tw11223893183795624596:=()
def tw8715353456027434164:=()
def tw15835483374270510542:=()
def tw4122283823111043283:=()
def tw15706931101265005936:=()
def tw6927909745341287365:=()
def tw3673763173281336543:=()
def tw18158054659856669985:=()
def tw230034708210711184:=()
def tw9827097773225184825:=()
def tw8629026919343273580:=()
def tw18225594686487251650:=()
def tw10846902492459641604:=()
def tw12020714387095983454:=()
def tw5044930006048619212:=()
def tw11787066143472392656:=()
def tw6140365426472292848:=()
def tw14123774680142032936:=()
def tw9809150569210692146:=()
def tw550434730023247632:=()
def tw17390939457952984441:=()
def tw14893733305694590042:=()
def tw5629294110886882969:=()
def tw16505437860557390153:=()
def tw3163351330464891540:=()
def tw16979832933125351960:=()
def tw12762654447687212278:=()
def tw8980990994613871910:=()
def tw15511763515863611583:=()
def tw13680715458674355424:=()
def tw587572767617676554:=()
def tw5850202408779544594:=()
def tw4130722789364338747:=()
def tw10398996012959433267:=()
def tw1795724827781695677:=()
def tw13170498321940200637:=()
def tw17415424547078901311:=()
def tw10681374017554835710:=()
def tw10517299111344905916:=()
def tw7721834963783376158:=()
def tw13269594474973011783:=()
def tw14303984104991221491:=()
def tw2986046340049497985:=()
def tw13169765720632266967:=()
def tw13275956281868316007:=()
def tw8029142745128339409:=()
def tw12227035686611602972:=()
def tw7903586773410043525:=()
def tw3194093690787153190:=()
def tw9902812401696765769:=()
def tw4121820882780514729:=()
def tw1812507317866587451:=()
def tw12018418846038096766:=()
def tw16701171119316923585:=()
def tw7627126189770155123:=()
def tw11372347826868926182:=()
def tw15899230325233278060:=()
def tw4096171149045673832:=()
def tw10157965666088790789:=()
def tw15683375078237832057:=()
def tw1071164552356747828:=()
def tw13040423491312360505:=()
def tw8424344773383306518:=()
def tw9916002367456084543:=()
def tw2126129336887774164:=()
def tw1053423940506654185:=()
def tw10952654071541136674:=()
def tw7231266376075167513:=()
def tw17123024314541723815:=()
def tw3012815039788393977:=()
def tw17947368405893205272:=()
def tw4277179914834767033:=()
def tw12990229958555402392:=()
def tw12283316226122480045:=()
def tw5071383636450252373:=()
def tw6778156948292585996:=()
def tw8748982216893884971:=()
def tw1236188527805771915:=()
def tw11990011037816002470:=()
def tw11463846669328987850:=()
def tw4549915367087581744:=()
def tw1684835520963067429:=()
def tw8355613947879006900:=()
def tw11037950018068758659:=()
def tw13242170505902109542:=()
def tw675128044196567048:=()
def tw15126538067513755356:=()
def tw18359153931141801574:=()
def tw16689178746719368152:=()
def tw3250106086555694801:=()
def tw1091450123613016172:=()
def tw15848073459293603775:=()
def tw4972523931945854382:=()
def tw11648317190782792557:=()
def tw16128287082638061543:=()
def tw14848197264277584734:=()
def tw17666629273151722661:=()
def tw10083609562646149130:=()
def tw12874175194403044077:=()
def tw17111027139197682998:=()
def tw2039732276331795152:=()
def tw13957216695405279799:=()
def tw9281741276990552115:=()
def tw4214214695018333755:=()
def tw16492800740876332442:=()
def tw6589645302826576638:=()
def tw3116589115272582137:=()
def tw157447395501591739:=()
def tw5668701320270145894:=()
def tw16440303801752627322:=()
def tw13461162419767518276:=()
def tw7593310329692757804:=()
def tw6787108936268938167:=()
def tw6585299539021085345:=()
def tw10807363713277925198:=()
def tw9372592564950296810:=()
def tw15134995815514736369:=()
def tw16473431453417195039:=()
def tw5921460455680646080:=()
def tw12525100018370618732:=()
def tw6345023692930150221:=()
def tw7840770488547025468:=()
def tw8021518442900237843:=()
def tw16167929075695738633:=()
def tw17546227563129429063:=()
def tw696395867569765778:=()
def tw14603812451154073054:=()
def tw8662218735550399934:=()
def tw16679970209912087305:=()
def tw5078017309831573301:=()
def tw18109256774486529728:=()
def tw14954652787516680441:=()
def tw2059527665851043311:=()
def tw6017663629909708442:=()
def tw8472114325362431782:=()
def tw8044526343859630359:=()
def tw7661471079529331059:=()
def tw8855629345314854575:=()
def tw1721320278678053392:=()
def tw16588145857895536233:=()
def tw10879227726508457245:=()
def tw5209433498516532381:=()
def tw10657175882204854714:=()
def tw11365296373935936866:=()
def tw1729868609853535838:=()
def tw4831331724211725722:=()
def tw17320643686834261515:=()
def tw120031823791760545:=()
def tw9380898335054706728:=()
def tw3154693104449912828:=()
def tw12531892529850644715:=()
def tw4779114537161820139:=()
def tw18205204338198416484:=()
def tw7249146100652445568:=()
def tw6546640326382524773:=()
def tw6814977449362208380:=()
def tw15135740815824405488:=()
def tw6033924305835942687:=()
def tw3187645920522263781:=()
def tw11200425239185439563:=()
def tw12444932403243124075:=()
def tw9325443238548626252:=()
def tw16434347077687889439:=()
def tw17583404590069337065:=()
def tw8224180388226285668:=()
def tw5711493165505463938:=()
def tw7743574658881379655:=()
def tw16562120861548495404:=()
def tw12683803059010324105:=()
def tw10315585244262430654:=()
def tw15704145431381624938:=()
def tw10634125873520887101:=()
def tw17447329193159444359:=()
def tw2862768133280310593:=()
def tw12014758324793935389:=()
def tw13057953933572049312:=()
def tw5962217355800249130:=()
def tw8969781832175501293:=()
def tw177704757916004492:=()
def tw6944675911768315372:=()
def tw4751814287572324299:=()
def tw2133210389393459990:=()
def tw13342624365236691053:=()
def tw1670282612192674583:=()
def tw5863364329444666316:=()
def tw12412615750920583044:=()
def tw14934132261579583533:=()
def tw9175685687965840531:=()
def tw8858581002677205113:=()
def tw14176746594816654025:=()
def tw4708777042153351831:=()
def tw11502999827037819929:=()
def tw17179462439940004632:=()
def tw6336251154558664974:=()
def tw11519059145780692384:=()
def tw3349092200753289847:=()
def tw17629626116703616849:=()
def tw1578092042249774092:=()
def tw2364871757698400242:=()
def tw8697150919785363626:=()
def tw13352552638095385845:=()
def tw11777155501131324538:=()
def tw9360629476335093565:=()
def tw14656816340979295844:=()
def tw9394004993354265754:=()
def tw776744968607002011:=()
def tw6301577487864749077:=()
def tw924299911362376578:=()
def tw11820403765020011057:=()
def tw5679906866960243508:=()
def tw14531707474870072646:=()
def tw5044882142992962356:=()
def tw8162925194363079721:=()
def tw14455160120822361836:=()
def tw3218971424702725567:=()
def tw13605622319699241145:=()
def tw12012862420823754888:=()
def tw5980840969097692929:=()
def tw14554850937378210930:=()
def tw7266822824292653239:=()
def tw13432700396346187272:=()
def tw6221534275712676176:=()
def tw10289289185370294899:=()
def tw7500100065233503827:=()
def tw12548686757371381698:=()
def tw17492278529020995177:=()
def tw12088242301883435138:=()
def tw12174135710373516231:=()
def tw490197486163287191:=()
def tw18169216504720277353:=()
def tw11777965778844673697:=()
def tw8941180852903638611:=()
def tw2713999880001925049:=()
def tw13800359842521307791:=()
def tw16192383818477348940:=()
def tw8264882768079883829:=()
def tw209518402492990457:=()
def tw12237498066727637364:=()
def tw17200745500334037971:=()
def tw7577260942616637744:=()
def tw11978498868861836417:=()
def tw7970951861802639738:=()
def tw12422961511784595445:=()
def tw16523817768075146957:=()
def tw10032585578648776352:=()
def tw14179487471926170760:=()
def tw12977436221685049369:=()
def tw271227627618719692:=()
def tw9699205950023746326:=()
def tw14731144037166347747:=()
def tw6660502918647586652:=()
def tw13062203411589324826:=()
def tw12560311540289031160:=()
def tw9483954301142369803:=()
def tw12602813940142256753:=()
def tw5451850865577225041:=()
def tw17785715647466353941:=()
def tw2973025346638141760:=()
def tw7352626150045453545:=()
def tw8461208414043439243:=()
def tw8725720452859960315:=()
def tw5070059458530214498:=()
def tw16487006367804946930:=()
def tw6267069948551587922:=()
def tw16070014364764253853:=()
def tw14637361677579145511:=()
def tw8882371774018981687:=()
def tw5695198112561553510:=()
def tw7878975535203886093:=()
def tw5798130201762270009:=()
def tw5868727665290387910:=()
def tw17344948716862465412:=()
def tw12490167162159745429:=()
def tw10537352465259789119:=()
def tw14212715443205288469:=()
def tw18441730469193231551:=()
def tw8577924234629109864:=()
def tw15275095067183514961:=()
def tw9995077853248300246:=()
def tw5761984537485555102:=()
def tw535285535254755096:=()
def tw8684358978344911726:=()
def tw5617633864807378187:=()
def tw462440440211646377:=()
def tw4925322455286424507:=()
def tw11530578011260704823:=()
def tw4342412862454880655:=()
def tw11396377323306392700:=()
def tw2315517418540231051:=()
def tw2482025663186708193:=()
def tw5204499386976877395:=()
def tw10006896719844274435:=()
def tw13059334092115553204:=()
def tw11560813945549706501:=()
def tw3663669358603095972:=()
def tw13676195983866199935:=()
def tw17523407331501203623:=()
def tw14138412459977692914:=()
def tw6248388480428433237:=()
def tw5879565407188916328:=()
def tw9732123139091492881:=()
def tw1811971434296345462:=()
def tw13549133567219837214:=()
def tw13753471237053193228:=()
def tw9030892198536575949:=()
def tw8778414375802521577:=()
def tw16984199017564572120:=()
def tw4123197462848675599:=()
def tw13425703381006914025:=()
def tw14519634906343959396:=()
def tw15495936432820715928:=()
def tw1062738253845660598:=()
def tw2184699491998552881:=()
def tw5667982041969736239:=()
def tw15714077975864518857:=()
def tw8860008046620154715:=()
def tw17666886723929110227:=()
def tw4102095702460979535:=()
def tw7652542367989123512:=()
def tw666939578349802406:=()
def tw10351017761915735144:=()
def tw675382618501088084:=()
def tw11806630188025982548:=()
def tw11555236640830266959:=()
def tw1568263139264851622:=()
def tw2722121077758844526:=()
def tw16202160664751374917:=()
def tw17571361745440365977:=()
def tw9327374405658496563:=()
def tw18000135551319767237:=()
def tw6403125899562800477:=()
def tw16872306447703879188:=()
def tw15944774363914038925:=()
def tw569634986790891202:=()
def tw13424757118882856898:=()
def tw5369192850659140449:=()
def tw3242171953981882181:=()
end PySem.W.Fast
set_option maxRecDepth 100000 in
set_option maxHeartbeats 0 in
theorem PySem.Challenge.cw_unfoldnet_k27_nets_that_crowd_holds : PySem.Challenge.rw_unfoldnet_k27_nets_that_crowd.Holds := by
 w_on;o_law;k_head;(case hw=>w_witness2)
 k_fill
 refine Uf.walk (l:=PySem.Challenge.rw_unfoldnet_k27_nets_that_crowd) rfl rfl (fun w h Y=>⟨PySem.W.km_in_of Y,PySem.W.km_tabs_of Y _ EY⟩) (fun w=>by kernel_rfl) (fun w=>by kernel_rfl) ?F
 case F =>
  intro w mg fa h KX G hmg
  refine' Uf.all_mk KX G hmg ..
  all_goals first|k_is|rfl|kernel_rfl|decide +kernel|skip
  all_goals exact PySem.Value.none
end
