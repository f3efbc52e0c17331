import PyProof.Rows.All
import Wide.All
import OpenK.AllK
import Wide.FinOn
import Lean
import PyProof.EqAt
import PyProof.EqKinds
import PyProof.TupleCall
import PyProof.SetKind
import PyProof.DictKinds
import PyProof.CompFree
import PyProof.FactsAll.set_1
import PyProof.Seq
import PyProof.Walks
import PyProof.CollectWalk
import PyProof.WalkLemmas
import PyProof.Rows.TmSorted
import PyProof.Rows.StrMeet
import PyProof.Rows.SortStr
import PyProof.Rows.SetFrom
import KE.KDictList
import PyProof.NeKinds
import PyProof.Rows.TupDisplay
import PyProof.StrOps2
import PyProof.StrBlockH
import PyProof.Rows.RuleM_int
import PyProof.FactsAll.int_6
import PyProof.AttrMissHeap
import KE.KDictOf
import PyProof.WalksEnum
import PyProof.EnumMake
import PyProof.StrCalls2
import PyProof.StrLawsTight
import PyProof.StrLawsFirst
import PyProof.DictValues
import PyProof.DictWalks
import KE.KPairComp
import PyProof.DictItems
import PyProof.Rows.SortShellK
import KE.KEqDict
import PySem.Challenge.RW_unfoldnet_k21_webs_by_hand
set_option Elab.async false
set_option linter.all false
set_option maxRecDepth 100000
set_option maxHeartbeats 8000000
local macro_rules|`(#[$x,*])=>do
 let mut y:Array (Lean.TSyntax `term):=#[]
 if x.getElems.size==0 then return <-`(List.toArray [])
 if x.getElems.back?.any (·.raw.getId==`Z) then
  let i:=Lean.mkIdent
  if x.getElems.size==3 then return <-`($(x.getElems[0]!) (P:=$(i `l.prog)) (w:=$(i `w)) (mg:=$(i `mg)) (base:=$(i `base)) (C:=$(i `C)) (CW:=$(i `CW)))
  return <-`($(x.getElems[0]!) (P:=$(i `l.prog)) (w:=$(i `w)) (mg:=$(i `mg)) (base:=$(i `base)))
 for z in x.getElems do
  if z.raw.getId==`Z then y:=(y.push (<-`(_))).push (<-`(rfl)) else y:=y.push z
 `(⟨$y,*⟩)
local macro_rules|`(tactic|apply $e)=>`(tactic|refine $e)
variable{P prog:PySem.Program}{w:PySem.World}{K:PySem.W.Frag}{mg:PySem.Str->Option PySem.Value}{base:PySem.Heap}{A:PySem.Around}{E:PySem.Value->PySem.Shared->Prop}{s:PySem.Shared}
def K3:=@PySem.wpAny_bind
def K4:=@List.length_map
def K5:=@List.length_append
def K6:=@PySem.wpAny_pure
def K7:=@List.getElem?_eq_getElem
def K8:=@PySem.Heap.get?_push_of_some
def K9:=@List.mem_append
def La:=@Nat.le_refl
def Lb:=@List.getD_eq_getElem?_getD
def Lc:=@List.mem_cons
def Ld:=@PyProof.Rows.wpS_bind
def Le:=@if_neg
def Lf:=@List.length_take
def Lg:=@List.mem_of_getElem?
def Lh:=@List.getElem?_eq_some_iff
def Li:=@PySem.Heap.lt_size
def Lj:=@List.mem_append_left
def Lk:=@decide_eq_true
def Ll:=@List.map_append
def Lp:=@List.mem_append_right
def Lq:=@decide_eq_false
def Lr:=@PySem.F.plainAttrs_list
def Ls:=@if_pos
def Lu:=@List.size_toArray
def Lv:=@PySem.F.slot_list_append
def Lw:=@PySem.F.type_list_append
def Lx:=@PyProof.Rows.wpS_pure
def Ly:=@PySem.Heap.get?_push_size
def Lz:=@PySem.Paired.length
def LA:=@Nat.zero_le
def LB:=@Nat.ne_of_lt
def LC:=@PySem.PassesOwn.never
def LD:=@List.getElem?_map
def LF:=@Nat.lt_of_lt_of_le
def LG:=@PySem.sizeLine_eq
def LH:=@List.take_length
def LI:=@Bool.false_ne_true
def LJ:=@List.mem_cons_of_mem
def LK:=@List.mem_cons_self
def LM:=@Nat.le_trans
def LN:=@List.length_cons
def LO:=@Ne.symm
def LP:=@decide_eq_true_eq
def LQ:=@List.mem_map
def LR:=@List.not_mem_nil
def LS:=@Option.some.inj
def LU:=@Bool.and_eq_true_iff
def LV:=@Bool.eq_iff_iff
def LW:=@Int.toNat_natCast
def LX:=@Nat.pow_le_pow_right
def LY:=@List.map_map
def LZ:=@List.mem_singleton
def L0:=@PyProof.Rows.wpS_forRange
def L1:=@List.nodup_append
def L3:=@Nat.lt_succ_of_lt
def L4:=@List.mem_filter
def L5:=@Bool.false_eq_true
def L6:=@congrArg
def L7:=@PySem.sizeLine_eq
def L8:=@Nat.lt_of_le_of_lt
def L9:=@Int.emod_lt_of_pos
def Ma:=@List.getElem?_eq_none
def Mb:=@List.getElem?_append_left
def Mc:=@Int.emod_nonneg
def Md:=@Bool.and_eq_true
def Me:=@Nat.lt_irrefl
def Mf:=@PySem.wpAny_truthy_bool
def Mg:=@PySem.Heap.SameBut.update
def Mh:=@List.map_cons
def Mi:=@decide_eq_decide
def Mj:=@PySem.wpAny_newObj_type
def Ml:=@of_decide_eq_true
def Mm:=@List.mem_of_mem_take
def Mn:=@PySem.wpAny_holding
def Mo:=@List.nodup_cons
def Mp:=@List.length_drop
def Mq:=@Nat.le_succ
def Mr:=@List.append_assoc
def Ms:=@PyProof.Rows.slot_tuple_getitem
def Mt:=@or_false
def Mw:=@Int.eq_ofNat_of_zero_le
def Mx:=@PyProof.Rows.wpS_mono
def My:=@List.filter_append
def Mz:=@List.all_eq_true
def MA:=@beq_eq_false_iff_ne
def MB:=@Array.length_toList
def MC:=@Array.getElem?_toList
def MD:=@List.length_filter_le
def ME:=@PySem.W.mg_none_of
def MF:=@PySem.W.kia_one
def MG:=@PySem.wpAny_call_entry
def MH:=@List.any_eq_true
def MI:=@List.getElem?_append_right
def MJ:=@PySem.Heap.size_push
def MK:=@PySem.Heap.get?_update_other
def ML:=@PySem.Paired.snoc
def MM:=@Nat.testBit_lt_two_pow
def MN:=@List.take_of_length_le
def MO:=@PySem.wpAny_mono
def MP:=@List.foldl_cons
def MQ:=@List.length_replicate
def MR:=@PySem.Heap.get?_update_self
def MS:=@Nat.lt_succ_self
def MT:=@if_false
def MU:=@PySem.F.called_set
def MV:=@PySem.wpAny_rule
def MY:=@PySem.Around.under_plainId
def MZ:=@List.foldl_append
def M0:=@Bool.or_eq_true
def M3:=@PySem.wpAny_setEntries_of
def M4:=@Nat.ne_of_gt
def M5:=@List.lookup_cons
def M6:=@Nat.zero_testBit
def M7:=@List.mem_range
def M8:=@PySem.wpAny_setField
def M9:=@Nat.testBit_or
def Na:=@List.forIn_cons
def Nb:=@PySem.codeAny_builtin
def Nc:=@Nat.testBit_and
def Nd:=@List.any_cons
def Nf:=@List.map_take
def Ng:=@PySem.mem_of_lookup
def Nh:=@PySem.Heap.size_update
def Ni:=@List.drop_of_length_le
def Nj:=@PyProof.Rows.wpS_modify
def Nk:=@Nat.zero_add
def Nl:=@PyProof.Rows.F.plain_set_update_loop
def Nn:=@PySem.wpAny_passesOwn
def Np:=@List.length_singleton
def Nq:=@List.find?_cons
def Nr:=@List.take_append_drop
def Nt:=@Bool.true_and
def Nu:=@List.take_sublist
def Nv:=@PySem.wpAny_setState_of
def Nw:=@Array.toList_push
def Nx:=@beq_iff_eq
def Ny:=@Nat.eq_of_testBit_eq
def Nz:=@Nat.lt_pow_two_of_testBit
def NB:=@PySem.wpAny_typeOf
def ND:=@PySem.wpAny_askSetting
def NF:=@Nat.sub_self
def NG:=@Nat.testBit_two_pow
def NH:=@List.getElem?_replicate
def NI:=@PySem.wpAny_callSpecial?_slot
def NJ:=@PySem.wpAny_getItem_str_slice
def NK:=@Bool.or_false
def NL:=@PySem.plainId_quiet
def NM:=@PyProof.Rows.wpS_get
def NN:=@List.append_nil
def NO:=@List.length_nil
def NP:=@PySem.SeqAt.EqAt.same
def NQ:=@PySem.wpAny_specialOf
def NR:=@Sum.inr.inj
def NS:=@Option.map_eq_some_iff
def NT:=@List.eq_nil_of_length_eq_zero
def NU:=@PySem.wpAny_pyIter_list
def NV:=@PySem.SeqAt.RcAt.tuples
def NW:=@Array.getElem_mem
def NX:=@PySem.builtinLookup_eq_fast
def NY:=@PySem.wpAny_fieldsOf
def NZ:=@List.all_map
def N4:=@PyProof.Rows.callWith_type1
def N5:=@Nat.testBit_two_pow_mul_add
def N8:=@Nat.testBit_two_pow_sub_one
def Oa:=@List.getElem_mem
def Ob:=@PyProof.Rows.size_push'
def Oc:=@List.map_drop
def Od:=@if_true
def Oe:=@PySem.W.mg_of
def Of:=@List.flatMap_append
def Og:=@List.filter_sublist
def Oh:=@List.replicate_succ
def Oi:=@PySem.Calls.call_function_entry
def Oj:=@List.drop_eq_getElem_cons
def Ol:=@Classical.byContradiction
def Om:=@List.range_succ
def Oo:=@Int.natCast_nonneg
def Oq:=@PySem.codeAny_mono
def Ot:=@PySem.wpAny_Call_Name_kw
def Ou:=@List.Perm.eq_of_pairwise
def Ov:=@List.pairwise_cons
def Ow:=@PyProof.Rows.F.entry_set_update_loop
def Ox:=@PySem.F.slot_list_getattribute
def Oy:=@Array.size_extract
def Oz:=@Bool.false_and
def OA:=@Bool.and_false
def OB:=@List.drop_zero
def OC:=@bne_iff_ne
def OD:=@PySem.fits_of_scanBound
def OE:=@List.take_add_one
def OF:=@List.pairwise_map
def OG:=@PySem.Heap.get?_push_ne
def OH:=@PySem.F.slot_tuple_hash
def OI:=@PySem.Calls.callWith_builtin
def OJ:=@List.filter_eq_nil_iff
def OL:=@List.all_cons
def OM:=@Bool.not_true
def ON:=@PySem.wpAny_isInstance
def OO:=@Nat.lt_of_not_le
def OP:=@PyProof.Rows.wpS_lift
def OQ:=@PySem.Heap.get?_none_of_le
def OR:=@PySem.wpAny_execs_nil
def OS:=@PySem.typeLookup_type
def OT:=@Array.toArray_toList
def OU:=@List.any_map
def OV:=@PySem.post_val_or_str
def OW:=@Int.zero_add
def OX:=@Nat.min_eq_left
def OY:=@PySem.W.plainGet_of
def OZ:=@List.map_congr_left
def O8:=@PySem.wpAny_seqItems
def Pa:=@List.forIn_nil
def Pb:=@List.mem_filterMap
def Pc:=@PySem.W.callWith_K
def Pd:=@PySem.SeqAt.notIn_listAt
def Pe:=@PySem.tupleKind_room_in1
def Pf:=@List.getElem?_drop
def Pg:=@not_or
def Ph:=@List.map_inj_right
def Pj:=@Array.forIn_toList
def Pk:=@PySem.Calls.Name_function_global
def Pl:=@Int.fdiv_eq_ediv_of_nonneg
def Pm:=@PySem.wpAny_newList
def Pn:=@List.fst_mem_of_mem_zipIdx
def Po:=@Option.isSome_map
def Pp:=@PySem.call_meets
def Pq:=@PySem.F.plain_extend_loop
def Pt:=@List.pairwise_iff_getElem
def Pu:=@Nat.le_of_lt
def Pw:=@Nat.le_of_eq
def Px:=@List.map_nil
def Py:=@PySem.wpAny_comprehension_free
def Pz:=@PySem.Txt.slice_le
def PB:=@List.filter_cons
def PF:=@List.mem_flatMap
def PH:=@Bool.not_eq_true
def PJ:=@Nat.min_eq_right
def PK:=@PyProof.Rows.listItems_at
def PL:=@PySem.wpAny_Call_method0_late
def PM:=@Option.bind_eq_some_iff
def PN:=@PySem.F.plain_list_iadd
def PQ:=@List.pairwise_mergeSort
def PR:=@PySem.F.slot_dict_items
def PU:=@List.of_mem_zip
def PV:=@PySem.wpAny_ite_split
def PX:=@Nat.two_pow_pos
def PY:=@List.nil_append
def PZ:=@List.getElem?_set_self
def P9:=@PySem.W.cellsFrom_some
def Qa:=@List.range_succ_eq_map
def Qb:=@Nat.mul_one
def Qc:=@List.map_id
def Qd:=@PySem.W.methodCall_KW
def Qe:=@PySem.isSubtype_type
def Qf:=@PySem.F.slot_set_iter
def Qg:=@PySem.F.plain_set_new
def Qh:=@List.mem_iff_getElem?
def Qi:=@Array.size_map
def Qj:=@List.getElem?_set_ne
def Qk:=@PySem.typeIs_str
def Ql:=@List.length_eraseIdx
def Qm:=@List.replicate_succ'
def Qn:=@List.mem_of_mem_drop
def Qo:=@List.mem_iff_getElem
def Qp:=@PySem.wpAny_standAt
def Qq:=@Bool.false_or
def Qr:=@PySem.wpAny_attempt
def Qs:=@Nat.mul_assoc
def Qt:=@Bool.and_true
def Qu:=@PySem.evalArgs_none
def Qv:=@Nat.add_le_add_left
def Qw:=@Option.bind_eq_bind
def Qx:=@List.mergeSort_perm
def Qy:=@Array.toList_modify
def Qz:=@Nat.add_zero
def QA:=@Nat.sub_zero
def QB:=@getElem?_pos
def QC:=@List.length_range
def QD:=@Int.one_mul
namespace UfM
structure Wb where
 tk:Nat->Nat->Prop
 gv:Nat->Option Nat
 own:Nat->Nat->Prop
def Wb.past(w:Wb)(s o:Nat):Prop:=∃g,w.gv s=some g/\w.own g o
def Wb.forked(w:Wb)(P:Nat->Prop):Prop:=∃o1 o2 u,o1≠o2/\P o1/\P o2/\w.tk u o1/\w.tk u o2
structure Wb.mq(w:Wb)(a b:Nat):Prop where
 ab:∀o,w.tk a o->¬w.past b o
 ba:∀o,w.tk b o->¬w.past a o
 nf:¬w.forked λo=>w.past a o\/w.past b o
theorem Wb.mq.symm{w:Wb}{a b:Nat}(h:w.mq a b):w.mq b a :=
 #[h.ba,h.ab,λ#[o1,o2,u,n,p1,p2,t1,t2]=>h.nf #[o1,o2,u,n,p1.symm,p2.symm,t1,t2]]
structure Wb.Step(w w':Wb)(e:Nat)(T New:Nat->Prop):Prop where
 tk:∀s o,w'.tk s o↔w.tk s o\/(o=e/\T s)
 gvN:∀s,New s->w'.gv s=some e
 gvO:∀s,¬New s->w'.gv s=w.gv s
 ownE:∀j,w'.own e j↔j=e\/∃t,T t/\w.past t j
 ownO:∀o j,o≠e->(w'.own o j↔w.own o j)
 old:∀t,T t->¬New t
 fresh:∀s,¬w.tk s e
 noE:∀s,w.gv s≠some e
 noP:∀s,¬w.past s e
 bare:∀s o,New s->¬w.tk s o
 ne:∃t,T t
 ord:∀s o,w.tk s o->¬w.past s o
 free:∀s,¬w.forked (w.past s)
 side:∀a b,T a->T b->a≠b->w.mq a b
section
variable {w w':Wb}{e:Nat}{T New:Nat->Prop}
def Wb.Step.eM(h:w.Step w' e T New){s o:Nat}(hs:¬New s):w'.past s o↔w.past s o:=by
 constructor
 ·rintro⟨g,h1,h2⟩
  rw[h.gvO s hs]at h1
  have hg:g≠e:=λz=>h.noE s (by rw[h1,z])
  exact#[g,h1,(h.ownO g o hg).mp h2]
 ·rintro⟨g,h1,h2⟩
  have hg:g≠e:=λz=>h.noE s (by rw[h1,z])
  exact#[g,by rw[h.gvO s hs];exact h1,(h.ownO g o hg).mpr h2]
def Wb.Step.jt(h:w.Step w' e T New){s o:Nat}(hs:New s):w'.past s o↔o=e\/∃t,T t/\w.past t o:=by
 constructor
 ·rintro⟨g,h1,h2⟩
  rw[h.gvN s hs]at h1
  cases h1
  exact(h.ownE o).mp h2
 ·exactλq=>#[e,h.gvN s hs,(h.ownE o).mpr q]
def Wb.Step.pz(h:w.Step w' e T New){a b:Nat}(ha:¬New a)(hb:¬New b):w'.mq a b↔w.mq a b:=by
 constructor
 ·rintro⟨h1,h2,h3⟩
  apply#[λo p q=>h1 o ((h.tk a o).mpr (.inl p)) ((h.eM hb).mpr q),λo p q=>h2 o ((h.tk b o).mpr (.inl p)) ((h.eM ha).mpr q),λ#[o1,o2,u,n,p1,p2,t1,t2]=>h3 #[o1,o2,u,n,?_,?_,(h.tk u o1).mpr (.inl t1),(h.tk u o2).mpr (.inl t2)]]
  ·exact p1.imp (h.eM ha).mpr (h.eM hb).mpr
  ·exact p2.imp (h.eM ha).mpr (h.eM hb).mpr
 ·rintro⟨h1,h2,h3⟩
  have old:∀{u o:Nat},(w.past a o\/w.past b o)->w'.tk u o->w.tk u o:=λ{u o} p t=>by
   rcases(h.tk u o).mp t with z|⟨z,_⟩
   ·exact z
   ·subst z
    exact absurd p (λq=>q.elim (h.noP a) (h.noP b))
  apply#[λo p q=>?_,λo p q=>?_,λ#[o1,o2,u,n,p1,p2,t1,t2]=>?_]
  ·have q:=(h.eM hb).mp q
   exact h1 o (old (.inr q) p) q
  ·have q:=(h.eM ha).mp q
   exact h2 o (old (.inl q) p) q
  ·have p1:=p1.imp (h.eM ha).mp (h.eM hb).mp
   have p2:=p2.imp (h.eM ha).mp (h.eM hb).mp
   exact h3 #[o1,o2,u,n,p1,p2,old p1 t1,old p2 t2]
def Wb.Step.clear(h:w.Step w' e T New){P:Nat->Prop}(hP:∀o,P o->o≠e)(hf:¬w.forked P)(hT:∀t,T t->(∀o,w.tk t o->¬P o)/\¬w.forked λo=>P o\/w.past t o) :
  ¬w'.forked λo=>P o\/o=e\/∃t,T t/\w.past t o:=by
 rintro⟨o1,o2,u,n,p1,p2,t1,t2⟩
 have tko:∀{o:Nat},o≠e->w'.tk u o->w.tk u o:=λ{o} ne t=>((h.tk u o).mp t).elim id λz=>absurd z.1 ne
 have neP:∀{t o:Nat},w.past t o->o≠e:=λ{t o} p z=>h.noP t (by rw[<-z];exact p)
 have withE:∀o,o≠e->w'.tk u e->(P o\/o=e\/∃t,T t/\w.past t o)->w'.tk u o->False:=λo ne te p t=>by
  have hu:T u:=((h.tk u e).mp te).elim (λz=>absurd z (h.fresh u)) λz=>z.2
  have to:=tko ne t
  rcases p with p|p|⟨t',ht,p⟩
  ·exact(hT u hu).1 o to p
  ·exact ne p
  ·by_cases z:t'=u
   ·subst z
    exact h.ord t' o to p
   ·exact(h.side u t' hu ht (λq=>z q.symm)).ab o to p
 by_cases e1:o1=e
 ·subst e1
  exact withE o2 (λz=>n z.symm) t1 p2 t2
 ·by_cases e2:o2=e
  ·subst e2
   exact withE o1 n t2 p1 t1
  ·have k1:=tko e1 t1
   have k2:=tko e2 t2
   rcases p1 with p1|p1|⟨a,ha,p1⟩
   ·rcases p2 with p2|p2|⟨b,hb,p2⟩
    ·exact hf #[o1,o2,u,n,p1,p2,k1,k2]
    ·exact e2 p2
    ·exact(hT b hb).2 #[o1,o2,u,n,.inl p1,.inr p2,k1,k2]
   ·exact e1 p1
   ·rcases p2 with p2|p2|⟨b,hb,p2⟩
    ·exact(hT a ha).2 #[o1,o2,u,n,.inr p1,.inl p2,k1,k2]
    ·exact e2 p2
    ·by_cases z:a=b
     ·subst z
      exact h.free a #[o1,o2,u,n,p1,p2,k1,k2]
     ·exact(h.side a b ha hb z).nf #[o1,o2,u,n,.inl p1,.inr p2,k1,k2]
def Wb.Step.FZ(h:w.Step w' e T New){s n:Nat}(hs:¬New s)(hn:New n):w'.mq s n↔∀t,T t->s≠t/\w.mq s t:=by
 constructor
 ·rintro⟨h1,h2,h3⟩ t ht
  have up:∀{o:Nat},w.past t o->w'.past n o:=λ{o} p=>(h.jt hn).mpr (.inr #[t,ht,p])
  apply#[?_,#[λo p q=>h1 o ((h.tk s o).mpr (.inl p)) (up q),λo p q=>?_,λ#[o1,o2,u,ne,p1,p2,t1,t2]=>h3 #[o1,o2,u,ne,?_,?_,(h.tk u o1).mpr (.inl t1),(h.tk u o2).mpr (.inl t2)]]]
  ·rintro rfl
   exact h1 e ((h.tk s e).mpr (.inr #[rfl,ht])) ((h.jt hn).mpr (.inl rfl))
  ·have ne:o≠e:=λz=>h.noP s (by rw[<-z];exact q)
   exact h3 #[o,e,t,ne,.inl ((h.eM hs).mpr q),.inr ((h.jt hn).mpr (.inl rfl)),(h.tk t o).mpr (.inl p),(h.tk t e).mpr (.inr #[rfl,ht])]
  ·exact p1.imp (h.eM hs).mpr up
  ·exact p2.imp (h.eM hs).mpr up
 ·intro k
  have nT:¬T s:=λz=>(k s z).1 rfl
  obtain⟨t0,ht0⟩:=h.ne
  apply#[λo p q=>?_,λo p=>?_,?_]
  ·rcases(h.tk s o).mp p with p|⟨_,p⟩
   ·rcases(h.jt hn).mp q with q|⟨t,ht,q⟩
    ·subst q
     exact h.fresh s p
    ·exact(k t ht).2.ab o p q
   ·exact nT p
  ·rcases(h.tk n o).mp p with p|⟨_,p⟩
   ·exact absurd p (h.bare n o hn)
   ·exact absurd hn (h.old n p)
  ·have c:=h.clear (P:=w.past s) (λo p z=>h.noP s (by rw[<-z];exact p)) (λf=>(k t0 ht0).2.nf (let ⟨o1,o2,u,n,p1,p2,t⟩:=f;⟨o1,o2,u,n,.inl p1,.inl p2,t⟩)) λt ht=>⟨(k t ht).2.ba,(k t ht).2.nf⟩
   rintro⟨o1,o2,u,ne,p1,p2,t⟩
   exact c #[o1,o2,u,ne,p1.imp (h.eM hs).mp (h.jt hn).mp,p2.imp (h.eM hs).mp (h.jt hn).mp,t]
def Wb.Step.FV(h:w.Step w' e T New){n:Nat}(hn:New n):¬w'.forked (w'.past n):=by
 have c:=h.clear (P:=λ_=>False) (λ_ z=>z.elim) (λ#[_,_,_,_,z,_]=>z) λt ht=>#[λ_ _ z=>z,λ#[o1,o2,u,n,p1,p2,t']=>h.free t #[o1,o2,u,n,p1.resolve_left id,p2.resolve_left id,t']]
 rintro⟨o1,o2,u,ne,p1,p2,t⟩
 exact c #[o1,o2,u,ne,.inr ((h.jt hn).mp p1),.inr ((h.jt hn).mp p2),t]
def Wb.Step.Ik(h:w.Step w' e T New){s:Nat}(hs:¬New s):¬w'.forked (w'.past s):=by
 rintro⟨o1,o2,u,ne,p1,p2,t1,t2⟩
 have p1:=(h.eM hs).mp p1
 have p2:=(h.eM hs).mp p2
 have old:∀{o:Nat},w.past s o->w'.tk u o->w.tk u o:=λ{o} p t=>((h.tk u o).mp t).elim id λz=>absurd p (by rw[z.1];exact h.noP s)
 exact h.free s #[o1,o2,u,ne,p1,p2,old p1 t1,old p2 t2]
def Wb.Step.among(h:w.Step w' e T New){a b:Nat}(ha:New a)(hb:New b):w'.mq a b:=by
 have no:∀{n o:Nat},New n->¬w'.tk n o:=λ{n o} hn p=>by
  rcases(h.tk n o).mp p with p|⟨_,p⟩
  ·exact h.bare n o hn p
  ·exact h.old n p hn
 apply#[λo p=>absurd p (no ha),λo p=>absurd p (no hb),?_]
 rintro⟨o1,o2,u,ne,p1,p2,t⟩
 have q:∀{o:Nat},w'.past a o\/w'.past b o->w'.past a o:=λ{o} p=>p.elim id λz=>(h.jt ha).mpr ((h.jt hb).mp z)
 exact h.FV ha #[o1,o2,u,ne,q p1,q p2,t]
def Wb.Step.KO(h:w.Step w' e T New)(s o:Nat)(p:w'.tk s o):¬w'.past s o:=by
 by_cases hs:New s
 ·rcases(h.tk s o).mp p with p|⟨_,p⟩
  ·exact absurd p (h.bare s o hs)
  ·exact absurd hs (h.old s p)
 ·rw[h.eM hs]
  rcases(h.tk s o).mp p with p|⟨p,_⟩
  ·exact h.ord s o p
  ·rw[p]
   exact h.noP s
end
end UfM
namespace L2
open PySem PySem.Spec PyProof.Rows
abbrev Key:=Sum Int Str
def kH:Key->Value->Bool
 |.inl k,v=>Value.isInt k v
 |.inr x,v=>Value.isStrOf x v
def Kt(w:World):Key->Int
 |.inl k=>hashInt k
 |.inr x=>hashStr w x
def cA:∀{k:Key} {v:Value},kH k v=true->(∃i t,k=Sum.inl i/\v=Value.int i t)\/(∃x t,k=Sum.inr x/\v=Value.str x t)
 |.inl i,v,h=>by
  obtain⟨t,e⟩:=Value.isInt_shape (k:=i) (v:=v) h
  exact .inl #[i,t,rfl,e]
 |.inr x,v,h=>by
  obtain⟨t,e⟩:=Value.isStrOf_shape (x:=x) (v:=v) h
  exact .inr #[x,t,rfl,e]
def zU(i:Int)(t:Tok):kH (.inl i) (.int i t)=true:=by simp[kH,Value.isInt]
def zt(x:Str)(t:Tok):kH (.inr x) (.str x t)=true:=by simp[kH,Value.isStrOf]
def Gh(a b:Int):decide ((Sum.inl a:Key)=Sum.inl b)=(a==b):=by
 by_cases e:a=b
 ·subst e;simp
 ·have h:¬(Sum.inl a:Key)=Sum.inl b:=λq=>e (Sum.inl.inj q)
  rw[Lq h]
  exact(MA.mpr e).symm
def F7(a b:Str):decide ((Sum.inr a:Key)=Sum.inr b)=decide (a=b):=by
 by_cases e:a=b
 ·subst e;simp
 ·have h:¬(Sum.inr a:Key)=Sum.inr b:=λq=>e (NR q)
  rw[Lq h,Lq e]
def F0(a:Int)(b:Str):decide ((Sum.inl a:Key)=Sum.inr b)=false:=Lq (λq=>nomatch q)
def Ga(a:Str)(b:Int):decide ((Sum.inr a:Key)=Sum.inl b)=false:=Lq (λq=>nomatch q)
def aV(prog:Program)(w:World):PySem.KeyKind prog w Key where
 is:=kH
 hash:=Kt w
 inj:=λv a b ha hb=>by
  rcases cA ha with⟨i,t,rfl,rfl⟩|⟨x,t,rfl,rfl⟩
  ·rcases cA hb with⟨j,u,rfl,e⟩|⟨y,u,rfl,e⟩
   ·injection e with e1 _;rw[e1]
   ·exact nomatch e
  ·rcases cA hb with⟨j,u,rfl,e⟩|⟨y,u,rfl,e⟩
   ·exact nomatch e
   ·injection e with e1 _;rw[e1]
 byValue:=λk v h=>by
  rcases cA h with⟨i,t,rfl,rfl⟩|⟨x,t,rfl,rfl⟩ <;> rfl
 pyHash:=λhv h=>by
  rcases cA hv with⟨i,t,rfl,rfl⟩|⟨x,t,rfl,rfl⟩
  ·exact wpAny_pyHash_int h
  ·exact wpAny_pyHash_str h
 eqBool:=λhu hv h=>by
  rcases cA hu with⟨i,t,rfl,rfl⟩|⟨x,t,rfl,rfl⟩
  ·rcases cA hv with⟨j,u,rfl,rfl⟩|⟨y,u,rfl,rfl⟩
   ·rw[Gh]at h;exact wpAny_eqBool_int h
   ·rw[F0]at h;exact SeqAt.EqAt.int_str i t y u _ _ _ _ h
  ·rcases cA hv with⟨j,u,rfl,rfl⟩|⟨y,u,rfl,rfl⟩
   ·rw[Ga]at h;exact SeqAt.EqAt.str_int x t j u _ _ _ _ h
   ·rw[F7]at h;exact wpAny_eqBool_str h
 «strs»:=λk x t v h=>by
  rcases cA h with⟨i,u,rfl,e⟩|⟨y,u,rfl,e⟩
  ·exact nomatch e
  ·injection e with e1 _
   subst e1
   cases v <;> rfl
def nJ(prog:Program)(w:World)(k:Key)(v:Value):(aV prog w).is k v=kH k v:=rfl
def tZ(prog:Program)(w:World)(i:Int)(t:Tok):(aV prog w).is (.inl i) (.int i t)=true:=zU i t
def sF(prog:Program)(w:World)(x:Str)(t:Tok):(aV prog w).is (.inr x) (.str x t)=true:=zt x t
inductive V where
 |non|bl (b:Bool)|int (i:Int)|str (x:Str)|byt (b:Array UInt8)|flt (b:UInt64)|ref (a:Addr)|ty (n:String)
 deriving DecidableEq
def RelV:V->Value->Prop
 |.non,u=>u=Value.none
 |.bl b,u=>u=Value.bool b
 |.int i,u=>∃t,u=Value.int i t
 |.str x,u=>∃t,u=Value.str x t
 |.byt b,u=>∃t,u=Value.bytes b t
 |.flt b,u=>∃t,u=Value.float b t
 |.ref a,u=>u=Value.ref a
 |.ty n,u=>u=Value.type n
abbrev Vals:List V->List Value->Prop:=Paired RelV
theorem Vals.length{xs:List V}{us:List Value}(r:Vals xs us):xs.length=us.length:=Lz r
theorem Vals.get:∀{xs:List V} {us:List Value} {i:Nat} {x:V},Vals xs us->xs[i]?=some x->∃u,us[i]?=some u/\RelV x u
 |_,_,_,_,.nil,e=>by simp at e
 |_,_,0,_,.cons r _,e=>by simp at e;subst e;exact#[Z,r]
 |_,_,i+1,x,.cons _ t,e=>by
  obtain⟨u,h1,h2⟩:=Vals.get (i:=i) (x:=x) t (by simpa using e)
  exact#[u,by simpa using h1,h2]
theorem Vals.set{x:V}{u:Value}(r:RelV x u):∀{xs:List V} {us:List Value} (i:Nat),Vals xs us->Vals (xs.set i x) (us.set i u)
 |_,_,_,.nil=>.nil
 |_,_,0,.cons _ t=>.cons r t
 |_,_,i+1,.cons q t=>.cons q (Vals.set r i t)
theorem Vals.append:∀{xs ys:List V} {us ws:List Value},Vals xs us->Vals ys ws->Vals (xs++ys) (us++ws)
 |_,_,_,_,.nil,s=>s
 |_,_,_,_,.cons r t,s=>.cons r (Vals.append t s)
theorem Vals.take:∀{xs:List V} {us:List Value} (n:Nat),Vals xs us->Vals (xs.take n) (us.take n)
 |_,_,0,_=>.nil
 |_,_,_+1,.nil=>.nil
 |_,_,n+1,.cons r t=>.cons r (Vals.take n t)
theorem Vals.drop:∀{xs:List V} {us:List Value} (n:Nat),Vals xs us->Vals (xs.drop n) (us.drop n)
 |_,_,0,r=>r
 |_,_,_+1,.nil=>.nil
 |_,_,n+1,.cons _ t=>Vals.drop n t
def jn:Option V->Option Value->Prop
 |some v,some u=>RelV v u
 |none,none=>True
 |_,_=>False
def KV{κ:Type}:List (κ×V)->List (κ×Value)->Prop:=Paired λ(p:κ×V) (q:κ×Value)=>p.1=q.1/\RelV p.2 q.2
def kV:Key->V
 |.inl i=>.int i
 |.inr x=>.str x
inductive HO where
 |lst (xs:List V)
 |tup (xs:List V)
 |dK (kvs:List (Key×V))|dT (kvs:List (List Key×V))
 |set (S:Int->Bool) (n:Nat)
 |ins (C dx:Addr) (fs:List (Str×V))
 |own (x:Addr)
 |xd (fs:List (Str×V))
 |met (f x:Addr)
 |rng (lo hi:Int)
 |frz (o:Obj) (u:HO)
 |tbl (ps:Array Value)
 |ext (φ:Heap->Prop)
abbrev Hp:=Addr->Option HO
def upd(H:Hp)(a:Addr)(o:HO):Hp:=λb=>if b=a then some o else H b
def ae{H:Hp}{a:Addr}{o:HO}:upd H a o a=some o:=by unfold upd;rw[if_pos rfl]
def ai{H:Hp}{a b:Addr}{o:HO}(h:b≠a):upd H a o b=H b:=by unfold upd;rw[if_neg h]
def x4{H:Hp}{a:Addr}{o u:HO}:upd (upd H a o) a u=upd H a u:=by
 funext b;unfold upd;split <;> rfl
def aX{H:Hp}{a b:Addr}{o u:HO}(h:H a=some o)(h':H b=some u)(d:o≠u):a≠b:=by
 intro e;subst e;rw[h]at h';exact d (LS h')
def aq{H:Hp}{a b:Addr}{o:HO}(h:H a=some o)(h':H b=none):a≠b:=by
 intro e;subst e;rw[h]at h';cases h'
section
variable (P:Program)(w:World)
def cw(H:Hp)(h:Heap)(a:Addr):HO->Prop
 |.lst xs=>xs.length<=sizeLine/\∃(its:List Value) (n:Nat),Vals xs its/\h.get? a=some { cls:=.type "list",data:=.seq its.toArray n }
 |.tup xs=>xs.length<=sizeLine/\∃its:List Value,Vals xs its/\IsTup h a its.toArray
 |.dK kvs=>kvs.length<=sizeLine/\(a==sysModules)=false/\∃vs,KV kvs vs/\h.DictOf (aV P w) a vs
 |.dT kvs=>kvs.length<=sizeLine/\(a==sysModules)=false/\∃xs:List (List Key×Addr×Value),
   Paired (λ(p:List Key×V) (q:List Key×Addr×Value)=>p.1=q.1/\H q.2.1=some (.tup (p.1.map kV))/\RelV p.2 q.2.2) kvs xs /\
   ∃o es ep,h.get? a=some o/\o.ExactDict/\o.data=.dict es ep/\es.toList=xs.map (entryOfKey (tupleKind (aV P w)))/\(xs.map (·.1)).Nodup
 |.set S n=>h.SetOf (intKind P w) a S n
 |.ins C dx fs=>H dx=some (.own a)/\fs.length<=1000/\dx≠a/\h.get? a=some (PySem.W.instObj C dx) /\
   ∃mA,h.Ns1 dx mA/\(∀f,jn (fs.lookup f) (mA f))/\PySem.Within mA (fs.map (·.1))
 |.own _=>∃o,h.get? a=some o
 |.xd fs=>∃mA,h.Ns1 a mA/\∀f,jn (fs.lookup f) (mA f)
 |.rng lo hi=>∃t u v,h.get? a=some { cls:=.type "range",data:=.fields (List.toArray [.int lo t,.int hi u,.int 1 v]) }
 |.frz o u=>h.get? a=some o/\cw H h a u
 |.tbl ps=>h.get? a=some { cls:=.none,data:=.fields ps }
 |.met f x=>h.get? a=some (PySem.W.methodObj (.ref f) (.ref x))
 |.ext φ=>φ h/\(∃o,h.get? a=some o)/\∀h1 h2:Heap,φ h1->(∀o,h1.get? a=some o->h2.get? a=some o)->φ h2
def jy(H:Hp)(h:Heap):Prop:=∀a o,H a=some o->cw P w H h a o
end
section
variable {P:Program}{w:World}{H H':Hp}{h h':Heap}{a:Addr}{o:HO}
theorem cw.lt(x:cw P w H h a o):a<h.objs.size:=by
 cases o with
 |lst xs=>obtain⟨_,_,_,_,e⟩:=x;exact Li e
 |tup xs=>obtain⟨_,_,_,p⟩:=x;exact p.lt
 |dK kvs=>obtain⟨_,_,_,_,o,_,_,e,_⟩:=x;exact Li e
 |dT kvs=>obtain⟨_,_,_,_,o,_,_,e,_⟩:=x;exact Li e
 |set S n=>obtain⟨o,_,_,_,e,_⟩:=x;exact Li e
 |ins C dx fs=>obtain⟨_,_,_,e,_⟩:=x;exact Li e
 |own y=>obtain⟨_,e⟩:=x;exact Li e
 |xd fs=>obtain⟨_,⟨_,_,_,e,_⟩,_⟩:=x;exact Li e
 |rng lo hi=>obtain⟨_,_,_,e⟩:=x;exact Li e
 |frz ob u=>obtain⟨e,_⟩:=x;exact Li e
 |tbl ps=>exact Li (show h.get? a=some _ from x)
 |met f y=>exact Li (show h.get? a=some _ from x)
 |ext φ=>obtain⟨_,⟨_,e⟩,_⟩:=x;exact Li e
theorem Paired.cc{α β:Type}{F G:α->β->Prop}:∀{l₁:List α} {l₂:List β},Paired F l₁ l₂->(∀a b,F a b->G a b)->Paired G l₁ l₂
 |_,_,.nil,_=>.nil
 |_,_,.cons r t,f=>.cons (f _ _ r) (Paired.cc t f)
def cw.pz(x:cw P w H h a o)(k:∀b u,(b=a\/H b=some (.own a))->h.get? b=some u->h'.get? b=some u)
  (ho:∀b,H b=some (.own a)->H' b=some (.own a)) (ht:∀b xs,H b=some (.tup xs)->H' b=some (.tup xs)):cw P w H' h' a o:=by
 induction o with
 |lst xs=>obtain⟨z,its,n,r,e⟩:=x;exact#[z,its,n,r,k _ _ (.inl rfl) e]
 |tup xs=>obtain⟨z,its,r,ob,e,c⟩:=x;exact#[z,its,r,ob,k _ _ (.inl rfl) e,c]
 |dK kvs=>obtain⟨z,y,vs,r,ob,es,ep,e,c⟩:=x;exact#[z,y,vs,r,ob,es,ep,k _ _ (.inl rfl) e,c]
 |dT kvs =>
  obtain⟨z,y,xs,r,ob,es,ep,e,c⟩:=x
  exact#[z,y,xs,Paired.cc r λp q z=>#[z.1,ht _ _ z.2.1,z.2.2],ob,es,ep,k _ _ (.inl rfl) e,c]
 |set S n=>obtain⟨ob,es,ep,t,e,c⟩:=x;exact#[ob,es,ep,t,k _ _ (.inl rfl) e,c]
 |ins C dx fs =>
  obtain⟨d,z,ne,e,mA,⟨od,es,ep,e2,c⟩,r⟩:=x
  exact#[ho _ d,z,ne,k _ _ (.inl rfl) e,mA,#[od,es,ep,k _ _ (.inr d) e2,c],r]
 |own y=>obtain⟨ob,e⟩:=x;exact#[ob,k _ _ (.inl rfl) e]
 |xd fs=>obtain⟨mA,⟨od,es,ep,e,c⟩,r⟩:=x;exact#[mA,#[od,es,ep,k _ _ (.inl rfl) e,c],r]
 |rng lo hi=>obtain⟨t,u,v,e⟩:=x;exact#[t,u,v,k _ _ (.inl rfl) e]
 |frz ob u ih=>obtain⟨e,q⟩:=x;exact#[k _ _ (.inl rfl) e,ih q]
 |tbl ps =>
  have e:h.get? a=some { cls:=.none,data:=.fields ps }:=x
  show h'.get? a=some { cls:=.none,data:=.fields ps }
  exact k a _ (.inl rfl) e
 |met f y =>
  have e:h.get? a=some (PySem.W.methodObj (.ref f) (.ref y)):=x
  show h'.get? a=some (PySem.W.methodObj (.ref f) (.ref y))
  exact k a _ (.inl rfl) e
 |ext φ=>obtain⟨p,⟨o,e⟩,st⟩:=x;exact#[st _ _ p λo q=>k _ _ (.inl rfl) q,#[o,k _ _ (.inl rfl) e],st]
theorem jy.lt(x:jy P w H h)(e:H a=some o):a<h.objs.size:=(x a o e).lt
def jy.fresh(x:jy P w H h)(e:h.objs.size<=a):H a=none:=by
 cases q:H a with
 |none=>rfl
 |some u=>exact absurd (LF (x.lt q) e) (Me _)
def jy.kept(x:jy P w H h)(k:∀b u,h.get? b=some u->h'.get? b=some u):jy P w H h':=λa o e =>
 (x a o e).pz (λb u _ q=>k b u q) (λ_ q=>q) λ_ _ q=>q
def jy.laid(x:jy P w H h)(k:∀b u,h.get? b=some u->h'.get? b=some u)(hp:h.objs.size<=a)(new:cw P w (upd H a o) h' a o):jy P w (upd H a o) h':=λb u e=>by
 have hn:=x.fresh hp
 by_cases hb:b=a
 ·subst hb;rw[ae]at e;cases e;exact new
 ·rw[ai hb]at e
  exact(x b u e).pz (λc v _ q=>k c v q) (λc q=>by rw[ai (aq q hn)];exact q) λc xs q=>by rw[ai (aq q hn)];exact q
end
def Rd(H:Hp)(a:Addr)(u:HO):Prop:=H a=some u\/∃o,H a=some (.frz o u)
def Rd.ok{P:Program}{w:World}{H:Hp}{h:Heap}{a:Addr}{u:HO}(r:Rd H a u)(x:jy P w H h):cw P w H h a u:=by
 rcases r with r|⟨o,r⟩
 ·exact x a u r
 ·obtain⟨_,q⟩:=x a _ r
  exact q
def IT:Option HO->Prop
 |some (.lst _)=>True
 |some (.dK _)=>True
 |some (.dT _)=>True
 |some (.set _ _)=>True
 |some (.ins _ _ _)=>True
 |some (.ext _)=>True
 |_=>False
section
variable {P:Program}{w:World}{H:Hp}{h h':Heap}{x e:Addr}{o':HO}
def jy.write(ok:jy P w H h)(mu:IT (H x))(he:e=x\/H e=some (.own x))(k:∀b u,b≠e->h.get? b=some u->h'.get? b=some u)(heo:∃u,h'.get? e=some u)
  (new:cw P w (upd H x o') h' x o'):jy P w (upd H x o') h':=λb u q=>by
 have nown:∀c y,H c=some (.own y)->c≠x:=λc y r z=>by subst z;rw[r]at mu;exact mu
 have ntup:∀c xs,H c=some (.tup xs)->c≠x:=λc xs r z=>by subst z;rw[r]at mu;exact mu
 by_cases hb:b=x
 ·subst hb;rw[ae]at q;cases q;exact new
 ·rw[ai hb]at q
  by_cases hbe:b=e
  ·have q':H b=some (.own x):=by
    rcases he with z|z
    ·exact absurd (hbe.trans z) hb
    ·rw[hbe];exact z
   rw[q]at q';cases q'
   obtain⟨v,hv⟩:=heo
   exact#[v,by rw[hbe];exact hv]
  ·apply(ok b u q).pz (λc v hc r=>k c v ?_ r) (λc r=>by rw[ai (nown c b r)];exact r) λc xs r=>by rw[ai (ntup c xs r)];exact r
   rcases hc with rfl|hc
   ·exact hbe
   ·rintro rfl
    rcases he with z|z
    ·exact nown c b hc z
    ·rw[hc]at z;cases z;exact hb rfl
end
structure Un(fs ex:List Addr)(H H':Hp)(h h':Heap):Prop where
 keep:∀b o,h.get? b=some o->H b=none->b∉fs->b∉ex->h'.get? b=some o
 slot:∀b o,h.get? b=some o->H b=none->b∈fs->b∉ex->∃sl,h'.get? b=some { o with slots:=sl }
 free:∀b o,h.get? b=some o->H b=none->b∉ex->H' b=none
 there:∀b o,h.get? b=some o->b∉ex->∃o',h'.get? b=some o'
 pe:∀b xs,H b=some (.tup xs)->H' b=some (.tup xs)
 frzs:∀b o u,H b=some (.frz o u)->H' b=some (.frz o u)
 tbls:∀b ps,H b=some (.tbl ps)->∃more,H' b=some (.tbl (ps++more))
section
variable {fs fs' ex ex':List Addr}{H H1 H2:Hp}{h h1 h2 h':Heap}{a x e:Addr}{o:HO}
def Un.any(u:Un fs ex H H1 h h1){b:Addr}{ob:Obj}(q:h.get? b=some ob)(n:H b=none)(hx:b∉ex):∃sl,h1.get? b=some { ob with slots:=sl }:=by
 by_cases hb:b∈fs
 ·exact u.slot b ob q n hb hx
 ·exact#[ob.slots,u.keep b ob q n hb hx]
def Un.kept(k:∀b u,h.get? b=some u->h'.get? b=some u):Un fs ex H H h h' :=
 #[λb ob q _ _ _=>k b ob q,λb ob q _ _ _=>#[ob.slots,k b ob q],λ_ _ _ n _=>n,λb ob q _=>#[ob,k b ob q],λ_ _ q=>q,λ_ _ _ q=>q,λ_ ps q=>#[#[],by rw[q];simp]]
def Un.refl:Un fs ex H H h h:=Un.kept λ_ _ q=>q
def Un.laid(k:∀b u,h.get? b=some u->h'.get? b=some u)(hp:h.objs.size<=a)(hn:H a=none):Un fs ex H (upd H a o) h h' where
 keep:=λb u q _ _ _=>k b u q
 slot:=λb u q _ _ _=>#[u.slots,k b u q]
 free:=λb u q n _=>by rw[ai (LB (LF (Li q) hp))];exact n
 there:=λb u q _=>#[u,k b u q]
 pe:=λb xs q=>by rw[ai (aq q hn)];exact q
 frzs:=λb u xs q=>by rw[ai (aq q hn)];exact q
 tbls:=λb ps q=>#[#[],by rw[ai (aq q hn),q];simp]
def Un.write(mu:IT (H x))(he:e=x\/H e=some (.own x))(k:∀b u,b≠e->h.get? b=some u->h'.get? b=some u)(heo:∃u,h'.get? e=some u):Un fs ex H (upd H x o) h h':=by
 have hx:∀b,H b=none->b≠x:=λb n z=>by subst z;rw[n]at mu;exact mu
 have hb:∀b,H b=none->b≠e:=λb n z=>by
  subst z
  rcases he with r|r
  ·exact hx b n r
  ·rw[n]at r;cases r
 have hm:∀b u,H b=some u->¬IT (some u)->b≠x:=λb u q nm z=>by subst z;rw[q]at mu;exact nm mu
 apply#[λb u q n _ _=>k b u (hb b n) q,λb u q n _ _=>#[u.slots,k b u (hb b n) q],λb u q n _=>by rw[ai (hx b n)];exact n,λb u q _=>?_,
  λb xs q=>by rw[ai (hm b _ q λz=>z)];exact q,λb u xs q=>by rw[ai (hm b _ q λz=>z)];exact q,λb ps q=>#[#[],by rw[ai (hm b _ q λz=>z),q];simp]]
 by_cases hbe:b=e
 ·subst hbe;exact heo
 ·exact#[u,k b u hbe q]
end
def Jk(h:Heap)(H:Hp):List Addr:=(List.range h.objs.size).filter λa=>(H a).isSome
def qQ(h:Heap)(H:Hp):Heap:=PySem.W.hideAll h (Jk h H)
def yP(h:Heap)(H:Hp):(qQ h H).objs.size=h.objs.size:=PySem.W.hideAll_size _ _
def BC{h:Heap}{H:Hp}{b:Addr}{o:Obj}(e:h.get? b=some o)(n:H b=none):(qQ h H).get? b=some o :=
 PySem.W.hideAll_get _ e λhm=>by
  have q:(H b).isSome=true:=(L4.mp hm).2
  rw[n]at q;simp at q
def ET{h:Heap}{H:Hp}{b:Addr}{o:Obj}(e:(qQ h H).get? b=some o):h.get? b=some o/\H b=none:=by
 have e':h.get? b=some o:=PySem.W.of_hideAll (Jk h H) e
 apply#[e',?_]
 cases q:H b with
 |none=>rfl
 |some x =>
  have hm:b∈Jk h H:=L4.mpr #[M7.mpr (Li e'),by simp[q]]
  have z:(qQ h H).get? b=none:=PySem.W.hideAll_none (Jk h H) hm
  rw[z]at e;cases e
structure Mod(K:PySem.W.Frag)(mg:Str->Option Value)(base:Heap):Prop where
 kin:K.In base
 glob:base.Ns mainGlobals mg
 blt:∃mb,base.Ns builtinsNs mb/\∀x:Str,x≠"__name__"->mb x=bootBuiltins x
 nolimit:base.NoLimit
structure Cx where
 prog:Program
 w:World
 K:PySem.W.Frag
 mg:Str->Option Value
 base:Heap
 A:Around
 N:List Str
 s₀:Shared
 H₀:Hp
 env:Env
 outer:List Env
 stack:List Env
 ex:List Addr
 fn:Str->Bool
 calm:Bool
 pn:List (Addr×Obj)
 xe:Value->Shared->Prop
def uW(l:List Env):List Addr:=l.filterMap (·.frame)
abbrev Cx.fs(X:Cx):List Addr:=uW X.outer
def Jl(sc:Scope)(x:Str):Prop:=sc.names.lookup x=some .local\/sc.names.lookup x=some .cell\/sc.names.lookup x=some .free
def Loc(sc:Scope)(x:Str):Prop:=sc.names.lookup x=some .local\/sc.names.lookup x=some .cell
def Look(env:Env)(h:Heap)(m:Str->Option Value)(x:Str)(u:Value):Prop :=
 (env.kindOf x=some .local/\m x=some u)\/((env.kindOf x=some .cell\/env.kindOf x=some .free)/\∃c,env.cells.lookup x=some c/\h.IsCell c (some u))
structure Cx.Ok(X:Cx):Prop where
 mod:Mod X.K X.mg X.base
 kind:X.env.scope.kind=.function
 glob:X.env.globals=mainGlobals
 blt:X.env.builtins=builtinsNs
 above:X.s₀.heap.objs.size<=X.env.locals
 inj:∀x y c,X.env.cells.lookup x=some c->X.env.cells.lookup y=some c->x=y
 has:∀x,(X.env.kindOf x=some .cell\/X.env.kindOf x=some .free)->∃c,X.env.cells.lookup x=some c
 cab:∀x c,X.fn x=true->X.env.cells.lookup x=some c->X.s₀.heap.objs.size<=c
 hd:X.calm=true->X.A.handled=none
 frames:X.A.frames=some X.stack
 stk:X.stack=X.outer\/(X.stack=X.env::X.outer/\X.env.frame=some X.env.locals)
 exf:∀b∈X.ex,b≠X.env.locals/\∀x c,X.env.cells.lookup x=some c->c≠b
 bs:∀b o,X.base.get? b=some o->X.s₀.heap.get? b=some o/\X.H₀ b=none
 bsz:X.base.objs.size<=X.s₀.heap.objs.size
 noex:∀b o,X.base.get? b=some o->b∉X.ex
 exfs:∀b∈X.ex,b∉X.fs
 kR:X.s₀.heap.FunFrames X.base X.outer
 frf:∀b∈X.fs,X.H₀ b=none
structure Inv(X:Cx)(pins:List (Addr×Obj))(σ:List (Option V))(H:Hp)(s:Shared):Prop where
 ok:X.Ok
 os:s.os=X.s₀.os
 bare:AllBare s.gens
 base:Un X.fs X.ex X.H₀ H X.s₀.heap s.heap
 loc:∃m,s.heap.Ns X.env.locals m/\∀(i:Nat) (x:Str) (v:V),X.N[i]?=some x->σ[i]?=some (some v)->Jl X.env.scope x->∃u,RelV v u/\Look X.env s.heap m x u
 cell:∀x c,X.env.cells.lookup x=some c->∃v,s.heap.IsCell c v
 free:H X.env.locals=none
 freeC:∀x c,X.env.cells.lookup x=some c->H c=none
 pin:∀p∈X.pn++pins,s.heap.get? p.1=some p.2/\H p.1=none/\p.1≠X.env.locals/\p.1∉X.fs/\∀v,p.2.data≠.cell v
 hok:jy X.prog X.w H s.heap
 len:σ.length=X.N.length
section
variable {X:Cx}{pins:List (Addr×Obj)}{σ:List (Option V)}{H H':Hp}{s:Shared}{h':Heap}
def Cx.Ok.Ke(ok:X.Ok){b:Addr}{o:Obj}(e:X.base.get? b=some o):b∉X.fs:=λhb=>by
 have:=(ok.kR.mem hb).1
 rw[e]at this;cases this
theorem Inv.bs(I:Inv X pins σ H s):∀b o,X.base.get? b=some o->s.heap.get? b=some o/\H b=none:=λb o e =>
 #[I.base.keep b o (I.ok.bs b o e).1 (I.ok.bs b o e).2 (I.ok.Ke e) (I.ok.noex b o e),I.base.free b o (I.ok.bs b o e).1 (I.ok.bs b o e).2 (I.ok.noex b o e)]
def Inv.bk(I:Inv X pins σ H s):∀b o,X.base.get? b=some o->s.heap.get? b=some o:=λb o e=>(I.bs b o e).1
theorem Inv.mod(I:Inv X pins σ H s):Mod X.K X.mg X.base:=I.ok.mod
def Inv.me(I:Inv X pins σ H s):X.K.In s.heap:=I.ok.mod.kin.keeps I.bk
theorem Inv.lt(I:Inv X pins σ H s):X.env.locals<s.heap.objs.size:=let #[_,hn,_]:=I.loc;hn.lt
def Inv.sz(I:Inv X pins σ H s):X.s₀.heap.objs.size<=s.heap.objs.size:=LM I.ok.above (Pu I.lt)
def Inv.JZ(I:Inv X pins σ H s){a:Addr}(h:s.heap.objs.size<=a):a∉X.fs:=λhb=>by
 obtain⟨_,o,ho,_⟩:=I.ok.kR.mem hb
 exact absurd (LF (Li ho) (LM I.sz h)) (Me _)
def Inv.F6(I:Inv X pins σ H s):∀x c,X.env.cells.lookup x=some c->c≠X.env.locals:=λx c e z=>by
 obtain⟨v,o,ho,hd⟩:=I.cell x c e
 obtain⟨m,⟨o',es,ep,ho',hd',_⟩,_⟩:=I.loc
 rw[z,ho']at ho;cases ho;rw[hd']at hd;cases hd
theorem Inv.kR(I:Inv X pins σ H s):s.heap.FunFrames X.base X.outer:=by
 have all:∀(l:List Env),(∀b∈uW l,b∈X.fs)->X.s₀.heap.FunFrames X.base l->s.heap.FunFrames X.base l:=by
  intro l
  induction l with
  |nil=>intro _ _;trivial
  |cons env r ih =>
   intro hs hl
   obtain⟨hk,⟨L,o,hf,hn,ho,hd⟩,hr⟩:=hl
   have hL:L∈X.fs:=hs L (by unfold uW;rw[List.filterMap_cons,hf];exact List.mem_cons_self)
   obtain⟨sl,e⟩:=I.base.slot L o ho (I.ok.frf L hL) hL λz=>I.ok.exfs L z hL
   exact#[hk,#[L,_,hf,hn,e,hd],ih (λb hb=>hs b (by unfold uW;rw[List.filterMap_cons,hf];exact List.mem_cons_of_mem _ hb)) hr]
 exact all X.outer (λ_ hb=>hb) I.ok.kR
theorem Inv.stack(I:Inv X pins σ H s):s.heap.FunFrames X.base X.stack:=by
 rcases I.ok.stk with e|⟨e,hf⟩
 ·rw[e];exact I.kR
 ·rw[e]
  obtain⟨m,hn,_⟩:=I.loc
  apply .cons (by rw[I.ok.kind];decide) hf hn ?_ I.kR
  exact OQ (LM I.ok.bsz I.ok.above)
def Inv.we(I:Inv X pins σ H s):∀b∈uW X.stack,b∈X.env.locals::X.fs:=λb hb=>by
 rcases I.ok.stk with e|⟨e,hf⟩
 ·rw[e]at hb;exact LJ _ hb
 ·rw[e]at hb
  unfold uW at hb
  rw[List.filterMap_cons,hf]at hb
  exact hb
def Inv.xG(I:Inv X pins σ H s):∀b∈uW X.stack,H b=none:=λb hb=>by
 rcases Lc.mp (I.we b hb) with e|hb
 ·rw[e];exact I.free
 ·obtain⟨_,o,ho,_⟩:=I.ok.kR.mem hb
  exact I.base.free b o ho (I.ok.frf b hb) λz=>I.ok.exfs b z hb
def Inv.step{g':Array GenState}{t':Nat}{d':Drawn}{ch:List Addr}(I:Inv X pins σ H s)
  (hch:∀b∈ch,(b∈X.ex\/X.s₀.heap.objs.size<=b)/\b≠X.env.locals/\(∀x c,X.env.cells.lookup x=some c->c≠b)/\∀p∈X.pn++pins,p.1≠b)
  (keep:∀b o,b≠X.env.locals->b∉X.fs->b∉ch->s.heap.get? b=some o->H b=none->h'.get? b=some o)
  (slot:∀b o,b≠X.env.locals->b∈X.fs->b∉ch->s.heap.get? b=some o->H b=none->∃sl,h'.get? b=some { o with slots:=sl }) (free:∀b o,b∉ch->s.heap.get? b=some o->H b=none->H' b=none)
  (there:∀b o,b∉ch->s.heap.get? b=some o->∃o',h'.get? b=some o')
  (pe:∀b xs,H b=some (.tup xs)->H' b=some (.tup xs)) (frzs:∀b o u,H b=some (.frz o u)->H' b=some (.frz o u)) (tbls:∀b ps,H b=some (.tbl ps)->∃more,H' b=some (.tbl (ps++more)))
  (ns:∀m,s.heap.Ns X.env.locals m->h'.Ns X.env.locals m) (hok:jy X.prog X.w H' h') (hg:AllBare g') :
  Inv X pins σ H' { s with heap:=h',gens:=g',drawn:=d',toks:=t' }:=by
 have neL:∀b o,X.s₀.heap.get? b=some o->b≠X.env.locals:=λb o e=>LB (LF (Li e) I.ok.above)
 have neC:∀b o,X.s₀.heap.get? b=some o->b∉X.ex->b∉ch:=λb o e hx hb=>by
  rcases(hch b hb).1 with z|z
  ·exact hx z
  ·exact absurd (LF (Li e) z) (Me _)
 have cellK:∀x c,X.env.cells.lookup x=some c->∀v,s.heap.IsCell c v->h'.IsCell c v:=λx c e v #[o,ho,hd]=>by
  have nch:c∉ch:=λz=>(hch c z).2.2.1 x c e rfl
  by_cases hc:c∈X.fs
  ·obtain⟨sl,q⟩:=slot c o (I.F6 x c e) hc nch ho (I.freeC x c e)
   exact#[_,q,hd]
  ·exact#[o,keep c o (I.F6 x c e) hc nch ho (I.freeC x c e),hd]
 apply#[I.ok,I.os,hg,#[λb o e n hb hx=>?_,λb o e n hb hx=>?_,λb o e n hx=>?_,λb o e hx=>?_,λb xs e=>pe b xs (I.base.pe b xs e),λb o xs e=>frzs b o xs (I.base.frzs b o xs e),λb ps e=>?_],?_,λx c e=>?_,?_,λx c e=>?_,λp hp=>?_,hok,I.len]
 ·exact keep b o (neL b o e) hb (neC b o e hx) (I.base.keep b o e n hb hx) (I.base.free b o e n hx)
 ·obtain⟨sl,e1⟩:=I.base.slot b o e n hb hx
  obtain⟨sl',e2⟩:=slot b _ (neL b o e) hb (neC b o e hx) e1 (I.base.free b o e n hx)
  exact#[sl',e2]
 ·obtain⟨o',e1⟩:=I.base.there b o e hx
  exact free b o' (neC b o e hx) e1 (I.base.free b o e n hx)
 ·obtain⟨o',e1⟩:=I.base.there b o e hx
  exact there b o' (neC b o e hx) e1
 ·obtain⟨m1,e1⟩:=I.base.tbls b ps e
  obtain⟨m2,e2⟩:=tbls b _ e1
  exact#[m1++m2,by rw[e2,Array.append_assoc]]
 ·obtain⟨m,hn,hl⟩:=I.loc
  apply#[m,ns m hn,λi x v e1 e2 e3=>?_]
  obtain⟨u,r,l⟩:=hl i x v e1 e2 e3
  apply#[u,r,?_]
  rcases l with l|⟨k,c,e,z⟩
  ·exact .inl l
  ·exact .inr #[k,c,e,cellK x c e _ z]
 ·obtain⟨v,z⟩:=I.cell x c e
  exact#[v,cellK x c e v z]
 ·obtain⟨m,⟨o,_,_,ho,_⟩,_⟩:=I.loc
  exact free _ o (λz=>(hch _ z).2.1 rfl) ho I.free
 ·obtain⟨v,o,ho,hd⟩:=I.cell x c e
  exact free c o (λz=>(hch c z).2.2.1 x c e rfl) ho (I.freeC x c e)
 ·obtain⟨e,n,ne,nf,d⟩:=I.pin p hp
  have nch:p.1∉ch:=λz=>(hch p.1 z).2.2.2 p hp rfl
  exact#[keep p.1 p.2 ne nf nch e n,free p.1 p.2 nch e n,ne,nf,d]
def Inv.un{t':Nat}(I:Inv X pins σ H s)(u:Un X.fs [] H H' s.heap h')(hok:jy X.prog X.w H' h'):Inv X pins σ H' { s with heap:=h',toks:=t' }:=by
 obtain⟨m,⟨o,es,ep,ho,r⟩,_⟩:=id I.loc
 obtain⟨sl,hL⟩:=u.any ho I.free (by simp)
 exact I.step (g':=s.gens) (d':=s.drawn) (ch:=[]) (λ_ z=>nomatch z) (λb o _ hb _ e n=>u.keep b o e n hb (by simp)) (λb o _ hb _ e n=>u.slot b o e n hb (by simp)) (λb o _ e n=>u.free b o e n (by simp)) (λb o _ e=>u.there b o e (by simp)) u.pe u.frzs u.tbls (λm' hm=>by
  obtain⟨o',es',ep',ho',r'⟩:=hm
  rw[ho]at ho';cases ho'
  exact#[_,es',ep',hL,r']) hok I.bare
def Inv.call{g':Array GenState}{t':Nat}{d':Drawn}{ch:List Addr}(I:Inv X pins σ H s)(u:Un (uW X.stack) ch H H' s.heap h')(hok:jy X.prog X.w H' h')(hg:AllBare g')
  (hch:∀b∈ch,(b∈X.ex\/X.s₀.heap.objs.size<=b)/\b≠X.env.locals/\(∀x c,X.env.cells.lookup x=some c->c≠b)/\∀p∈X.pn++pins,p.1≠b) :
  Inv X pins σ H' { s with heap:=h',gens:=g',drawn:=d',toks:=t' }:=by
 obtain⟨m,⟨o,es,ep,ho,r⟩,_⟩:=id I.loc
 obtain⟨sl,hL⟩:=u.any ho I.free λz=>(hch _ z).2.1 rfl
 exact I.step (ch:=ch) hch (λb o hL hb hc e n=>u.keep b o e n (λz=>(Lc.mp (I.we b z)).elim hL hb) hc) (λb o _ _ hc e n=>u.any e n hc) (λb o hc e n=>u.free b o e n hc) (λb o hc e=>u.there b o e hc) u.pe u.frzs u.tbls (λm' hm=>by
  obtain⟨o',es',ep',ho',r'⟩:=hm
  rw[ho]at ho';cases ho'
  exact#[_,es',ep',hL,r']) hok hg
def Inv.turned{t':Nat}{it:Addr}(I:Inv X pins σ H s)(k:∀b o,b≠it->s.heap.get? b=some o->h'.get? b=some o)(hn:H it=none)(hL:it≠X.env.locals)
  (h1:it∈X.ex\/X.s₀.heap.objs.size<=it) (h2:∀x c,X.env.cells.lookup x=some c->c≠it) (h3:∀p∈X.pn++pins,p.1≠it):Inv X pins σ H { s with heap:=h',toks:=t' }:=by
 have nit:∀b u,H b=some u->b≠it:=λb u e z=>by rw[z,hn]at e;cases e
 apply I.step (g':=s.gens) (d':=s.drawn) (ch:=[it]) (λb hb=>?_) (λb o _ _ hc e _=>k b o (λz=>hc (by simp[z])) e) (λb o _ _ hc e _=>#[o.slots,k b o (λz=>hc (by simp[z])) e]) (λ_ _ _ _ n=>n)
  (λb o hc e=>#[o,k b o (λz=>hc (by simp[z])) e]) (λ_ _ e=>e) (λ_ _ _ e=>e) (λb ps e=>#[#[],by rw[e];simp]) (λm hm=>?_) (λb u e=>?_) I.bare
 ·have e:b=it:=by simpa using hb
  subst e
  exact#[h1,hL,h2,h3]
 ·obtain⟨o,es,ep,ho,r⟩:=hm
  exact#[o,es,ep,k _ o (LO hL) ho,r]
 ·apply(I.hok b u e).pz (λc v hc q=>k c v ?_ q) (λ_ q=>q) λ_ _ q=>q
  rcases hc with z|z
  ·rw[z];exact nit b u e
  ·exact nit c _ z
def Inv.tok(I:Inv X pins σ H s)(t:Nat):Inv X pins σ H { s with toks:=t }:=I.un (h':=s.heap) (t':=t) Un.refl I.hok
theorem Inv.kept{t':Nat}(I:Inv X pins σ H s)(k:∀b u,s.heap.get? b=some u->h'.get? b=some u):Inv X pins σ H { s with heap:=h',toks:=t' }:=I.un (Un.kept k) (I.hok.kept k)
theorem Inv.laid{a:Addr}{o:HO}{t':Nat}(I:Inv X pins σ H s)(k:∀b u,s.heap.get? b=some u->h'.get? b=some u)(hp:s.heap.objs.size<=a)(new:cw X.prog X.w (upd H a o) h' a o) :
  Inv X pins σ (upd H a o) { s with heap:=h',toks:=t' }:=I.un (Un.laid k hp (I.hok.fresh hp)) (I.hok.laid k hp new)
theorem Inv.write{x e:Addr}{o:HO}{t':Nat}(I:Inv X pins σ H s)(mu:IT (H x))(he:e=x\/H e=some (.own x))(k:∀b u,b≠e->s.heap.get? b=some u->h'.get? b=some u)(heo:∃u,h'.get? e=some u)
  (new:cw X.prog X.w (upd H x o) h' x o):Inv X pins σ (upd H x o) { s with heap:=h',toks:=t' }:=I.un (Un.write mu he k heo) (I.hok.write mu he k heo new)
def Inv.yG{pins':List (Addr×Obj)}(I:Inv X pins σ H s)(h:∀p∈pins',s.heap.get? p.1=some p.2/\H p.1=none/\p.1≠X.env.locals/\p.1∉X.fs/\∀v,p.2.data≠.cell v):Inv X pins' σ H s :=
 #[I.ok,I.os,I.bare,I.base,I.loc,I.cell,I.free,I.freeC,λp hp=>(K9.mp hp).elim (λz=>I.pin p (Lj _ z)) (h p),I.hok,I.len]
def uD{N:List Str}(hN:N.Nodup){i j:Nat}{x:Str}(a:N[i]?=some x)(b:N[j]?=some x):i=j:=by
 obtain⟨h1,e1⟩:=Lh.mp a
 obtain⟨h2,e2⟩:=Lh.mp b
 exact(List.getElem_inj hN).mp (e1.trans e2.symm)
def qx{M:Model}{A:Around}{E:Value->Shared->Prop}{i:Nat}{x:Str}{v:V}{u:Value}{Q:Unit->Shared->Prop}(I:Inv X pins σ H s)(hN:X.N.Nodup)(hi:X.N[i]?=some x)(hx:Loc X.env.scope x)(r:RelV v u)
  (h:∀s',Inv X pins (σ.set i (some v)) H s'->(∃a,Heap.SameBut a s.heap s'.heap/\(a=X.env.locals\/X.env.cells.lookup x=some a))->Q () s') (hf:X.fn x=true\/X.env.scope.names.lookup x=some .local:=by first|exact .inl rfl|exact .inr rfl|assumption):wpAny M A (storeName X.env x u) Q E s:=by
 obtain⟨m,hn,hl⟩:=id I.loc
 have hcls:(X.env.scope.kind==.class || (X.env.scope.kind==.module&&X.env.locals != X.env.globals))=false:=by rw[I.ok.kind];rfl
 have hiσ:i<σ.length:=by rw[I.len];exact(Lh.mp hi).1
 have F6:=I.F6
 have tracked:∀{a:Addr} {h':Heap},(∃o,s.heap.get? a=some o/\H a=none)->Heap.SameBut a s.heap h'->jy X.prog X.w H h':=λ{a h'} ha hs b ob e=>by
  obtain⟨_,_,hfree⟩:=ha
  apply(I.hok b ob e).pz (λc w' hc q=>(hs.2 c ?_).trans q) (λ_ q=>q) λ_ _ q=>q
  rintro rfl
  rcases hc with rfl|hc
  ·rw[hfree]at e;cases e
  ·rw[hfree]at hc;cases hc
 rcases hx with hk|hk
 ·apply wpAny_storeName_local hk hn (λh' hn' hs=>?_) hcls
  obtain⟨oL,_,_,hoL,_⟩:=id hn
  apply h _ #[I.ok,I.os,I.bare,#[λb o e n hb hx=>?_,λb o e n hb hx=>?_,I.base.free,λb o e hx=>?_,I.base.pe,I.base.frzs,I.base.tbls],#[_,hn',λj y v' e1 e2 e3=>?_],λy c e=>?_,I.free,I.freeC,λp hp=>?_,tracked #[oL,hoL,I.free] hs,by simpa using I.len] #[_,hs,.inl rfl]
  ·exact(hs.2 b (LB (LF (Li e) I.ok.above))).trans (I.base.keep b o e n hb hx)
  ·obtain⟨sl,e1⟩:=I.base.slot b o e n hb hx
   exact#[sl,(hs.2 b (LB (LF (Li e) I.ok.above))).trans e1]
  ·obtain⟨o',e1⟩:=I.base.there b o e hx
   exact#[o',(hs.2 b (LB (LF (Li e) I.ok.above))).trans e1]
  ·by_cases hj:j=i
   ·subst hj
    rw[hi]at e1;cases e1
    rw[PZ hiσ]at e2
    cases e2
    exact#[u,r,.inl #[hk,by simp]]
   ·rw[Qj (LO hj)]at e2
    obtain⟨u',r',q⟩:=hl j y v' e1 e2 e3
    apply#[u',r',?_]
    rcases q with⟨k,e⟩|⟨k,c,e,z⟩
    ·apply .inl ⟨k,?_⟩
     have:y≠x:=λe=>hj (uD hN e1 (e ▸ hi))
     simp[this,e]
    ·exact .inr #[k,c,e,z.sameBut hs (F6 y c e)]
  ·obtain⟨w',z⟩:=I.cell y c e
   exact#[w',z.sameBut hs (F6 y c e)]
  ·obtain⟨e,n,ne,nf,d⟩:=I.pin p hp
   exact#[(hs.2 p.1 ne).trans e,n,ne,nf,d]
 ·have hfn:X.fn x=true:=by
   rcases hf with z|z
   ·exact z
   ·rw[z]at hk;cases hk
  obtain⟨c,hc⟩:=I.ok.has x (.inl hk)
  obtain⟨w',z⟩:=I.cell x c hc
  apply wpAny_storeName_cell I.ok.kind hk hc z (λh' hc' hs=>?_)
  obtain⟨oc,hoc,hocd⟩:=id z
  apply h { s with heap:=h' } #[I.ok,I.os,I.bare,#[λb o e n hb hx=>?_,λb o e n hb hx=>?_,I.base.free,λb o e hx=>?_,I.base.pe,I.base.frzs,I.base.tbls],#[m,hn.sameBut hs (LO (F6 x c hc)),λj y v' e1 e2 e3=>?_],λy c' e=>?_,I.free,I.freeC,λp hp=>?_,tracked #[oc,hoc,I.freeC x c hc] hs,by simpa using I.len] #[c,hs,.inr hc]
  ·exact(hs.2 b (LB (LF (Li e) (I.ok.cab x c hfn hc)))).trans (I.base.keep b o e n hb hx)
  ·obtain⟨sl,e1⟩:=I.base.slot b o e n hb hx
   exact#[sl,(hs.2 b (LB (LF (Li e) (I.ok.cab x c hfn hc)))).trans e1]
  ·obtain⟨o',e1⟩:=I.base.there b o e hx
   exact#[o',(hs.2 b (LB (LF (Li e) (I.ok.cab x c hfn hc)))).trans e1]
  ·by_cases hj:j=i
   ·subst hj
    rw[hi]at e1;cases e1
    rw[PZ hiσ]at e2
    cases e2
    exact#[u,r,.inr #[.inl hk,c,hc,hc']]
   ·rw[Qj (LO hj)]at e2
    obtain⟨u',r',q⟩:=hl j y v' e1 e2 e3
    apply#[u',r',?_]
    rcases q with q|⟨k,c',e,z'⟩
    ·exact .inl q
    ·apply .inr ⟨k,c',e,z'.sameBut hs ?_⟩
     rintro rfl
     exact hj (uD hN e1 (I.ok.inj _ _ _ e hc ▸ hi))
  ·by_cases hcc:c'=c
   ·subst hcc;exact#[_,hc']
   ·obtain⟨w2,z2⟩:=I.cell y c' e
    exact#[w2,z2.sameBut hs hcc]
  ·obtain⟨e,n,ne,nf,d⟩:=I.pin p hp
   apply#[(hs.2 p.1 ?_).trans e,n,ne,nf,d]
   intro q
   rw[q,hoc]at e
   have q':oc=p.2:=LS e
   exact d w' (by rw[<-q'];exact hocd)
def tX{M:Model}{A:Around}{E:Value->Shared->Prop}{i:Nat}{x:Str}{v:V}{u:Value}{Q:Unit->Shared->Prop}(I:Inv X pins σ H s)(hN:X.N.Nodup)(hi:X.N[i]?=some x)(hx:Loc X.env.scope x)(r:RelV v u)
  (h:∀s',Inv X pins (σ.set i (some v)) H s'->Q () s') (hf:X.fn x=true\/X.env.scope.names.lookup x=some .local:=by first|exact .inl rfl|exact .inr rfl|assumption):wpAny M A (storeName X.env x u) Q E s :=
 qx I hN hi hx r (λs' I' _=>h s' I') hf
def Inv.HZ{s':Shared}{ch:List Addr}(I:Inv X pins σ H s)(ho:s'.os=s.os)(u:Un (uW X.stack) ch H H' s.heap s'.heap)(hok:jy X.prog X.w H' s'.heap)(hg:AllBare s'.gens)
  (hch:∀b∈ch,(b∈X.ex\/X.s₀.heap.objs.size<=b)/\b≠X.env.locals/\(∀x c,X.env.cells.lookup x=some c->c≠b)/\∀p∈X.pn++pins,p.1≠b):Inv X pins σ H' s':=by
 obtain⟨h',g',d',t',o'⟩:=s'
 have e:o'=s.os:=ho
 subst e
 exact I.call (g':=g') (t':=t') (d':=d') u hok hg hch
end
abbrev XK:=Value->Option Addr->Hp->Prop
abbrev St:=List (Option V)
abbrev VK:=V->Hp->Prop
abbrev TE:=St->Hp->VK->Prop
abbrev TT:=St->Hp->(Bool->Hp->Prop)->Prop
abbrev TA:=St->Hp->(List V->Hp->Prop)->Prop
structure Ends where
 nx:St->Hp->Prop
 rt:VK
 bk:St->Hp->Prop:=λ_ _=>False
 ct:St->Hp->Prop:=λ_ _=>False
abbrev TS:=Ends->St->Hp->Prop
def EP(X:Cx)(pins:List (Addr×Obj))(σ:St)(Q:VK)(u:Value)(s':Shared):Prop:=∃v H',Inv X pins σ H' s'/\RelV v u/\Q v H'
def TP(X:Cx)(pins:List (Addr×Obj))(σ:St)(Q:Bool->Hp->Prop)(b:Bool)(s':Shared):Prop:=∃H',Inv X pins σ H' s'/\Q b H'
def AP(X:Cx)(pins:List (Addr×Obj))(σ:St)(Q:List V->Hp->Prop)(us:List Value)(s':Shared):Prop:=∃vs H',Inv X pins σ H' s'/\Vals vs us/\Q vs H'
def SP(X:Cx)(pins:List (Addr×Obj))(D:Ends)(f:Flow)(s':Shared):Prop :=
 match f with
 |.next=>∃σ' H',Inv X pins σ' H' s'/\D.nx σ' H'
 |.brk=>∃σ' H',Inv X pins σ' H' s'/\D.bk σ' H'
 |.cont=>∃σ' H',Inv X pins σ' H' s'/\D.ct σ' H'
 |.ret u=>∃v σ' H',Inv X pins σ' H' s'/\RelV v u/\D.rt v H'
def PE(X:Cx)(e:Expr)(t:TE):Prop :=
 ∀(pins:List (Addr×Obj)) (s:Shared) (σ:St) (H:Hp) (Q:VK),Inv X pins σ H s->t σ H Q->wpAny (model X.prog X.w) X.A (eval e X.env) (EP X pins σ Q) X.xe s
def PT(X:Cx)(e:Expr)(t:TT):Prop :=
 ∀(pins:List (Addr×Obj)) (s:Shared) (σ:St) (H:Hp) (Q:Bool->Hp->Prop),Inv X pins σ H s->t σ H Q->wpAny (model X.prog X.w) X.A (isTrue e X.env (eval e X.env)) (TP X pins σ Q) X.xe s
def PW(X:Cx)(e:Expr)(t:TT):Prop :=
 ∀(whole:Sem Value) (pins:List (Addr×Obj)) (s:Shared) (σ:St) (H:Hp) (Q:Bool->Hp->Prop),Inv X pins σ H s->t σ H Q->wpAny (model X.prog X.w) X.A (isTrue e X.env whole) (TP X pins σ Q) X.xe s
def PW.pt{X:Cx}{e:Expr}{t:TT}(h:PW X e t):PT X e t:=h _
def PA(X:Cx)(es:List Expr)(t:TA):Prop :=
 ∀(pos:Pos) (pins:List (Addr×Obj)) (s:Shared) (σ:St) (H:Hp) (Q:List V->Hp->Prop),Inv X pins σ H s->t σ H Q->wpAny (model X.prog X.w) X.A (spliced (backTo pos (starEach es X.env))) (AP X pins σ Q) X.xe s
def PS(X:Cx)(st:Stmt)(t:TS):Prop :=
 ∀(pins:List (Addr×Obj)) (s:Shared) (σ:St) (H:Hp) (D:Ends),Inv X pins σ H s->t D σ H->wpAny (model X.prog X.w) X.A (exec st X.env) (SP X pins D) X.xe s
def uV(X:Cx)(st:List Stmt)(t:TS):Prop :=
 ∀(pins:List (Addr×Obj)) (s:Shared) (σ:St) (H:Hp) (D:Ends),Inv X pins σ H s->t D σ H->wpAny (model X.prog X.w) X.A (execs st X.env) (SP X pins D) X.xe s
def cD{α:Type}{t:Sem α}{Q Q':α->Shared->Prop}{M:Model}{A:Around}{E:Value->Shared->Prop}{s:Shared}(h:wpAny M A t Q E s)(hQ:∀a s,Q a s->Q' a s):wpAny M A t Q' E s:=MO h hQ λ_ _ x=>x
section
variable {X:Cx}
inductive KC(i:Nat)(σ:St)(H:Hp)(Q:VK):Prop
 |mk (v:V) (e:σ[i]?=some (some v)) (k:Q v H)
def IB(i:Nat):TE:=KC i
def tC(v:V):TE:=λ_ H Q=>Q v H
def Hs{i:Nat}{x:Str}{pos:Pos}(hN:X.N[i]?=some x)(hv:Jl X.env.scope x)(hd:(x==("__debug__":Str))=false:=by decide)(hcd:(x==("__classdict__":Str))=false:=by decide):PE X (.Name x pos) (IB i):=by
 intro pins s σ H Q I h
 obtain⟨v,e,h⟩:=h
 obtain⟨m,hn,hl⟩:=I.loc
 obtain⟨u,r,l⟩:=hl i x v hN e hv
 have fin:EP X pins σ Q u s:=#[v,H,I,r,h]
 rcases l with⟨hk,hm⟩|⟨hk,c,hc,hcell⟩
 ·exact wpAny_Name (wpAny_loadName_local I.ok.kind hk hn hm fin) hd
 ·rcases hk with hk|hk
  ·exact wpAny_Name (wpAny_loadName_cell I.ok.kind hk hc hcell fin) hd
  ·exact wpAny_Name (wpAny_loadName_free I.ok.kind hk hc hcell fin hcd) hd
def aj{i j pos}:PE X (.Constant (.int i) j pos) (tC (.int i)):=λ_ _ _ H _ I h=>wpAny_Constant_int #[.int i,H,I.tok _,#[_,rfl],h]
def iz{b j pos}:PE X (.Constant (.bool b) j pos) (tC (.bl b)):=λ_ _ _ H _ I h=>Constant_bool #[.bl b,H,I,rfl,h]
def jG{j pos}:PE X (.Constant .none j pos) (tC .non):=λ_ _ _ H _ I h=>Constant_none #[.non,H,I,rfl,h]
def bX{x j pos}:PE X (.Constant (.str x) j pos) (tC (.str x)):=λ_ _ _ H _ I h=>Calls.Constant_str #[.str x,H,I.tok _,#[_,rfl],h]
def Gl(X:Cx)(x:Str):Prop:=X.env.kindOf x=some .globalImplicit
def rM{E:Value->Shared->Prop}{pins:List (Addr×Obj)}{s:Shared}{σ:St}{H:Hp}{x:Str}{u:Value}{pos:Pos}{Q:Value->Shared->Prop}(I:Inv X pins σ H s)(hg:Gl X x)(hm:X.mg x=some u)(h:Q u s)
  (hd:(x==("__debug__":Str))=false:=by decide):wpAny (model X.prog X.w) X.A (eval (.Name x pos) X.env) Q E s :=
 Pk I.ok.kind hg (Calls.loadGlobal_global (by rw[I.ok.glob];exact I.mod.glob.keeps I.bk) hm h) hd
def nM{E:Value->Shared->Prop}{pins:List (Addr×Obj)}{s:Shared}{σ:St}{H:Hp}{x:Str}{u:Value}{pos:Pos}{Q:Value->Shared->Prop}(I:Inv X pins σ H s)(hg:Gl X x)(hm:X.mg x=none)(hv:bootBuiltins x=some u)(h:Q u s)
  (hn:x≠"__name__":=by decide) (hd:(x==("__debug__":Str))=false:=by decide):wpAny (model X.prog X.w) X.A (eval (.Name x pos) X.env) Q E s:=by
 obtain⟨mb,h1,h2⟩:=I.mod.blt
 exact Pk I.ok.kind hg (Calls.loadGlobal_builtin (by rw[I.ok.glob];exact I.mod.glob.keeps I.bk) hm (by rw[I.ok.blt];exact h1.keeps I.bk) ((h2 x hn).trans hv) h) hd
def ix{x:Str}{v:V}{u:Value}{pos:Pos}(hg:Gl X x)(hm:X.mg x=some u)(r:RelV v u)(hd:(x==("__debug__":Str))=false:=by decide):PE X (.Name x pos) (tC v) :=
 λ_ _ _ H _ I h=>rM I hg hm #[v,H,I,r,h] hd
def jb{x:Str}{v:V}{u:Value}{pos:Pos}(hg:Gl X x)(hm:X.mg x=none)(hv:bootBuiltins x=some u)(r:RelV v u)(hn:x≠"__name__":=by decide)(hd:(x==("__debug__":Str))=false:=by decide):PE X (.Name x pos) (tC v) :=
 λ_ _ _ H _ I h=>nM I hg hm hv #[v,H,I,r,h] hn hd
variable {a b:Expr}{ta tb:TE}{pos:Pos}
def PC(X:Cx)(op:CmpOp)(a b:Expr)(t:TE):Prop :=
 ∀(pins:List (Addr×Obj)) (s:Shared) (σ:St) (H:Hp) (Q:VK),Inv X pins σ H s->t σ H Q ->
  wpAny (model X.prog X.w) X.A (eval a X.env) (λv s₁=>wpAny (model X.prog X.w) X.A (eval b X.env) (λu s₂=>wpAny (model X.prog X.w) X.A (compareOp op v u) (EP X pins σ Q) X.xe s₂) X.xe s₁) X.xe s
def B2(b:Expr){op:CmpOp}(h:op≠.In)(h2:op≠.NotIn):behindInMarks op b=false:=by
 have e1:(op==CmpOp.In)=false:=by cases op <;> first|rfl|exact absurd rfl h
 have e2:(op==CmpOp.NotIn)=false:=by cases op <;> first|rfl|exact absurd rfl h2
 cases b <;> simp[behindInMarks,e1,e2]
def IF(ta:TE):TE:=λσ H Q=>ta σ H λx H1=>Q (.bl (!decide (x=.non))) H1
def RelV.A4{x:V}{v:Value}(r:RelV x v):(v==Value.none)=decide (x=.non):=by
 cases x with
 |non=>cases r;rfl
 |bl _=>cases r;rfl
 |int _=>obtain⟨t,rfl⟩:=r;rfl
 |str _=>obtain⟨t,rfl⟩:=r;rfl
 |byt _=>obtain⟨t,rfl⟩:=r;rfl
 |flt _=>obtain⟨t,rfl⟩:=r;rfl
 |ref _=>cases r;rfl
 |ty _=>cases r;rfl
def rO{j pos'}(ha:PE X a ta):PC X .IsNot a (.Constant .none j pos') (IF ta):=by
 intro pins s σ H Q I h
 apply cD (ha pins s σ H _ I h) λv s1 hZ=>?_
 obtain⟨x,H1,I1,r1,q1⟩:=hZ
 exact Constant_none (isnot_none_gen #[.bl _,H1,I1,by rw[r1.A4];rfl,q1])
inductive JB(Q:Bool->Hp->Prop)(x:V)(H1:Hp):Prop
 |mk (c:Bool) (e:x=.bl c) (k:Q c H1)
def tB(t:TE):TT:=λσ H Q=>t σ H (JB Q)
def mW{op:CmpOp}{t:TE}(h:PC X op a b t)(h1:behindInMarks op b=false:=by first|exact B2 _ (by decide) (by decide)|rfl):PT X (.Compare a [op] [b] pos) (tB t):=by
 intro pins s σ H Q I hw
 apply wpAny_isTrue_Compare1 (cD (h pins s σ H _ I hw) λv s1 h1=>cD h1 λu s2 h2=>cD h2 λc s3 #[x,H1,I1,r1,q1]=>?_) h1
 obtain⟨d,rfl,q⟩:=q1
 cases r1
 exact Mf #[H1,I1,q]
def ck{e:Expr}{t:TE}(h:PE X e t)(he:∀whole,isTrue e X.env whole=(do let v <-whole;standAt e.pos;holding [v] (truthy v)):=by intro _;rfl):PT X e (tB t):=by
 intro pins s σ H Q I hw
 apply isTrue_plain (cD (h pins s σ H _ I hw) λv s1 #[x,H1,I1,r1,q1]=>?_) (he _)
 obtain⟨d,rfl,q⟩:=q1
 cases r1
 exact Mf #[H1,I1,q]
variable {tA tB':TT}{rest:List Expr}
def JJ(t u:TT):TT:=λσ H Q=>t σ H λc H1=>if c=true then u σ H1 Q else Q false H1
def tOr(t u:TT):TT:=λσ H Q=>t σ H λc H1=>if c=true then Q true H1 else u σ H1 Q
def JW(t:TT):TT:=λσ H Q=>t σ H λc H1=>Q (!c) H1
def pw_and1(ha:PT X a tA):PW X (.BoolOp .And [a] pos) tA:=by
 intro wh pins s σ H Q I h
 apply isTrue_and (cD (ha pins s σ H Q I h) λc s1 e=>?_)
 cases c with
 |true=>exact isTrue_and_nil e
 |false=>exact e
def pw_or1(ha:PT X a tA):PW X (.BoolOp .Or [a] pos) tA:=by
 intro wh pins s σ H Q I h
 apply isTrue_or (cD (ha pins s σ H Q I h) λc s1 e=>?_)
 cases c with
 |false=>exact isTrue_or_nil e
 |true=>exact e
def pw_and(ha:PT X a tA)(hb:PW X (.BoolOp .And (b::rest) pos) tB'):PW X (.BoolOp .And (a::b::rest) pos) (JJ tA tB'):=by
 intro wh pins s σ H Q I h
 apply isTrue_and (cD (ha pins s σ H _ I h) λc s1 hZ=>?_)
 obtain⟨H1,I1,q1⟩:=hZ
 cases c with
 |true=>exact hb wh pins s1 σ H1 Q I1 q1
 |false=>exact#[H1,I1,q1]
def pw_or(ha:PT X a tA)(hb:PW X (.BoolOp .Or (b::rest) pos) tB'):PW X (.BoolOp .Or (a::b::rest) pos) (tOr tA tB'):=by
 intro wh pins s σ H Q I h
 apply isTrue_or (cD (ha pins s σ H _ I h) λc s1 hZ=>?_)
 obtain⟨H1,I1,q1⟩:=hZ
 cases c with
 |true=>exact#[H1,I1,q1]
 |false=>exact hb wh pins s1 σ H1 Q I1 q1
def cF(ha:PT X a tA):PT X (.UnaryOp .Not a pos) (JW tA):=by
 intro pins s σ H Q I h
 exact isTrue_not (ha pins s σ H (λc H1=>Q (!c) H1) I h)
def Ja(ta tb:TE):TE:=λσ H Q=>ta σ H λx H1=>∃c,x=.bl c/\if c=true then tb σ H1 Q else Q (.bl false) H1
inductive JP(Q:VK)(x:V)(H1:Hp):Prop
 |mk (c:Bool) (e:x=.bl c) (k:Q (.bl (!c)) H1)
def Jf(ta:TE):TE:=λσ H Q=>ta σ H (JP Q)
def jI{op}{t:TE}(h:PE X a t):PE X (.BoolOp op [a] pos) t:=λpins s σ H Q I hw=>BoolOp_one (h pins s σ H Q I hw)
def jA(ha:PE X a ta)(hb:PE X (.BoolOp .And (b::rest) pos) tb):PE X (.BoolOp .And (a::b::rest) pos) (Ja ta tb):=by
 intro pins s σ H Q I h
 apply BoolOp_and (cD (ha pins s σ H _ I h) λv s1 hZ=>?_)
 obtain⟨x,H1,I1,r1,q1⟩:=hZ
 obtain⟨c,rfl,q1⟩:=q1
 cases r1
 apply Mf ?_
 cases c with
 |true=>exact hb pins s1 σ H1 Q I1 q1
 |false=>exact#[.bl false,H1,I1,rfl,q1]
def Bd(ha:PE X a ta):PE X (.UnaryOp .Not a pos) (Jf ta):=by
 intro pins s σ H Q I h
 apply UnaryOp_ (cD (ha pins s σ H _ I h) λv s1 hZ=>?_)
 obtain⟨x,H1,I1,r1,q1⟩:=hZ
 obtain⟨c,rfl,q1⟩:=q1
 cases r1
 exact not_of (Mf #[.bl (!c),H1,I1,rfl,q1])
end
def aH(K:PySem.W.Frag)(H:Hp)(a:Addr)(xs:List V):Prop :=
 Rd H a (.lst xs) \/
  ∃(o:Obj) (its:Array Value) (n:Nat),K.lookup a=some o/\o.cls=.type "list"/\o.dict=none/\o.data=.seq its n/\its.size<=sizeLine/\Vals xs its.toList
def cz(K:PySem.W.Frag)(H:Hp)(a:Addr)(xs:List V):Prop :=
 Rd H a (.tup xs) \/
  ∃(o:Obj) (its:Array Value) (n:Nat),K.lookup a=some o/\o.cls=.type "tuple"/\o.data=.seq its n/\its.size<=sizeLine/\Vals xs its.toList
def Kl:Value->Option V
 |.none=>some .non
 |.bool b=>some (.bl b)
 |.int i _=>some (.int i)
 |.str x _=>some (.str x)
 |.bytes b _=>some (.byt b)
 |.float b _=>some (.flt b)
 |.ref a=>some (.ref a)
 |.type n=>some (.ty n)
 |_=>none
def RelV.abs{x:V}{u:Value}(r:RelV x u):Kl u=some x:=by
 cases x with
 |non=>cases r;rfl
 |bl _=>cases r;rfl
 |int _=>obtain⟨t,rfl⟩:=r;rfl
 |str _=>obtain⟨t,rfl⟩:=r;rfl
 |byt _=>obtain⟨t,rfl⟩:=r;rfl
 |flt _=>obtain⟨t,rfl⟩:=r;rfl
 |ref _=>cases r;rfl
 |ty _=>cases r;rfl
theorem RelV.inj{x y:V}{u:Value}(r:RelV x u)(q:RelV y u):x=y:=LS (r.abs.symm.trans q.abs)
theorem Vals.inj:∀{xs ys:List V} {us:List Value},Vals xs us->Vals ys us->xs=ys
 |_,_,_,.nil,.nil=>rfl
 |_,_,_,.cons r t,.cons r' t'=>by rw[r.inj r',Vals.inj t t']
section
variable {X:Cx}{pins:List (Addr×Obj)}{σ:St}{H:Hp}{s:Shared}{a:Addr}{xs ys:List V}
def aH.of{K:PySem.W.Frag}(h:H a=some (.lst xs)):aH K H a xs:=.inl (.inl h)
def cz.of{K:PySem.W.Frag}(h:H a=some (.tup xs)):cz K H a xs:=.inl (.inl h)
def Inv.list(I:Inv X pins σ H s)(h:aH X.K H a xs):∃its:List Value,Vals xs its/\PlainL s.heap a its.toArray/\xs.length<=sizeLine:=by
 rcases h with h|⟨o,its,n,hk,hc,hd,hs,hz,r⟩
 ·obtain⟨z,its,n,r,e⟩:=h.ok I.hok
  exact#[its,r,#[_,n,e,rfl,rfl,rfl],z]
 ·apply⟨its.toList,r,⟨o,n,I.me a o hk,hc,hd,by simpa using hs⟩,?_⟩
  have e:=r.length
  simp only[MB]at e
  lia
def Inv.tuple(I:Inv X pins σ H s)(h:cz X.K H a xs):∃its:List Value,Vals xs its/\IsTup s.heap a its.toArray/\xs.length<=sizeLine:=by
 rcases h with h|⟨o,its,n,hk,hc,hs,hz,r⟩
 ·obtain⟨z,its,r,p⟩:=h.ok I.hok
  exact#[its,r,p,z]
 ·apply⟨its.toList,r,⟨o,I.me a o hk,hc,n,by simpa using hs⟩,?_⟩
  have e:=r.length
  simp only[MB]at e
  lia
def Inv.tf(I:Inv X pins σ H s)(h:aH X.K H a xs)(h':aH X.K H a ys):xs=ys:=by
 obtain⟨its,r,⟨o,n,e,_,_,d⟩,_⟩:=I.list h
 obtain⟨its',r',⟨o',n',e',_,_,d'⟩,_⟩:=I.list h'
 rw[e]at e';cases e'
 rw[d]at d'
 injection d' with d1 _
 have:its=its':=by simpa using L6 Array.toList d1
 subst this
 exact r.inj r'
def Inv.qq(I:Inv X pins σ H s)(h:cz X.K H a xs)(h':cz X.K H a ys):xs=ys:=by
 obtain⟨its,r,⟨o,e,_,n,d⟩,_⟩:=I.tuple h
 obtain⟨its',r',⟨o',e',_,n',d'⟩,_⟩:=I.tuple h'
 rw[e]at e';cases e'
 rw[d]at d'
 injection d' with d1 _
 have:its=its':=by simpa using L6 Array.toList d1
 subst this
 exact r.inj r'
end
abbrev Cx.cg(X:Cx)(E:Value->Shared->Prop):Cx:={ X with xe:=E }
abbrev Cx.dY(X:Cx):Cx:=X.cg λ_ _=>False
theorem Cx.Ok.cg{X:Cx}(ok:X.Ok)(E:Value->Shared->Prop):(X.cg E).Ok :=
 #[ok.mod,ok.kind,ok.glob,ok.blt,ok.above,ok.inj,ok.has,ok.cab,ok.hd,ok.frames,ok.stk,ok.exf,ok.bs,ok.bsz,ok.noex,ok.exfs,ok.kR,ok.frf]
def Cx.Ok.iT{X:Cx}{E:Value->Shared->Prop}(ok:(X.cg E).Ok):X.Ok :=
 #[ok.mod,ok.kind,ok.glob,ok.blt,ok.above,ok.inj,ok.has,ok.cab,ok.hd,ok.frames,ok.stk,ok.exf,ok.bs,ok.bsz,ok.noex,ok.exfs,ok.kR,ok.frf]
section
variable {X:Cx}{pins:List (Addr×Obj)}{σ:St}{H:Hp}{s:Shared}{E:Value->Shared->Prop}
theorem Inv.cg(I:Inv X pins σ H s)(E:Value->Shared->Prop):Inv (X.cg E) pins σ H s:=#[I.ok.cg E,I.os,I.bare,I.base,I.loc,I.cell,I.free,I.freeC,I.pin,I.hok,I.len]
theorem Inv.iT(I:Inv (X.cg E) pins σ H s):Inv X pins σ H s:=#[I.ok.iT,I.os,I.bare,I.base,I.loc,I.cell,I.free,I.freeC,I.pin,I.hok,I.len]
theorem SP.iT{D:Ends}{f:Flow}{s':Shared}(h:SP (X.cg E) pins D f s'):SP X pins D f s':=by
 cases f with
 |next=>obtain⟨σ',H',I,q⟩:=h;exact#[σ',H',I.iT,q]
 |brk=>obtain⟨σ',H',I,q⟩:=h;exact#[σ',H',I.iT,q]
 |cont=>obtain⟨σ',H',I,q⟩:=h;exact#[σ',H',I.iT,q]
 |ret u=>obtain⟨v,σ',H',I,r,q⟩:=h;exact#[v,σ',H',I.iT,r,q]
theorem uV.dY{st:List Stmt}{t:TS}(h:uV X.dY st t):uV X st t:=λpins s σ H D I hw =>
 MO (h pins s σ H D (I.cg _) hw) (λ_ _ q=>q.iT) λ_ _ z=>False.elim z
end
section
variable {X:Cx}{st:Stmt}{rest:List Stmt}{t u:TS}{e:Expr}{te:TE}{pos:Pos}
def IY:TS:=λD σ H=>D.nx σ H
def uK(t u:TS):TS:=λD σ H=>t { D with nx:=u D } σ H
def aM:uV X [] IY:=λ_ _ σ H _ I h=>OR #[σ,H,I,h]
def ag(h1:PS X st t)(h2:uV X rest u):uV X (st::rest) (uK t u):=by
 intro pins s σ H D I h
 apply wpAny_execs_cons (cD (h1 pins s σ H { D with nx:=u D } I h) λf s1 q=>?_)
 cases f with
 |next =>
  obtain⟨σ',H',I',q⟩:=q
  exact h2 pins s1 σ' H' D I' q
 |ret v=>exact q
 |brk=>exact q
 |cont=>exact q
def ak(h1:PS X st t):uV X [st] t:=by
 intro pins s σ H D I h
 apply wpAny_execs_cons (cD (h1 pins s σ H D I h) λf s1 q=>?_)
 cases f with
 |next=>exact OR q
 |ret v=>exact q
 |brk=>exact q
 |cont=>exact q
def Inv.quiet{pins:List (Addr×Obj)}{σ:St}{H:Hp}{s:Shared}(I:Inv X pins σ H s):interactive X.env=false:=by simp[interactive,I.ok.kind]
def Iy(te:TE):TS:=λD σ H=>te σ H λ_ H1=>D.nx σ H1
def a9(he:PE X e te)(hs:swapsWith e none pos.line X.env=pure false:=by rfl):PS X (.Expr e pos) (Iy te):=by
 intro pins s σ H D I h
 exact wpAny_Expr_any (cD (he pins s σ H _ I h) λv s1 #[x,H1,I1,r1,q1]=>#[σ,H1,I1,q1]) I.quiet hs
def JK(te:TE):TS:=λD σ H=>te σ H D.rt
def aK(he:PE X e te):PS X (.Return (some e) pos) (JK te):=by
 intro pins s σ H D I h
 exact wpAny_Return_some (cD (he pins s σ H _ I h) λv s1 #[x,H1,I1,r1,q1]=>#[x,σ,H1,I1,r1,q1])
def Kf(c:TT)(t u:TS):TS:=λD σ H=>c σ H λb H1=>if b=true then t D σ H1 else u D σ H1
def bK{c:Expr}{a b:List Stmt}{tc:TT}(hc:PT X c tc)(ha:uV X a t)(hb:uV X b u):PS X (.If c a b pos) (Kf tc t u):=by
 intro pins s σ H D I h
 apply wpAny_If (cD (hc pins s σ H _ I h) λd s1 hZ=>?_)
 obtain⟨H1,I1,q1⟩:=hZ
 cases d with
 |true=>exact ha pins s1 σ H1 D I1 q1
 |false=>exact hb pins s1 σ H1 D I1 q1
def Av:TS:=λ_ _ _=>False
def cH:PS X st Av:=λ_ _ _ _ _ _ h=>h.elim
def qD{sts:List Stmt}:uV X sts Av:=λ_ _ _ _ _ _ h=>h.elim
end
abbrev TG:=V->St->Hp->(St->Hp->Prop)->Prop
abbrev Ej:=List V->St->Hp->(St->Hp->Prop)->Prop
def PG(X:Cx)(target:Expr)(t:TG):Prop :=
 ∀(pins:List (Addr×Obj)) (s:Shared) (σ:St) (H:Hp) (v:V) (u:Value) (Q:St->Hp->Prop),Inv X pins σ H s->RelV v u->t v σ H Q ->
  wpAny (model X.prog X.w) X.A (assign target X.env u) (λ_ s'=>∃σ' H',Inv X pins σ' H' s'/\Q σ' H') X.xe s
def Jg(X:Cx)(ts:List Expr)(t:Ej):Prop :=
 ∀(pins:List (Addr×Obj)) (s:Shared) (σ:St) (H:Hp) (vs:List V) (us:List Value) (Q:St->Hp->Prop),Inv X pins σ H s->Vals vs us->t vs σ H Q ->
  wpAny (model X.prog X.w) X.A (assignInOrder ((assignEach ts X.env).map (·.2)) us) (λ_ s'=>∃σ' H',Inv X pins σ' H' s'/\Q σ' H') X.xe s
abbrev Hm:=V->V->V->Hp->(Hp->Prop)->Prop
def HQ(X:Cx)(t:Hm):Prop :=
 ∀(pins:List (Addr×Obj)) (s:Shared) (σ:St) (H:Hp) (o i v:V) (ov iv u:Value) (Q:Hp->Prop),Inv X pins σ H s->RelV o ov->RelV i iv->RelV v u->t o i v H Q ->
  wpAny (model X.prog X.w) X.A (setItem ov iv u) (λ_ s'=>∃H',Inv X pins σ H' s'/\Q H') X.xe s
section
variable {X:Cx}{pos:Pos}
def fi(i:Nat):TG:=λv σ H Q=>Q (σ.set i (some v)) H
def yA{i:Nat}{x:Str}(hN:X.N.Nodup)(hi:X.N[i]?=some x)(hx:Loc X.env.scope x)(hf:X.fn x=true\/X.env.scope.names.lookup x=some .local:=by first|exact .inl rfl|exact .inr rfl|assumption):PG X (.Name x pos) (fi i):=by
 intro pins s σ H v u Q I r h
 exact wpAny_assign_Name (tX I hN hi hx r (λs' I'=>#[_,H,I',h]) hf)
def KI:Ej:=λvs σ H Q=>vs=[]/\Q σ H
inductive JGc(t:TG)(u:Ej)(vs:List V)(σ:St)(H:Hp)(Q:St->Hp->Prop):Prop
 |mk (v:V) (r:List V) (e:vs=v::r) (k:t v σ H λσ' H'=>u r σ' H' Q)
def HL(t:TG)(u:Ej):Ej:=JGc t u
def di:Jg X [] KI:=by
 intro pins s σ H vs us Q I r h
 obtain⟨e,h⟩:=h
 subst e
 cases r
 exact assignInOrder_nil #[σ,H,I,h]
def aU{e:Expr}{es:List Expr}{t:TG}{u:Ej}(h1:PG X e t)(h2:Jg X es u)
  (hs:(assignEach (e::es) X.env).map (·.2)=assign e X.env::(assignEach es X.env).map (·.2):=by rfl):Jg X (e::es) (HL t u):=by
 intro pins s σ H vs us Q I r h
 obtain⟨v,vr,e1,h⟩:=h
 subst e1
 cases r with
 |cons r rr =>
  rw[hs]
  apply assignInOrder_cons (cD (h1 pins s σ H _ _ _ I r h) λ_ s1 hZ=>?_)
  obtain⟨σ1,H1,I1,q1⟩:=hZ
  exact h2 pins s1 σ1 H1 _ _ Q I1 rr q1
inductive JGt(K:PySem.W.Frag)(n:Nat)(t:Ej)(v:V)(σ:St)(H:Hp)(Q:St->Hp->Prop):Prop
 |mk (a:Addr) (xs:List V) (e:v=.ref a) (h:cz K H a xs) (l:xs.length=n) (k:t xs σ H Q)
def KQ(K:PySem.W.Frag)(n:Nat)(t:Ej):TG:=JGt K n t
def eD{es:List Expr}{k:Nat}{t:Ej}{n:Nat}(hc:X.calm=true)(h:Jg X es t)
  (hn:(assignEach es X.env).length=n:=by rfl) (hst:(assignEach es X.env).findIdx? (·.1)=none:=by rfl):PG X (.Tuple es k pos) (KQ X.K n t):=by
 intro pins s σ H v u Q I r hw
 obtain⟨a,xs,e1,hq,hl,hw⟩:=hw
 subst e1
 cases r
 obtain⟨its,rv,ht,hz⟩:=I.tuple hq
 apply assign_Tuple_tuple (I.ok.hd hc) ht (by simp[hn,<-hl,rv.length]) hst λh' hx=>?_
 have I1:Inv X pins σ H { s with heap:=h' }:=I.kept (t':=s.toks) λb o e=>hx b o (LB (Li e)) e
 exact h pins _ σ H xs _ Q I1 (by simpa using rv) hw
def KY(to ti:TE)(t:Hm):TG:=λv σ H Q=>to σ H λo H1=>ti σ H1 λi H2=>t o i v H2 λH3=>Q σ H3
def k6{o i:Expr}{to ti:TE}{t:Hm}(ho:PE X o to)(hi:PE X i ti)(hs:HQ X t)
  (ha:∀v,assign (.Subscript o i pos) X.env v = (do
   let ov <-holding [v] (eval o X.env)
   let iv <-holding [v,ov] (eval i X.env)
   standAt pos
   holding [v,ov,iv] (setItem ov iv v)
   release [v,ov,iv] []):=by intro _;rfl):PG X (.Subscript o i pos) (KY to ti t):=by
 intro pins s σ H v u Q I r h
 rw[ha]
 apply K3 (Mn (cD (ho pins s σ H _ I h) λov s1 hZ=>?_))
 obtain⟨x,H1,I1,r1,q1⟩:=hZ
 apply K3 (Mn (cD (hi pins s1 σ H1 _ I1 q1) λiv s2 hZ=>?_))
 obtain⟨y,H2,I2,r2,q2⟩:=hZ
 apply K3 (Qp (K3 (Mn (cD (hs pins s2 σ H2 x y v ov iv u _ I2 r1 r2 r q2) λ_ s3 hZ=>?_))))
 obtain⟨H3,I3,q3⟩:=hZ
 exact wpAny_release #[σ,H3,I3,q3]
def zS(te:TE)(g:TG):TS:=λD σ H=>te σ H λx H1=>g x σ H1 D.nx
def jz{tg e:Expr}{te:TE}{g:TG}(he:PE X e te)(hg:PG X tg g)(hs:swapsWithSole [tg] e pos.line X.env=pure false:=by rfl)(hw:swappedStores [tg] e X.env=pure none:=by rfl)
  (h1:(assignEach [tg] X.env).map (·.2)=[assign tg X.env]:=by rfl):PS X (.Assign [tg] e pos) (zS te g):=by
 intro pins s σ H D I h
 apply wpAny_Assign_stores (cD (he pins s σ H _ I h) λv s1 #[x,H1,I1,r1,q1]=>?_) hs hw
 rw[h1]
 exact cD (hg pins s1 σ H1 x v _ I1 r1 q1) λ_ s2 q=>q
def vA{i:Nat}{x:Str}{e:Expr}{te:TE}{pos':Pos}(hN:X.N.Nodup)(hi:X.N[i]?=some x)(hx:Loc X.env.scope x)(he:PE X e te)(hs:swapsWith e (some (.Name x pos')) pos.line X.env=pure false:=by rfl)(hf:X.fn x=true\/X.env.scope.names.lookup x=some .local:=by first|exact .inl rfl|exact .inr rfl|assumption) :
  PS X (.Assign [.Name x pos'] e pos) (zS te (fi i)):=by
 intro pins s σ H D I h
 apply wpAny_Assign_Name (cD (he pins s σ H _ I h) λv s1 #[y,H1,I1,r1,q1]=>?_) hs
 exact tX I1 hN hi hx r1 (λs2 I2=>#[_,H1,I2,q1]) hf
end
section
variable {X:Cx}{pos:Pos}
def Gk(c:TT)(tb:TS):TS:=λD σ H=>∃W:Nat->St->Hp->Prop,(∃m,W m σ H)/\∀m σ H,W m σ H ->
 c σ H λb H1=>if b=true then ∃N:St->Hp->Prop,(∀σ' H',N σ' H'->∃m',m'<m/\W m' σ' H')/\tb { D with nx:=N,ct:=N,bk:=D.nx } σ H1 else D.nx σ H1
def oN{c:Expr}{body:List Stmt}{tc:TT}{tb:TS}(hp:PassesOwn (model X.prog X.w) X.A X.env X.xe)(hc:PT X c tc)(hb:uV X body tb):PS X (.While c body [] pos) (Gk tc tb):=by
 intro pins s σ H D I h
 obtain⟨W,⟨m0,w0⟩,turn⟩:=h
 apply wpAny_While (codeAny_whileLoop (λn s'=>∃σ' H',Inv X pins σ' H' s'/\W n σ' H') ?_ m0 #[σ,H,I,w0])
 rintro n s1 ⟨σ1,H1,I1,w1⟩
 apply Nn hp (cD (hc pins s1 σ1 H1 _ I1 (turn n σ1 H1 w1)) λb s2 hZ=>?_)
 obtain⟨H2,I2,q2⟩:=hZ
 cases b with
 |true =>
  obtain⟨N,hN,q2⟩:=q2
  rw[Ls rfl]
  apply Nn hp (cD (hb pins s2 σ1 H2 _ I2 q2) λf s3 q3=>?_)
  cases f with
  |next =>
   obtain⟨σ3,H3,I3,n3⟩:=q3
   obtain⟨m',hm,w3⟩:=hN σ3 H3 n3
   exact#[m',hm,σ3,H3,I3,w3]
  |cont =>
   obtain⟨σ3,H3,I3,n3⟩:=q3
   obtain⟨m',hm,w3⟩:=hN σ3 H3 n3
   exact#[m',hm,σ3,H3,I3,w3]
  |brk=>exact q3
  |ret v=>exact q3
 |false =>
  rw[Le LI]
  exact OR #[σ1,H2,I2,q2]
end
structure It where
 go:Nat->Hp->Prop
 yld:Nat->Hp->V->Hp->Prop
 stop:Nat->Hp->Prop
def iE(X:Cx)(pins:List (Addr×Obj))(H:Hp)(b:Addr):Prop :=
 H b=none/\b≠X.env.locals/\b∉X.fs/\(b∈X.ex\/X.s₀.heap.objs.size<=b)/\(∀x c,X.env.cells.lookup x=some c->c≠b)/\∀p∈X.pn++pins,p.1≠b
def Inv.zd{X:Cx}{pins:List (Addr×Obj)}{σ:St}{H H':Hp}{s:Shared}{b:Addr}(I:Inv X pins σ H s)(hb:s.heap.objs.size<=b)(hn:H' b=none):iE X pins H' b:=by
 apply#[hn,M4 (LF I.lt hb),I.JZ hb,.inr (LM I.sz hb),λx c e z=>?_,λp hp z=>?_]
 ·obtain⟨v,q⟩:=I.cell x c e
  exact absurd (LF q.lt (by rw[z];exact hb)) (Me _)
 ·exact absurd (LF (Li (I.pin p hp).1) (by rw[z];exact hb)) (Me _)
structure Turn(P:Program)(w:World)(K:PySem.W.Frag)(tg:Expr)(J:It)(fp:List Addr)(it:Addr)(tn:Nat->Heap->Prop):Prop where
 mem:it∈fp
 obj:∀i h,tn i h->∀b∈fp,∃o,h.get? b=some o/\∀v,o.data≠.cell v
 keep:∀i h h',tn i h->(∀b∈fp,∀o,h.get? b=some o->h'.get? b=some o)->tn i h'
 item:∀(X:Cx),X.prog=P->X.w=w->X.K=K->X.calm=true->∀(i:Nat) (pins:List (Addr×Obj)) (s:Shared) (σ:St) (H:Hp) (E:Value->Shared->Prop),Inv X pins σ H s->(∀b∈fp,iE X pins H b)->tn i s.heap->J.go i H ->
  wpAny (model P w) X.A (pyNext (.ref it)) (λr s1=>∃u,r=some u /\
   wpAny (model P w) X.A (letOwnedTupleGo tg (.ref it) u) (λ_ s2=>∃x H',Inv X pins σ H' s2/\RelV x u/\J.yld i H x H'/\tn (i+1) s2.heap/\∀b∈fp,H' b=none) E s1) E s
 done:∀(X:Cx),X.prog=P->X.w=w->X.K=K->X.calm=true->∀(i:Nat) (pins:List (Addr×Obj)) (s:Shared) (σ:St) (H:Hp) (E:Value->Shared->Prop),Inv X pins σ H s->(∀b∈fp,iE X pins H b)->tn i s.heap->J.stop i H ->
  wpAny (model P w) X.A (pyNext (.ref it)) (λr s1=>r=none/\Inv X pins σ H s1) E s
 self:∀(A:Around) (i:Nat) (s:Shared) (Q:Value->Shared->Prop) (E:Value->Shared->Prop),tn i s.heap->Q (.ref it) s->wpAny (model P w) A (pyIter (.ref it)) Q E s
abbrev TI:=St->Hp->(It->Hp->Prop)->Prop
def PIE(X:Cx)(pins:List (Addr×Obj))(σ:St)(tg:Expr)(R:It->Hp->Prop)(itv:Value)(s2:Shared):Prop :=
 ∃(it:Addr) (fp:List Addr) (tn:Nat->Heap->Prop) (J:It) (H':Hp),itv=.ref it/\Inv X pins σ H' s2/\Turn X.prog X.w X.K tg J fp it tn/\tn 0 s2.heap/\(∀b∈fp,iE X pins H' b)/\R J H'
def PI(X:Cx)(tg iter:Expr)(wi:TI):Prop :=
 ∀(pins:List (Addr×Obj)) (s:Shared) (σ:St) (H:Hp) (R:It->Hp->Prop),Inv X pins σ H s->wi σ H R ->
  wpAny (model X.prog X.w) X.A (eval iter X.env) (λv s1=>wpAny (model X.prog X.w) X.A (pyIter v) (PIE X pins σ tg R) X.xe s1) X.xe s
def xb{M:Model}{A:Around}{E:Value->Shared->Prop}{s:Shared}{tg:Expr}{it:Addr}{u:Value}{o:Obj}{n:String}{vs:Array Value}{Q:Unit->Shared->Prop}(ho:s.heap.get? it=some o)(hc:o.cls=.type n)(hd:o.data=.fields vs)
    (hn:["enumerate","zip","dict_itemiterator","dict_reverseitemiterator","odict_iterator","itertools.zip_longest","itertools.pairwise"].contains n=false) (hQ:Q () s):wpAny M A (letOwnedTupleGo tg (.ref it) u) Q E s:=by
  unfold letOwnedTupleGo
  cases tg <;> first
    |exact K6 hQ
    |(cases u <;> first
        |exact K6 hQ
        | (apply K3 (wpAny_load ho ?_)
           rw[hc,hd]
           show wpAny M A (if (["enumerate","zip","dict_itemiterator","dict_reverseitemiterator","odict_iterator","itertools.zip_longest","itertools.pairwise"].contains n&&vs[0]?==some (rawInt _))=true then _ else _) Q E s
           rw[Le (by intro h;rw[hn,Oz]at h;cases h)]
           exact K6 hQ))
def Hy(K:PySem.W.Frag)(a:Addr):It :=
 #[λi H=>∃xs x,aH K H a xs/\xs[i]?=some x,λi H x H'=>H'=H/\∀xs,aH K H a xs->xs[i]?=some x,λi H=>∃xs,aH K H a xs/\xs.length<=i]
def Hx(K:PySem.W.Frag)(a:Addr):It :=
 #[λi H=>∃xs x,cz K H a xs/\xs[i]?=some x,λi H x H'=>H'=H/\∀xs,cz K H a xs->xs[i]?=some x,λi H=>∃xs,cz K H a xs/\xs.length<=i]
def Ht(lo:Int)(n:Nat):It:=#[λi _=>i<n,λi H x H'=>H'=H/\x=.int (lo+i),λi _=>n<=i]
def zw{P:Program}{w:World}{K:PySem.W.Frag}{tg:Expr}(a it:Addr):Turn P w K tg (Hy K a) [it] it (λi h=>h.IsListIter it a i) where
 mem:=by simp
 obj:=λi h st b hb=>by
  have e:b=it:=by simpa using hb
  subst e
  obtain⟨o,e,c,d⟩:=st
  exact#[o,e,λv z=>by rw[d]at z;cases z]
 keep:=λi h h' st k=>st.at λo e=>k it (by simp) o e
 item:=by
  intro X hP hw hK hc i pins s σ H E I hf st hg
  subst hP hw hK
  obtain⟨xs,x,hq,hx⟩:=hg
  obtain⟨its,rv,p,hz⟩:=I.list hq
  obtain⟨u,hu,ru⟩:=rv.get hx
  obtain⟨f0,f1,f2,f3,f4,f5⟩:=hf it (by simp)
  apply wpAny_pyNext_list_item st p.isList (x:=u) (by simpa using hu) λh' st' sb=>?_
  have I1:Inv X pins σ H { s with heap:=h' }:=I.turned (t':=s.toks) (λb o hb e=>(sb.2 b hb).trans e) f0 f1 f3 f4 f5
  obtain⟨o,e,c,d⟩:=id st'
  exact#[u,rfl,xb (s:={ s with heap:=h' }) e c d (by decide) #[x,H,I1,ru,#[rfl,λys hy=>by rw[I.tf hy hq];exact hx],st',λb hb=>(hf b hb).1]]
 done:=by
  intro X hP hw hK hc i pins s σ H E I hf st hg
  subst hP hw hK
  obtain⟨xs,hq,hx⟩:=hg
  obtain⟨its,rv,p,hz⟩:=I.list hq
  obtain⟨f0,f1,f2,f3,f4,f5⟩:=hf it (by simp)
  have hl:=rv.length
  exact wpAny_pyNext_list_end (I.ok.hd hc) st p.isList (by simp;lia) λh' eb=>#[rfl,I.turned (t':=s.toks) (λb o hb e=>eb b o hb e) f0 f1 f3 f4 f5]
 self:=λ_ _ _ _ _ st h=>wpAny_pyIter_listiter st h
def vM{P:Program}{w:World}{K:PySem.W.Frag}{tg:Expr}(a it:Addr):Turn P w K tg (Hx K a) [it] it (λi h=>h.IsTupleIter it a i) where
 mem:=by simp
 obj:=λi h st b hb=>by
  have e:b=it:=by simpa using hb
  subst e
  obtain⟨o,e,c,d⟩:=st
  exact#[o,e,λv z=>by rw[d]at z;cases z]
 keep:=λi h h' st k=>st.at λo e=>k it (by simp) o e
 item:=by
  intro X hP hw hK hc i pins s σ H E I hf st hg
  subst hP hw hK
  obtain⟨xs,x,hq,hx⟩:=hg
  obtain⟨its,rv,p,hz⟩:=I.tuple hq
  obtain⟨u,hu,ru⟩:=rv.get hx
  obtain⟨f0,f1,f2,f3,f4,f5⟩:=hf it (by simp)
  apply wpAny_pyNext_tuple_item st (show s.heap.IsTuple a its.toArray from p) (x:=u) (by simpa using hu) λh' st' sb=>?_
  have I1:Inv X pins σ H { s with heap:=h' }:=I.turned (t':=s.toks) (λb o hb e=>(sb.2 b hb).trans e) f0 f1 f3 f4 f5
  obtain⟨o,e,c,d⟩:=id st'
  exact#[u,rfl,xb (s:={ s with heap:=h' }) e c d (by decide) #[x,H,I1,ru,#[rfl,λys hy=>by rw[I.qq hy hq];exact hx],st',λb hb=>(hf b hb).1]]
 done:=by
  intro X hP hw hK hc i pins s σ H E I hf st hg
  subst hP hw hK
  obtain⟨xs,hq,hx⟩:=hg
  obtain⟨its,rv,p,hz⟩:=I.tuple hq
  obtain⟨f0,f1,f2,f3,f4,f5⟩:=hf it (by simp)
  have hl:=rv.length
  exact wpAny_pyNext_tuple_end (I.ok.hd hc) st (show s.heap.IsTuple a its.toArray from p) (by simp;lia) λh' eb=>#[rfl,I.turned (t':=s.toks) (λb o hb e=>eb b o hb e) f0 f1 f3 f4 f5]
 self:=λ_ _ _ _ _ st h=>wpAny_pyIter_tupleiter st h
def vD{P:Program}{w:World}{K:PySem.W.Frag}{tg:Expr}(it:Addr)(lo:Int)(n:Nat):Turn P w K tg (Ht lo n) [it] it (λi h=>IsRangeIter h it (lo+(i:Nat)*1) ((n:Int)-(i:Nat)) 1) where
 mem:=by simp
 obj:=λi h st b hb=>by
  have e:b=it:=by simpa using hb
  subst e
  exact#[_,st,λv z=>by
   have z':Data.fields _=Data.cell v:=z
   cases z']
 keep:=λi h h' st k=>k it (by simp) _ st
 item:=by
  intro X hP hw hK hc i pins s σ H E I hf st hg
  subst hP hw hK
  obtain⟨f0,f1,f2,f3,f4,f5⟩:=hf it (by simp)
  have W:=Walks.range (prog:=X.prog) (w:=X.w) (I.ok.hd hc) it lo 1 n
  apply W.item i s _ _ hg st λv h' tk hv st' kk=>?_
  obtain⟨t,rfl⟩:=hv
  have I1:Inv X pins σ H { s with heap:=h',toks:=tk }:=I.turned (λb o hb e=>kk b o (by simpa using hb) e) f0 f1 f3 f4 f5
  apply#[Z,xb (s:={ s with heap:=h',toks:=tk }) (n:="range_iterator") st' rfl rfl (by decide) #[.int (lo+i),H,I1,#[t,?_],#[rfl,rfl],st',λb hb=>(hf b hb).1]]
  rw[Int.mul_one]
 done:=by
  intro X hP hw hK hc i pins s σ H E I hf st hg
  subst hP hw hK
  obtain⟨f0,f1,f2,f3,f4,f5⟩:=hf it (by simp)
  exact wpAny_pyNext_range_end (I.ok.hd hc) st (by have:n<=i:=hg;lia) λh' eb=>#[rfl,I.turned (t':=s.toks) (λb o hb e=>eb b o hb e) f0 f1 f3 f4 f5]
 self:=λ_ _ _ _ _ st h=>wpAny_pyIter_rangeiter st h
section
variable {X:Cx}{tg:Expr}
inductive JIl(K:PySem.W.Frag)(R:It->Hp->Prop)(x:V)(H1:Hp):Prop
 |mk (a:Addr) (e:x=.ref a) (h:∃xs,aH K H1 a xs) (k:R (Hy K a) H1)
inductive JIt(K:PySem.W.Frag)(R:It->Hp->Prop)(x:V)(H1:Hp):Prop
 |mk (a:Addr) (e:x=.ref a) (h:∃xs,cz K H1 a xs) (k:R (Hx K a) H1)
def FQ(K:PySem.W.Frag)(tl:TE):TI:=λσ H R=>tl σ H (JIl K R)
def HD(K:PySem.W.Frag)(tl:TE):TI:=λσ H R=>tl σ H (JIt K R)
def aZ{l:Expr}{tl:TE}(hl:PE X l tl):PI X tg l (FQ X.K tl):=by
 intro pins s σ H R I h
 apply cD (hl pins s σ H _ I h) λv s1 hZ=>?_
 obtain⟨x,H1,I1,r1,q1⟩:=hZ
 obtain⟨a,e,⟨xs,hq⟩,q⟩:=q1
 subst e
 cases r1
 obtain⟨its,rv,p,hz⟩:=I1.list hq
 apply NU p.isList ?_
 apply#[s1.heap.objs.size,[s1.heap.objs.size],_,_,H1,rfl,I1.kept (t':=s1.toks) λb o e=>K8 _ e,zw a _,#[_,Ly _ rfl,rfl,rfl],λb hb=>?_,q]
 have e:b=s1.heap.objs.size:=by simpa using hb
 subst e
 exact I1.zd (La _) (I1.hok.fresh (La _))
def jM{l:Expr}{tl:TE}(hl:PE X l tl):PI X tg l (HD X.K tl):=by
 intro pins s σ H R I h
 apply cD (hl pins s σ H _ I h) λv s1 hZ=>?_
 obtain⟨x,H1,I1,r1,q1⟩:=hZ
 obtain⟨a,e,⟨xs,hq⟩,q⟩:=q1
 subst e
 cases r1
 obtain⟨its,rv,p,hz⟩:=I1.tuple hq
 apply wpAny_pyIter_tuple (show s1.heap.IsTuple a its.toArray from p) ?_
 apply#[s1.heap.objs.size,[s1.heap.objs.size],_,_,H1,rfl,I1.kept (t':=s1.toks) λb o e=>K8 _ e,vM a _,#[_,Ly _ rfl,rfl,rfl],λb hb=>?_,q]
 have e:b=s1.heap.objs.size:=by simpa using hb
 subst e
 exact I1.zd (La _) (I1.hok.fresh (La _))
def CQ{pins:List (Addr×Obj)}{σ:St}{H:Hp}{s:Shared}{R:It->Hp->Prop}{E:Value->Shared->Prop}{lo hi:Int}{t u v:Tok}{tk:Nat}(I:Inv X pins σ H s)(h1 : -(2 ^ 62)<=lo)(h2:lo<2 ^ 62)(h3 : -(2 ^ 62)<=hi)(h4:hi<2 ^ 62)
  (q:R (Ht lo (hi-lo).toNat) H):wpAny (model X.prog X.w) X.A (pyIter (.ref s.heap.objs.size)) (PIE X pins σ tg R) E { s with heap:=s.heap.push { cls:=.type "range",data:=.fields (List.toArray [.int lo t,.int hi u,.int 1 v]) },toks:=tk }:=by
 apply wpAny_pyIter_range (IsRange.new ..) (small_one h1 h2 h3 h4) ?_
 have I1:Inv X pins σ H { s with heap:=s.heap.push { cls:=.type "range",data:=.fields (List.toArray [.int lo t,.int hi u,.int 1 v]) },toks:=tk }:=I.kept λb o e=>K8 _ e
 apply#[(s.heap.push { cls:=.type "range",data:=.fields (List.toArray [.int lo t,.int hi u,.int 1 v]) }).objs.size,[(s.heap.push { cls:=.type "range",data:=.fields (List.toArray [.int lo t,.int hi u,.int 1 v]) }).objs.size],_,_,H,rfl,
  I1.kept (t':=tk) λb o e=>K8 _ e,vD _ lo (hi-lo).toNat,?_,λb hb=>?_,q]
 ·have e1:lo+((0:Nat):Int)*1=lo:=by simp
  have e2:(((hi-lo).toNat:Nat):Int)-((0:Nat):Int)=Builtin.Range.rangeSize lo hi 1:=by rw[rangeSize_one];split <;> lia
  show IsRangeIter _ _ (lo+((0:Nat):Int)*1) ((((hi-lo).toNat:Nat):Int)-((0:Nat):Int)) 1
  rw[e1,e2]
  exact Ly _ rfl
 ·have e:b=(s.heap.push { cls:=.type "range",data:=.fields (List.toArray [.int lo t,.int hi u,.int 1 v]) }).objs.size:=by simpa using hb
  subst e
  exact I1.zd (La _) (I1.hok.fresh (La _))
def Jd(ta:TA):TI:=λσ H R=>ta σ H λvs H1=>∃j:Int,vs=[.int j]/\-(2 ^ 62)<=j/\j<2 ^ 62/\R (Ht 0 j.toNat) H1
def fj{a:Expr}{ta:TA}{p pos:Pos}(hg:Gl X "range")(hm:X.mg "range"=none)(ha:PA X [a] ta)(hs:starEach [a] X.env=[(false,eval a X.env)]:=by rfl):PI X tg (.Call (.Name "range" p) [a] [] pos) (Jd ta):=by
 intro pins s σ H R I h
 apply Call_ (nM I hg hm boot_range (N4 (cD (ha pos pins s σ H _ I h) λus s1 #[vs,H1,I1,r1,q1]=>?_) hs rfl))
 obtain⟨j,e,q1,q2,q⟩:=q1
 subst e
 cases r1 with
 |cons r rr =>
  cases rr
  obtain⟨t,rfl⟩:=r
  exact call_range_1 (CQ I1 (by lia) (by lia) q1 q2 (by simpa using q))
def IE(wi:TI)(g:TG)(tb:TS):TS:=λD σ H=>wi σ H λJ H1=>∃W:Nat->Nat->St->Hp->Prop,(∃m,W 0 m σ H1)/\∀i m σ H,W i m σ H ->
 (J.stop i H/\D.nx σ H)\/(J.go i H/\∃N:St->Hp->Prop,(∀σ' H',N σ' H'->∃m',m'<m/\W (i+1) m' σ' H')/\∀x H',J.yld i H x H'->g x σ H' λσ2 H2=>tb { D with nx:=N,ct:=N,bk:=D.nx } σ2 H2)
def og(fp:List Addr)(h:Heap):List (Addr×Obj):=fp.filterMap λb=>(h.get? b).map λo=>(b,o)
def hX{fp:List Addr}{h:Heap}{b:Addr}{o:Obj}(hb:b∈fp)(e:h.get? b=some o):(b,o)∈og fp h:=Pb.mpr #[b,hb,by rw[e];rfl]
def zN{fp:List Addr}{h:Heap}{p:Addr×Obj}(hp:p∈og fp h):p.1∈fp/\h.get? p.1=some p.2:=by
 obtain⟨b,hb,e⟩:=Pb.mp hp
 cases q:h.get? b with
 |none=>rw[q]at e;cases e
 |some o =>
  rw[q]at e
  have e':(b,o)=p:=LS e
  subst e'
  exact#[hb,q]
def Inv.pinned{pins:List (Addr×Obj)}{σ:St}{H:Hp}{s:Shared}{fp:List Addr}(I:Inv X pins σ H s)(hf:∀b∈fp,iE X pins H b)(ho:∀b∈fp,∃o,s.heap.get? b=some o/\∀v,o.data≠.cell v):Inv X (pins++og fp s.heap) σ H s :=
 I.yG λp hp=>(K9.mp hp).elim (λz=>I.pin p (Lp _ z)) λz=>by
  obtain⟨hb,e⟩:=zN z
  obtain⟨f0,f1,f2,_⟩:=hf p.1 hb
  obtain⟨o,e',d⟩:=ho p.1 hb
  rw[e]at e';cases e'
  exact#[e,f0,f1,f2,d]
def Inv.kr{pins pl:List (Addr×Obj)}{σ:St}{H:Hp}{s:Shared}(I:Inv X (pins++pl) σ H s):Inv X pins σ H s:=I.yG λp hp=>I.pin p (Lp _ (Lj _ hp))
def bO{iter:Expr}{body:List Stmt}{wi:TI}{g:TG}{tb:TS}{pos:Pos}(hp:PassesOwn (model X.prog X.w) X.A X.env X.xe)(hc:X.calm=true)(hi:PI X tg iter wi)(hg:PG X tg g)(hb:uV X body tb)
  (hs:∀x,foldedSetIterable iter X.env x=pure x:=by intro _;rfl):PS X (.For tg iter body [] pos) (IE wi g tb):=by
 intro pins s σ H D I h
 apply wpAny_For (cD (hi pins s σ H _ I h) λv s1 h1=>cD h1 λitv s2 h2=>?_) hs
 obtain⟨it,fp,tn,J,H2,e,I2,T,st2,f2,W,⟨m0,w0⟩,turn⟩:=h2
 subst e
 have stat:∀{H':Hp},(∀b∈fp,H' b=none)->∀b∈fp,iE X pins H' b:=λhn b hb=>#[hn b hb,(f2 b hb).2]
 apply codeAny_forLoop_any (λn s'=>∃i σ' H',Inv X pins σ' H' s'/\tn i s'.heap/\(∀b∈fp,H' b=none)/\W i n σ' H') ?_ m0 #[0,σ,H2,I2,st2,λb hb=>(f2 b hb).1,w0]
 rintro n s3 ⟨i,σ3,H3,I3,st3,fr3,w3⟩
 rcases turn i n σ3 H3 w3 with⟨stop,qn⟩|⟨go,N,hN,step⟩
 ·apply Nn hp (cD (T.done X rfl rfl rfl hc i pins s3 σ3 H3 X.xe I3 (stat fr3) st3 stop) λr s4 hZ=>?_)
  obtain⟨hr,I4⟩:=hZ
  subst hr
  exact OR #[σ3,H3,I4,qn]
 ·apply Nn hp (cD (T.item X rfl rfl rfl hc i pins s3 σ3 H3 X.xe I3 (stat fr3) st3 go) λr s4 hZ=>?_)
  obtain⟨u,hr,h4⟩:=hZ
  subst hr
  apply Nn hp (cD h4 λ_ s5 hZ=>?_)
  obtain⟨x,H5,I5,r5,y5,st5,fr5⟩:=hZ
  have I5':=I5.pinned (stat fr5) (T.obj _ _ st5)
  apply Nn hp (cD (hg _ s5 σ3 H5 x u _ I5' r5 (step x H5 y5)) λ_ s6 hZ=>?_)
  obtain⟨σ6,H6,I6,q6⟩:=hZ
  apply Nn hp (cD (hb _ s6 σ6 H6 _ I6 q6) λf s7 q7=>?_)
  have again:∀{σ7:St} {H7:Hp},Inv X (pins++og fp s5.heap) σ7 H7 s7->N σ7 H7->∃m,m<n/\∃i σ' H',Inv X pins σ' H' s7/\tn i s7.heap/\(∀b∈fp,H' b=none)/\W i m σ' H':=λ{σ7 H7} I7 n7=>by
   obtain⟨m',hm,w7⟩:=hN σ7 H7 n7
   apply#[m',hm,i+1,σ7,H7,I7.kr,T.keep _ _ _ st5 λb hb o e=>(I7.pin (b,o) (Lp _ (Lp _ (hX hb e)))).1,λb hb=>?_,w7]
   obtain⟨o,e,d⟩:=T.obj _ _ st5 b hb
   exact(I7.pin (b,o) (Lp _ (Lp _ (hX hb e)))).2.1
  cases f with
  |next=>obtain⟨σ7,H7,I7,n7⟩:=q7;exact again I7 n7
  |cont=>obtain⟨σ7,H7,I7,n7⟩:=q7;exact again I7 n7
  |brk=>obtain⟨σ7,H7,I7,q7⟩:=q7;exact#[σ7,H7,I7.kr,q7]
  |ret v=>obtain⟨x7,σ7,H7,I7,r7,q7⟩:=q7;exact#[x7,σ7,H7,I7.kr,r7,q7]
end
def bJ{K:PySem.W.Frag}{a:Addr}{xs:List V}{g:TG}{tb:TS}{D:Ends}{σ:St}{H:Hp}(Pv:Nat->St->Hp->Prop)(h0:Pv 0 σ H)(hl:∀i σ H,i<=xs.length->Pv i σ H->aH K H a xs)
  (hs:∀i x σ H,xs[i]?=some x->Pv i σ H->g x σ H λσ2 H2=>tb { D with nx:=Pv (i+1),ct:=Pv (i+1),bk:=D.nx } σ2 H2) (hd:∀σ H,Pv xs.length σ H->D.nx σ H) :
  ∃W:Nat->Nat->St->Hp->Prop,(∃m,W 0 m σ H)/\∀i m σ H,W i m σ H ->
   ((Hy K a).stop i H/\D.nx σ H)\/((Hy K a).go i H/\∃N:St->Hp->Prop,(∀σ' H',N σ' H'->∃m',m'<m/\W (i+1) m' σ' H')/\∀x H',(Hy K a).yld i H x H'->g x σ H' λσ2 H2=>tb { D with nx:=N,ct:=N,bk:=D.nx } σ2 H2):=by
 apply#[λi m σ H=>m=xs.length-i/\i<=xs.length/\Pv i σ H,#[xs.length,by simp,LA _,h0],?_]
 rintro i m σ H ⟨rfl,hi,p⟩
 have q:=hl i σ H hi p
 by_cases hlt:i<xs.length
 ·apply .inr ⟨⟨xs,xs[i],q,by simp[hlt]⟩,Pv (i+1),λσ' H' p'=>⟨xs.length-(i+1),by lia,rfl,hlt,p'⟩,λx H' y=>?_⟩
  obtain⟨e,y⟩:=y
  subst e
  exact hs i x σ _ (y xs q) p
 ·have e:i=xs.length:=by lia
  subst e
  exact .inl #[#[xs,q,La _],hd σ H p]
def my{K:PySem.W.Frag}{a:Addr}{xs:List V}{g:TG}{tb:TS}{D:Ends}{σ:St}{H:Hp}(Pv:Nat->St->Hp->Prop)(h0:Pv 0 σ H)(hl:∀i σ H,i<=xs.length->Pv i σ H->cz K H a xs)
  (hs:∀i x σ H,xs[i]?=some x->Pv i σ H->g x σ H λσ2 H2=>tb { D with nx:=Pv (i+1),ct:=Pv (i+1),bk:=D.nx } σ2 H2) (hd:∀σ H,Pv xs.length σ H->D.nx σ H) :
  ∃W:Nat->Nat->St->Hp->Prop,(∃m,W 0 m σ H)/\∀i m σ H,W i m σ H ->
   ((Hx K a).stop i H/\D.nx σ H)\/((Hx K a).go i H/\∃N:St->Hp->Prop,(∀σ' H',N σ' H'->∃m',m'<m/\W (i+1) m' σ' H')/\∀x H',(Hx K a).yld i H x H'->g x σ H' λσ2 H2=>tb { D with nx:=N,ct:=N,bk:=D.nx } σ2 H2):=by
 apply#[λi m σ H=>m=xs.length-i/\i<=xs.length/\Pv i σ H,#[xs.length,by simp,LA _,h0],?_]
 rintro i m σ H ⟨rfl,hi,p⟩
 have q:=hl i σ H hi p
 by_cases hlt:i<xs.length
 ·apply .inr ⟨⟨xs,xs[i],q,by simp[hlt]⟩,Pv (i+1),λσ' H' p'=>⟨xs.length-(i+1),by lia,rfl,hlt,p'⟩,λx H' y=>?_⟩
  obtain⟨e,y⟩:=y
  subst e
  exact hs i x σ _ (y xs q) p
 ·have e:i=xs.length:=by lia
  subst e
  exact .inl #[#[xs,q,La _],hd σ H p]
def g0{lo:Int}{n:Nat}{g:TG}{tb:TS}{D:Ends}{σ:St}{H:Hp}(Pv:Nat->St->Hp->Prop)(h0:Pv 0 σ H)
  (hs:∀i σ H,i<n->Pv i σ H->g (.int (lo+i)) σ H λσ2 H2=>tb { D with nx:=Pv (i+1),ct:=Pv (i+1),bk:=D.nx } σ2 H2) (hd:∀σ H,Pv n σ H->D.nx σ H) :
  ∃W:Nat->Nat->St->Hp->Prop,(∃m,W 0 m σ H)/\∀i m σ H,W i m σ H ->
   ((Ht lo n).stop i H/\D.nx σ H)\/((Ht lo n).go i H/\∃N:St->Hp->Prop,(∀σ' H',N σ' H'->∃m',m'<m/\W (i+1) m' σ' H')/\∀x H',(Ht lo n).yld i H x H'->g x σ H' λσ2 H2=>tb { D with nx:=N,ct:=N,bk:=D.nx } σ2 H2):=by
 apply#[λi m σ H=>m=n-i/\i<=n/\Pv i σ H,#[n,by simp,LA _,h0],?_]
 rintro i m σ H ⟨rfl,hi,p⟩
 by_cases hlt:i<n
 ·apply .inr ⟨hlt,Pv (i+1),λσ' H' p'=>⟨n-(i+1),by lia,rfl,hlt,p'⟩,λx H' y=>?_⟩
  obtain⟨e,y⟩:=y
  subst e y
  exact hs i σ _ hlt p
 ·have e:i=n:=by lia
  subst e
  exact .inl #[La _,hd σ H p]
abbrev R2:=V->V->Hp->VK->Prop
def gW(X:Cx)(f:Value->Value->Sem Value)(r:R2):Prop :=
 ∀(pins:List (Addr×Obj)) (s:Shared) (σ:St) (H:Hp) (x y:V) (v u:Value) (Q:VK),Inv X pins σ H s->RelV x v->RelV y u->r x y H Q ->
  wpAny (model X.prog X.w) X.A (f v u) (EP X pins σ Q) X.xe s
def JD(X:Cx)(f:Value->Sem Value)(r:V->Hp->VK->Prop):Prop :=
 ∀(pins:List (Addr×Obj)) (s:Shared) (σ:St) (H:Hp) (x:V) (v:Value) (Q:VK),Inv X pins σ H s->RelV x v->r x H Q ->
  wpAny (model X.prog X.w) X.A (f v) (EP X pins σ Q) X.xe s
def fR(X:Cx)(f:Value)(r:List V->Hp->VK->Prop):Prop :=
 ∀(pins:List (Addr×Obj)) (s:Shared) (σ:St) (H:Hp) (xs:List V) (us:List Value) (Q:VK),Inv X pins σ H s->Vals xs us->r xs H Q ->
  wpAny (model X.prog X.w) X.A (call f us) (EP X pins σ Q) X.xe s
def JN(X:Cx)(r:V->Hp->(Bool->Hp->Prop)->Prop):Prop :=
 ∀(pins:List (Addr×Obj)) (s:Shared) (σ:St) (H:Hp) (x:V) (v:Value) (Q:Bool->Hp->Prop),Inv X pins σ H s->RelV x v->r x H Q ->
  wpAny (model X.prog X.w) X.A (truthy v) (TP X pins σ Q) X.xe s
def HS(r:R2)(ta tb:TE):TE:=λσ H Q=>ta σ H λx H1=>tb σ H1 λy H2=>r x y H2 Q
def tUn(r:V->Hp->VK->Prop)(ta:TE):TE:=λσ H Q=>ta σ H λx H1=>r x H1 Q
inductive JI(C:Int->Int->Prop)(g:Int->Int->V)(x y:V)(H:Hp)(Q:VK):Prop
 |mk (i j:Int) (e1:x=.int i) (e2:y=.int j) (c:C i j) (k:Q (g i j) H)
inductive JI0(g:Int->Int->V)(x y:V)(H:Hp)(Q:VK):Prop
 |mk (i j:Int) (e1:x=.int i) (e2:y=.int j) (k:Q (g i j) H)
def rI(C:Int->Int->Prop)(g:Int->Int->V):R2:=JI C g
def C1(g:Int->Int->V):R2:=JI0 g
def rU(g:Int->V):V->Hp->VK->Prop:=λx H Q=>∃i,x=.int i/\Q (g i) H
section
variable {X:Cx}{a b c:Expr}{ta tb tc:TE}{pos:Pos}
def Gu(ha:PE X a ta)(hb:PE X b tb){pins:List (Addr×Obj)}{s:Shared}{σ:St}{H:Hp}{R:V->V->Hp->Prop}(I:Inv X pins σ H s)
  (h:ta σ H λx H1=>tb σ H1 λy H2=>R x y H2) {Q:Value->Shared->Prop} {f:Value->Value->Sem Value}
  (hf:∀v u s2 x y H2,Inv X pins σ H2 s2->RelV x v->RelV y u->R x y H2->wpAny (model X.prog X.w) X.A (f v u) Q X.xe s2) :
  wpAny (model X.prog X.w) X.A (eval a X.env) (λv s₁=>wpAny (model X.prog X.w) X.A (eval b X.env) (λu s₂=>wpAny (model X.prog X.w) X.A (f v u) Q X.xe s₂) X.xe s₁) X.xe s:=by
 apply cD (ha pins s σ H _ I h) λv s1 hZ=>?_
 obtain⟨x,H1,I1,r1,q1⟩:=hZ
 apply cD (hb pins s1 σ H1 _ I1 q1) λu s2 hZ=>?_
 obtain⟨y,H2,I2,r2,q2⟩:=hZ
 exact hf v u s2 x y H2 I2 r1 r2 q2
def aw{op:Operator}{r:R2}(ho:gW X (binaryOp op) r)(ha:PE X a ta)(hb:PE X b tb):PE X (.BinOp a op b pos) (HS r ta tb):=by
 intro pins s σ H Q I h
 exact wpAny_BinOp (Gu ha hb I h λv u s2 x y H2 I2 rx ry q=>ho pins s2 σ H2 x y v u Q I2 rx ry q)
def IX{op:UnaryOp}{r:V->Hp->VK->Prop}(ho:JD X (unaryOp op) r)(ha:PE X a ta):PE X (.UnaryOp op a pos) (tUn r ta):=by
 intro pins s σ H Q I h
 exact UnaryOp_ (cD (ha pins s σ H _ I h) λv s1 #[x,H1,I1,r1,q1]=>ho pins s1 σ H1 x v Q I1 r1 q1)
def IZ{f:Value->Value->Sem Value}{C:Int->Int->Prop}{g:Int->Int->Int}
  (rule:∀(i j:Int) (t u:Tok) (s:Shared) (Q:Value->Shared->Prop) (E:Value->Shared->Prop),C i j->Q (.int (g i j) s.toks) { s with toks:=s.toks+1 }->wpAny (model X.prog X.w) X.A (f (.int i t) (.int j u)) Q E s) :
  gW X f (rI C λi j=>.int (g i j)):=by
 intro pins s σ H x y v u Q I rx ry h
 obtain⟨i,j,rfl,rfl,hc,q⟩:=h
 obtain⟨t,rfl⟩:=rx
 obtain⟨t',rfl⟩:=ry
 exact rule i j t t' s _ _ hc #[.int (g i j),H,I.tok _,#[_,rfl],q]
def CB{f:Value->Value->Sem Value}{g:Int->Int->Int}
  (rule:∀(i j:Int) (t u:Tok) (s:Shared) (Q:Value->Shared->Prop) (E:Value->Shared->Prop),Q (.int (g i j) s.toks) { s with toks:=s.toks+1 }->wpAny (model X.prog X.w) X.A (f (.int i t) (.int j u)) Q E s) :
  gW X f (C1 λi j=>.int (g i j)):=by
 intro pins s σ H x y v u Q I rx ry h
 obtain⟨i,j,rfl,rfl,q⟩:=h
 obtain⟨t,rfl⟩:=rx
 obtain⟨t',rfl⟩:=ry
 exact rule i j t t' s _ _ #[.int (g i j),H,I.tok _,#[_,rfl],q]
def Gy{f:Value->Value->Sem Value}{g:Int->Int->Bool}
  (rule:∀(i j:Int) (t u:Tok) (s:Shared) (Q:Value->Shared->Prop) (E:Value->Shared->Prop),Q (.bool (g i j)) s->wpAny (model X.prog X.w) X.A (f (.int i t) (.int j u)) Q E s) :
  gW X f (C1 λi j=>.bl (g i j)):=by
 intro pins s σ H x y v u Q I rx ry h
 obtain⟨i,j,rfl,rfl,q⟩:=h
 obtain⟨t,rfl⟩:=rx
 obtain⟨t',rfl⟩:=ry
 exact rule i j t t' s _ _ #[.bl (g i j),H,I,rfl,q]
def Cu(i j:Int):Prop:=0<j/\j<1073741824
def Kn(i j:Int):Prop:=0<=j/\j<=1000000/\i.natAbs<2 ^ 64
def GX(i j:Int):Prop:=(-(2 ^ 64)<i/\i<2 ^ 64)\/(-(2 ^ 64)<j/\j<2 ^ 64)
def GX.ok{i j:Int}(h:GX i j):IntMulOk i j:=by
 rcases h with⟨h1,h2⟩|⟨h1,h2⟩
 ·exact .of_left (intBits_le_64 h1 h2)
 ·exact .of_right (intBits_le_64 h1 h2)
def two_pow_nn(k:Nat):(0:Int)<=2 ^ k:=by
 rw[two_pow_cast]
 exact Oo _
def eE:gW X (binaryOp .Add) (C1 λi j=>.int (i+j)):=CB λ_ _ _ _ _ _ _ q=>add_int q
def iN:gW X (binaryOp .Sub) (C1 λi j=>.int (i-j)):=CB λ_ _ _ _ _ _ _ q=>sub_int q
def oI:gW X (binaryOp .Mult) (rI GX λi j=>.int (i*j)):=IZ λ_ _ _ _ _ _ _ hc q=>mul_int q hc.ok
def bU:gW X (binaryOp .FloorDiv) (rI Cu λi j=>.int (i / j)):=IZ λi j _ _ _ _ _ hc q=>by
 have h1:(0:Int)<j:=hc.1
 have h2:j<1073741824:=hc.2
 exact floordiv_int (by lia) (by rw[Pl i (by lia)];exact q) (.inl (PyProof.noPylong_small (by lia)))
def bH:gW X (binaryOp .Mod) (rI (λ_ j=>0<j) λi j=>.int (i % j)):=IZ λi j _ _ _ _ _ hc q=>by
 have h1:(0:Int)<j:=hc
 exact mod_int' (by lia) (by rw[Int.fmod_eq_emod_of_nonneg i (by lia)];exact q)
def kK:gW X (binaryOp .LShift) (rI Kn λi j=>.int (i*2 ^ j.toNat)):=IZ λ_ _ _ _ _ _ _ hc q=>lshift_int_small hc.1 hc.2.1 hc.2.2 q
def rJ:gW X (binaryOp .RShift) (rI (λ_ j=>0<=j) λi j=>.int (i / 2 ^ j.toNat)):=IZ λi j _ _ _ _ _ hc q =>
 rshift_int hc (by rw[Pl i (two_pow_nn _)];exact q)
def gr:gW X (binaryOp .BitAnd) (C1 λi j=>.int (Builtin.bitAnd i j)):=CB λ_ _ _ _ _ _ _ q=>and_int q
def iU:gW X (binaryOp .BitOr) (C1 λi j=>.int (Builtin.bitOr i j)):=CB λ_ _ _ _ _ _ _ q=>or_int q
def Hr:gW X (binaryOp .BitXor) (C1 λi j=>.int (Builtin.bitXor i j)):=CB λ_ _ _ _ _ _ _ q=>xor_int q
def unI{f:Value->Sem Value}{g:Int->Int}
  (rule:∀(i:Int) (t:Tok) (s:Shared) (Q:Value->Shared->Prop) (E:Value->Shared->Prop),Q (.int (g i) s.toks) { s with toks:=s.toks+1 }->wpAny (model X.prog X.w) X.A (f (.int i t)) Q E s) :
  JD X f (rU λi=>.int (g i)):=by
 intro pins s σ H x v Q I rx h
 obtain⟨i,rfl,q⟩:=h
 obtain⟨t,rfl⟩:=rx
 exact rule i t s _ _ #[.int (g i),H,I.tok _,#[_,rfl],q]
def GC:JD X (unaryOp .USub) (rU λi=>.int (-i)):=unI λ_ _ _ _ _ q=>neg_int q
end
def IV:V->V->Bool
 |.non,.non=>true|.non,.int _=>true|.int _,.non=>true|.non,.bl _=>true|.bl _,.non=>true|.non,.str _=>true|.str _,.non=>true
 |.int _,.int _=>true|.bl _,.bl _=>true|.str _,.str _=>true|.byt _,.byt _=>true
 |.int _,.str _=>true|.str _,.int _=>true|.bl _,.str _=>true|.str _,.bl _=>true
 |_,_=>false
def rEq:R2:=λx y H Q=>IV x y=true/\Q (.bl (decide (x=y))) H
def rNe:R2:=λx y H Q=>IV x y=true/\Q (.bl (!decide (x=y))) H
def xI{i j:Int}:decide (V.int i=V.int j)=(i==j):=by
 rw[LV]
 simp
def Ag{i j:Bool}:decide (V.bl i=V.bl j)=(i==j):=by
 rw[LV]
 simp
def xx{i j:Str}:decide (V.str i=V.str j)=(i==j):=by
 rw[LV]
 simp
def wZ{i j:Array UInt8}:decide (V.byt i=V.byt j)=(i.toList==j.toList):=by
 rw[LV]
 cases i
 cases j
 simp
section
variable {X:Cx}{a b c:Expr}{ta tb tc:TE}{pos:Pos}
def cb{pins:List (Addr×Obj)}{σ:St}{H:Hp}{s:Shared}{Q:VK}{k k':Bool}(I:Inv X pins σ H s)(q:Q (.bl k) H)(e:k=k'):EP X pins σ Q (.bool k') s:=by
 subst e
 exact#[.bl k,H,I,rfl,q]
def fJ:gW X (compareOp .Eq) rEq:=by
 intro pins s σ H x y v u Q I rx ry h
 obtain⟨hs,q⟩:=h
 cases x with
 |non =>
  cases rx
  cases y with
  |non=>cases ry;exact PySem.EqNone.eq_none_none (cb I q (by simp))
  |bl j=>cases ry;exact PySem.EqNone.eq_none_bool (cb I q (by simp))
  |int j=>obtain⟨t',rfl⟩:=ry;exact PySem.EqNone.eq_none_int (cb I q (by simp))
  |str j=>obtain⟨t',rfl⟩:=ry;exact PySem.EqNone.eq_none_str (cb I q (by simp))
  |_=>exact absurd (show false=true from hs) LI
 |bl i =>
  cases rx
  cases y with
  |non=>cases ry;exact PySem.EqNone.eq_bool_none (cb I q (by simp))
  |bl j=>cases ry;exact eq_bool (cb I q Ag)
  |str j=>obtain⟨t',rfl⟩:=ry;exact PySem.EqMixed.eq_bool_str (cb I q (by simp))
  |_=>exact absurd (show false=true from hs) LI
 |int i =>
  obtain⟨t,rfl⟩:=rx
  cases y with
  |non=>cases ry;exact PySem.EqNone.eq_int_none (cb I q (by simp))
  |int j=>obtain⟨t',rfl⟩:=ry;exact eq_int (cb I q xI)
  |str j=>obtain⟨t',rfl⟩:=ry;exact PySem.EqMixed.eq_int_str (cb I q (by simp))
  |_=>exact absurd (show false=true from hs) LI
 |str i =>
  obtain⟨t,rfl⟩:=rx
  cases y with
  |non=>cases ry;exact PySem.EqNone.eq_str_none (cb I q (by simp))
  |bl j=>cases ry;exact PySem.EqMixed.eq_str_bool (cb I q (by simp))
  |int j=>obtain⟨t',rfl⟩:=ry;exact PySem.EqMixed.eq_str_int (cb I q (by simp))
  |str j=>obtain⟨t',rfl⟩:=ry;exact eq_str (cb I q xx)
  |_=>exact absurd (show false=true from hs) LI
 |byt i =>
  obtain⟨t,rfl⟩:=rx
  cases y with
  |byt j=>obtain⟨t',rfl⟩:=ry;exact PySem.W.eq_bytes (cb I q wZ)
  |_=>exact absurd (show false=true from hs) LI
 |_=>cases y <;> exact absurd (show false=true from hs) LI
def ou:gW X (compareOp .NotEq) rNe:=by
 intro pins s σ H x y v u Q I rx ry h
 obtain⟨hs,q⟩:=h
 cases x with
 |non =>
  cases rx
  cases y with
  |non=>cases ry;exact PySem.EqNone.ne_none_none (cb I q (by simp))
  |bl j=>cases ry;exact PySem.EqNone.ne_none_bool (cb I q (by simp))
  |int j=>obtain⟨t',rfl⟩:=ry;exact PySem.EqNone.ne_none_int (cb I q (by simp))
  |str j=>obtain⟨t',rfl⟩:=ry;exact PySem.EqNone.ne_none_str (cb I q (by simp))
  |_=>exact absurd (show false=true from hs) LI
 |bl i =>
  cases rx
  cases y with
  |non=>cases ry;exact PySem.EqNone.ne_bool_none (cb I q (by simp))
  |bl j=>cases ry;exact ne_bool (cb I q (L6 not Ag))
  |str j=>obtain⟨t',rfl⟩:=ry;exact PySem.EqMixed.ne_bool_str (cb I q (by simp))
  |_=>exact absurd (show false=true from hs) LI
 |int i =>
  obtain⟨t,rfl⟩:=rx
  cases y with
  |non=>cases ry;exact PySem.EqNone.ne_int_none (cb I q (by simp))
  |int j=>obtain⟨t',rfl⟩:=ry;exact ne_int (cb I q (L6 not xI))
  |str j=>obtain⟨t',rfl⟩:=ry;exact PySem.EqMixed.ne_int_str (cb I q (by simp))
  |_=>exact absurd (show false=true from hs) LI
 |str i =>
  obtain⟨t,rfl⟩:=rx
  cases y with
  |non=>cases ry;exact PySem.EqNone.ne_str_none (cb I q (by simp))
  |bl j=>cases ry;exact PySem.EqMixed.ne_str_bool (cb I q (by simp))
  |int j=>obtain⟨t',rfl⟩:=ry;exact PySem.EqMixed.ne_str_int (cb I q (by simp))
  |str j=>obtain⟨t',rfl⟩:=ry;exact ne_str (cb I q (L6 not xx))
  |_=>exact absurd (show false=true from hs) LI
 |byt i =>
  obtain⟨t,rfl⟩:=rx
  cases y with
  |byt j=>obtain⟨t',rfl⟩:=ry;exact PySem.W.ne_bytes (cb I q (L6 not wZ))
  |_=>exact absurd (show false=true from hs) LI
 |_=>cases y <;> exact absurd (show false=true from hs) LI
def uk:gW X (compareOp .Lt) (C1 λi j=>.bl (decide (i<j))):=Gy λ_ _ _ _ _ _ _ q=>lt_int q
def m8:gW X (compareOp .LtE) (C1 λi j=>.bl (decide (i<=j))):=Gy λ_ _ _ _ _ _ _ q=>le_int q
def HJ:gW X (compareOp .Gt) (C1 λi j=>.bl (decide (j<i))):=Gy λ_ _ _ _ _ _ _ q=>gt_int q
def zK:gW X (compareOp .In) (λx y H Q=>∃i j,x=.str i/\y=.str j/\Q (.bl (!(Builtin.Str.occurrences j i 0 j.length 1).isEmpty)) H):=by
 intro pins s σ H x y v u Q I rx ry h
 obtain⟨i,j,rfl,rfl,q⟩:=h
 obtain⟨t,rfl⟩:=rx
 obtain⟨t',rfl⟩:=ry
 exact in_str (cb I q rfl)
def F1:gW X (compareOp .Is) (λx y H Q=>y=.non/\Q (.bl (decide (x=.non))) H):=by
 intro pins s σ H x y v u Q I rx ry h
 obtain⟨rfl,q⟩:=h
 cases ry
 apply is_none_gen (cb I q ?_)
 cases x <;> first
  |(cases rx;rfl)
  |(obtain⟨t,rfl⟩:=rx;rfl)
def Dl:gW X (compareOp .IsNot) (λx y H Q=>y=.non/\Q (.bl (!decide (x=.non))) H):=by
 intro pins s σ H x y v u Q I rx ry h
 obtain⟨rfl,q⟩:=h
 cases ry
 apply isnot_none_gen (cb I q ?_)
 cases x <;> first
  |(cases rx;rfl)
  |(obtain⟨t,rfl⟩:=rx;rfl)
def bp(b:Expr){op:CmpOp}(h:op≠.In:=by decide)(h2:op≠.NotIn:=by decide):behindInMarks op b=false:=by
 have e1:(op==CmpOp.In)=false:=by cases op <;> first|rfl|exact absurd rfl h
 have e2:(op==CmpOp.NotIn)=false:=by cases op <;> first|rfl|exact absurd rfl h2
 cases b <;> simp[behindInMarks,e1,e2]
def dP{op:CmpOp}{r:R2}(ho:gW X (compareOp op) r)(ha:PE X a ta)(hb:PE X b tb)(hm:behindInMarks op b=false):PE X (.Compare a [op] [b] pos) (HS r ta tb):=by
 intro pins s σ H Q I h
 exact wpAny_Compare1 (Gu ha hb I h λv u s2 x y H2 I2 rx ry q=>ho pins s2 σ H2 x y v u Q I2 rx ry q) hm
def Fu(t:TE):TT:=λσ H Q=>t σ H (JB Q)
def aY{op:CmpOp}{r:R2}(ho:gW X (compareOp op) r)(ha:PE X a ta)(hb:PE X b tb)(hm:behindInMarks op b=false):PT X (.Compare a [op] [b] pos) (Fu (HS r ta tb)):=by
 intro pins s σ H Q I h
 apply wpAny_isTrue_Compare1 (cD (ha pins s σ H _ I h) λv s1 #[x,H1,I1,r1,q1]=>cD (hb pins s1 σ H1 _ I1 q1) λu s2 #[y,H2,I2,r2,q2] =>
  cD (ho pins s2 σ H2 x y v u _ I2 r1 r2 q2) λc s3 #[z,H3,I3,r3,k,e,q3]=>?_) hm
 subst e
 cases r3
 exact Mf #[H3,I3,q3]
def BH(r r':R2)(ta tb tc:TE):TE:=λσ H Q=>ta σ H λx H1=>tb σ H1 λy H2=>r x y H2 λz H3=>∃k,z=.bl k /\
 (if k=true then tc σ H3 λw' H4=>r' y w' H4 Q else Q (.bl false) H3)
def AA{op op':CmpOp}{r r':R2}(ho:gW X (compareOp op) r)(ho':gW X (compareOp op') r')(ha:PE X a ta)(hb:PE X b tb)(hc:PE X c tc)
  (hm:lastMarks [op,op'] [b,c]=false:=by with_unfolding_all rfl):PE X (.Compare a [op,op'] [b,c] pos) (BH r r' ta tb tc):=by
 intro pins s σ H Q I h
 apply Compare_chain (cD (ha pins s σ H _ I h) λv s1 #[x,H1,I1,r1,q1]=>chain_link (cD (hb pins s1 σ H1 _ I1 q1) λu s2 #[y,H2,I2,r2,q2] =>
  cD (ho pins s2 σ H2 x y v u _ I2 r1 r2 q2) λd s3 #[z,H3,I3,r3,k,e,q3]=>?_)) hm
 subst e
 cases r3
 apply Mf ?_
 cases k with
 |false=>exact ite_ff #[.bl false,H3,I3,rfl,q3]
 |true=>exact ite_tt (chain_last (cD (hc pins s3 σ H3 _ I3 q3) λw' s4 #[z',H4,I4,r4,q4]=>ho' pins s4 σ H4 y z' u w' Q I4 r2 r4 q4))
def sR{op op':CmpOp}{r r':R2}(ho:gW X (compareOp op) r)(ho':gW X (compareOp op') r')(ha:PE X a ta)(hb:PE X b tb)(hc:PE X c tc)
  (hm:lastMarks [op,op'] [b,c]=false:=by with_unfolding_all rfl):PT X (.Compare a [op,op'] [b,c] pos) (Fu (BH r r' ta tb tc)):=by
 intro pins s σ H Q I h
 apply isTrue_chain (cD (ha pins s σ H _ I h) λv s1 #[x,H1,I1,r1,q1]=>test_link (cD (hb pins s1 σ H1 _ I1 q1) λu s2 #[y,H2,I2,r2,q2] =>
  cD (ho pins s2 σ H2 x y v u _ I2 r1 r2 q2) λd s3 #[z,H3,I3,r3,k,e,q3]=>?_)) hm
 subst e
 cases r3
 apply Mf ?_
 cases k with
 |false =>
  obtain⟨k',e',q'⟩:=q3
  cases e'
  exact ite_ff #[H3,I3,q']
 |true =>
  apply ite_tt (test_last (cD (hc pins s3 σ H3 _ I3 q3) λw' s4 #[z',H4,I4,r4,q4]=>cD (ho' pins s4 σ H4 y z' u w' _ I4 r2 r4 q4) λd' s5 hZ=>?_))
  obtain⟨z2,H5,I5,r5,k2,e2,q5⟩:=hZ
  subst e2
  cases r5
  exact Mf #[H5,I5,q5]
def HM(K:PySem.W.Frag)(x:V)(H:Hp)(k:Bool):Prop :=
 match x with
 |.non=>k=false
 |.bl b=>k=b
 |.int i=>k=(i != 0)
 |.str y=>y.length<=sizeLine/\k=((y.length:Int) != 0)
 |.byt y=>y.size<=sizeLine/\k=((y.size:Int) != 0)
 |.ref p=>(∃xs,aH K H p xs/\k = !xs.isEmpty)\/(∃xs,cz K H p xs/\k = !xs.isEmpty)\/∃kvs,H p=some (.dK kvs)/\k = !kvs.isEmpty
 |_=>False
def vS{κ:Type}{kvs:List (κ×V)}{vs:List (κ×Value)}(r:KV kvs vs):(!vs.isEmpty) = !kvs.isEmpty:=by
 cases r <;> rfl
def o4{xs:List V}{its:List Value}(r:Vals xs its):(!its.toArray.isEmpty) = !xs.isEmpty:=by
 cases r <;> simp
def kW:(sizeLine:Nat)<2 ^ 63:=by rw[L7];decide
def Gf:JN X (λx H Q=>∃k,HM X.K x H k/\Q k H):=by
 intro pins s σ H x v Q I rx h
 obtain⟨k,e,q⟩:=h
 have hl:=kW
 have hs:sizeLine=16777216:=L7
 cases x with
 |non =>
  cases rx
  have e':k=false:=e
  subst e'
  exact truthy_none #[H,I,q]
 |bl b =>
  cases rx
  have e':k=b:=e
  subst e'
  exact Mf #[H,I,q]
 |int i =>
  obtain⟨t,rfl⟩:=rx
  have e':k=(i != 0):=e
  subst e'
  exact PySem.P.truthy_int #[H,I,q]
 |str y =>
  obtain⟨t,rfl⟩:=rx
  obtain⟨hy,e'⟩:y.length<=sizeLine/\k=((y.length:Int) != 0):=e
  subst e'
  exact PySem.P.truthy_str (by lia) #[H,I.tok _,q]
 |byt y =>
  obtain⟨t,rfl⟩:=rx
  obtain⟨hy,e'⟩:y.size<=sizeLine/\k=((y.size:Int) != 0):=e
  subst e'
  exact PySem.W.truthy_bytes (by lia) #[H,I.tok _,q]
 |ref p =>
  cases rx
  have e':(∃xs,aH X.K H p xs/\k = !xs.isEmpty)\/(∃xs,cz X.K H p xs/\k = !xs.isEmpty)\/∃kvs,H p=some (.dK kvs)/\k = !kvs.isEmpty:=e
  rcases e' with⟨xs,hx,e'⟩|⟨xs,hx,e'⟩|⟨kvs,hx,e'⟩
  ·subst e'
   obtain⟨its,r,pl,hz⟩:=I.list hx
   have hlen:=r.length
   exact wpAny_truthy_list pl.isList (by simp only[Lu];lia) #[H,I.tok _,by rw[o4 r];exact q]
  ·subst e'
   obtain⟨its,r,pl,hz⟩:=I.tuple hx
   have hlen:=r.length
   exact truthy_tuple pl (by simp only[Lu];lia) #[H,I.tok _,by rw[o4 r];exact q]
  ·subst e'
   obtain⟨hz,hS,vs,r,m⟩:kvs.length<=sizeLine/\(p==sysModules)=false/\∃vs,KV kvs vs/\s.heap.DictOf (aV X.prog X.w) p vs:=I.hok p _ hx
   have hlen:kvs.length=vs.length:=Lz r
   exact wpAny_truthy_dict hS m (by lia) #[H,I.tok _,by rw[vS r];exact q]
 |_=>exact(show False from e).elim
def uH(ha:PE X a ta)(he:∀whole,isTrue a X.env whole=(do let v <-whole;standAt a.pos;holding [v] (truthy v))) :
  PT X a (λσ H Q=>ta σ H λx H'=>∃k,HM X.K x H' k/\Q k H'):=by
 intro pins s σ H Q I h
 exact isTrue_plain (cD (ha pins s σ H _ I h) λv s1 #[x,H1,I1,r1,q1]=>Gf pins s1 σ H1 x v Q I1 r1 q1) (he _)
def mX:gW X (binaryOp .Add) (λx y H Q=>∃i j,x=.str i/\y=.str j/\i.length+j.length<=sizeLine/\Q (.str (i++j)) H):=by
 intro pins s σ H x y v u Q I rx ry h
 obtain⟨i,j,rfl,rfl,hz,q⟩:=h
 obtain⟨t,rfl⟩:=rx
 obtain⟨t',rfl⟩:=ry
 exact add_str (λt' tk=>#[.str (i++j),H,I.tok _,#[_,rfl],q]) hz
def vals1{x:V}{us:List Value}(r:Vals [x] us):∃u,us=[u]/\RelV x u:=by
 cases r with
 |cons r1 r2=>cases r2;exact#[Z,r1]
def vals2{x y:V}{us:List Value}(r:Vals [x,y] us):∃u w',us=[u,w']/\RelV x u/\RelV y w':=by
 cases r with
 |cons r1 r2 =>
  cases r2 with
  |cons r3 r4=>cases r4;exact#[_,Z,r1,r3]
def Je(K:PySem.W.Frag)(x:V)(H:Hp)(n:Nat):Prop :=
 match x with
 |.str y=>y.length<=sizeLine/\n=y.length
 |.byt y=>y.size<=sizeLine/\n=y.size
 |.ref p=>(∃xs,aH K H p xs/\n=xs.length)\/∃xs,cz K H p xs/\n=xs.length
 |_=>False
def bB:fR X (.builtin "len") (λxs H Q=>∃x n,xs=[x]/\Je X.K x H n/\Q (.int n) H):=by
 intro pins s σ H xs us Q I r h
 obtain⟨x,n,rfl,e,q⟩:=h
 obtain⟨u,rfl,rx⟩:=vals1 r
 have hl:=kW
 have hs:sizeLine=16777216:=L7
 cases x with
 |str y =>
  obtain⟨t,rfl⟩:=rx
  obtain⟨hy,e'⟩:y.length<=sizeLine/\n=y.length:=e
  subst e'
  exact len_str (by lia) #[.int _,H,I.tok _,#[_,rfl],q]
 |byt y =>
  obtain⟨t,rfl⟩:=rx
  obtain⟨hy,e'⟩:y.size<=sizeLine/\n=y.size:=e
  subst e'
  exact PySem.W.len_bytes (by lia) #[.int _,H,I.tok _,#[_,rfl],q]
 |ref p =>
  cases rx
  have e':(∃xs,aH X.K H p xs/\n=xs.length)\/∃xs,cz X.K H p xs/\n=xs.length:=e
  rcases e' with⟨xs,hx,e'⟩|⟨xs,hx,e'⟩
  ·subst e'
   obtain⟨its,r',pl,hz⟩:=I.list hx
   have hlen:=r'.length
   exact Calls.call_len_list pl.isList (by simp only[Lu];lia) #[.int xs.length,H,I.tok _,#[_,by simp only[Lu];rw[hlen]],q]
  ·subst e'
   obtain⟨its,r',pl,hz⟩:=I.tuple hx
   have hlen:=r'.length
   exact len_tuple pl (by simp only[Lu];lia) #[.int xs.length,H,I.tok _,#[_,by simp only[Lu];rw[hlen]],q]
 |_=>exact(show False from e).elim
end
structure wd(h:Heap)(x dx C:Addr)(mA:Str->Option Value):Prop where
 obj:h.get? x=some (PySem.W.instObj C dx)
 ns:h.Ns1 dx mA
 ne:dx≠x
def zV{h:Heap}{dx:Addr}{mA:Str->Option Value}(n:h.Ns1 dx mA):∃od,h.get? dx=some od/\∀name,PySem.W.lookIn name od=some (mA name):=by
 obtain⟨o,es,ep,ho,hd,hk,_,hm⟩:=n
 apply#[o,ho,λname=>?_]
 have e:=hm name
 unfold nsFind findBy at e
 rw[<-Array.find?_toList]at e
 unfold PySem.W.lookIn
 rw[hd]
 dsimp only
 split
 ·rename_i y q
  rw[q]at e
  exact L6 some e
 ·rename_i q
  rw[q]at e
  have a:es.toList.any (·.refKey)=false:=by
   rw[List.any_eq_false]
   intro y hy
   obtain⟨z,t,hkey⟩:=hk y (Array.mem_toList_iff.mp hy)
   simp[DictEntry.refKey,hkey]
  have a':¬es.toList.any (·.refKey)=true:=by rw[a];exact LI
  rw[Le a']
  exact L6 some e
def wd.look{h:Heap}{x dx C:Addr}{mA:Str->Option Value}(I:wd h x dx C mA):∃od,PySem.W.InstAt h x (PySem.W.instObj C dx) C (some od)/\∀name,PySem.W.lookIn name od=some (mA name) :=
 let #[od,ho,hl]:=zV I.ns
 #[od,#[I.obj,rfl,rfl,ho],hl]
section
variable {prog:Program}{w:World}{A:Around}{E:Value->Shared->Prop}{s:Shared}{K:PySem.W.Frag}{x dx C f:Addr}{mA:Str->Option Value}{name:Str}{v:Value}
def get_map{expr:Bool}{Q:Value->Shared->Prop}(X:K.In s.heap)(I:wd s.heap x dx C mA)(hg:PySem.W.plainGet K C name=true)(hh:PySem.W.hasDictIn K C=true)
  (ha:PySem.W.findIn K (.ref C) name=some none) (hv:mA name=some v) (hv':PySem.W.handedIn v=true) (h:Q v { s with toks:=s.toks+1 }) :
  wpAny (model prog w) A (getAttr (.ref x) name expr) Q E s:=by
 obtain⟨od,J,hl⟩:=I.look
 exact PySem.W.get_value X J (OY hg).1 (PySem.W.findObj_own hh ha rfl (by rw[hl,hv])) hv' h
def AE{pl:Sem Bool}{Q:Value×List Value->Shared->Prop}(X:K.In s.heap)(I:wd s.heap x dx C mA)(hg:PySem.W.plainGet K C name=true)
  (hf:PySem.W.findIn K (.ref C) name=some (some (.ref f))) (ht:PySem.W.isFn K (.ref f)=true) (hv:mA name=none) (h:Q (.ref f,[.ref x]) s) :
  wpAny (model prog w) A (getMethod (.ref x) name pl) Q E s:=by
 obtain⟨od,J,hl⟩:=I.look
 exact PySem.W.method_fn X J (OY hg).1 (OY hg).2 hf (Nx.mp ht) (by show(PySem.W.lookIn name od).map (·.isSome)=some false;rw[hl,hv];rfl) h
def DE{ns:List Str}{Q:Unit->Shared->Prop}(X:K.In s.heap)(I:wd s.heap x dx C mA)
  (hs:PySem.W.findIn K (.ref C) "__setattr__"=some (some (.builtin "object.__setattr__"))) (hp:PySem.W.plainOver K C=true) (ht:PySem.W.takerIn K C name=some none) (hh:PySem.W.hasDictIn K C=true)
  (hw:PySem.Within mA ns) (hsz:ns.length<=sizeLine)
  (h:∀h',wd h' x dx C (λy=>if y=name then some v else mA y)->Heap.SameBut dx s.heap h'->Q () { s with heap:=h',toks:=s.toks+2 }) :
  wpAny (model prog w) A (setAttr (.ref x) name v) Q E s:=by
 obtain⟨od,J,hl⟩:=I.look
 apply PySem.W.set_plain X J hs (PySem.W.osa_open (s:={ s with toks:=s.toks+1 }) (r:=none) X J hp ht λb=>?_)
 obtain⟨cd,hc,hd'⟩:=PySem.W.any_some hh
 have hx:s.heap.get? x=some #[.ref C,some dx,.plain,#[]]:=I.obj
 apply K3 (K6 (K3 (K3 (wpAny_loadPart hx (K3 (PySem.W.Looks.here (s:={ s with toks:=s.toks+1 }) (PySem.W.looks_clsIn X hc) ?_))))))
 rw[hd']
 apply K6 (a:=some dx) (K3 (K6 (K3 ?_)))
 apply wpAny_nsSet1 (s:={ s with toks:=s.toks+1 }) I.ns λh' hn2 hs2=>?_
 obtain⟨oD,esD,epD,hoD,hdD,hcD⟩:=hn2.count (PySem.Within.cons name v hw)
 apply K3 (wpAny_lookBehind hoD (by rw[hdD];exact pastItsLine_dict (LM hcD (by rw[LN];lia))) ?_)
 exact K6 (h _ #[(hs2.2 _ (LO I.ne)).trans I.obj,hn2,I.ne] hs2)
def Bf{R:Result->Shared->Prop}{vs:List Value}{kw:List (Str×Value)}(X:K.In s.heap)(hm:PySem.W.makesIn K C=true)
  (hi:PySem.W.findIn K (.ref C) "__init__"=some (some (.ref f))) (hf:PySem.W.typeIn K (.ref f)=some (.type "function"))
  (h:codeAny (model prog w) (A.under (.builtin "type.__call__" #[.ref C :: vs,kw])) (.call (.ref f) #[.ref (s.heap.objs.size + 1) :: vs,kw]) (PySem.W.InitBack (s.heap.objs.size + 1) R)
   { s with heap:=(s.heap.push PySem.W.emptyDict).push (PySem.W.instObj C s.heap.objs.size) }) :
  codeAny (model prog w) A (.call (.ref C) #[vs,kw]) R s:=by
 obtain⟨hh,g,d,t,os⟩:=s
 exact PySem.W.make_core (PySem.W.makes_of X hm) (PySem.W.looks_findIn X hi) (λself=>PySem.W.bind_fn X self hf) (.inl rfl) h
end
def bE(f:Str)(v:V):List (Str×V)->List (Str×V)
 |[]=>[(f,v)]
 |(g,x)::r=>if g=f then(g,v)::r else(g,x)::bE f v r
theorem az(f g:Str)(v:V):∀fs:List (Str×V),(bE f v fs).lookup g=if g=f then some v else fs.lookup g
 |[]=>by
  show List.lookup g [(f,v)]=_
  by_cases h:g=f
  ·have hb:(g==f)=true:=Nx.mpr h
   simp only[List.lookup,hb,Ls h]
  ·have hb:(g==f)=false:=MA.mpr h
   simp only[List.lookup,hb,Le h]
 |(k,x)::r=>by
  have ih:=az f g v r
  rw[show bE f v ((k,x)::r)=(if k=f then(k,v)::r else(k,x)::bE f v r) from rfl]
  by_cases hk:k=f
  ·rw[Ls hk]
   by_cases h:g=k
   ·have hb:(g==k)=true:=Nx.mpr h
    simp only[List.lookup,hb,Ls (h.trans hk)]
   ·have hb:(g==k)=false:=MA.mpr h
    simp only[List.lookup,hb,Le (λe:g=f=>h (e.trans hk.symm))]
  ·rw[Le hk]
   by_cases h:g=k
   ·have hb:(g==k)=true:=Nx.mpr h
    simp only[List.lookup,hb,Le (λe:g=f=>hk (h.symm.trans e))]
   ·have hb:(g==k)=false:=MA.mpr h
    simp only[List.lookup,hb]
    exact ih
theorem lA(f:Str)(v:V):∀fs:List (Str×V),f∈(bE f v fs).map (·.1)/\∀g,g∈fs.map (·.1)->g∈(bE f v fs).map (·.1)
 |[]=>#[by simp[bE],λg h=>by simp at h]
 |(k,x)::r=>by
  obtain⟨i1,i2⟩:=lA f v r
  rw[show bE f v ((k,x)::r)=(if k=f then(k,v)::r else(k,x)::bE f v r) from rfl]
  by_cases hk:k=f
  ·rw[Ls hk]
   subst hk
   exact#[by simp,λg h=>by simpa using h]
  ·rw[Le hk]
   apply#[?_,λg h=>?_]
   ·rw[Mh]
    exact LJ _ i1
   ·rw[Mh]at h ⊢
    rcases Lc.mp h with e|e
    ·exact Lc.mpr (.inl e)
    ·exact LJ _ (i2 g e)
theorem lF(f:Str)(v:V):∀fs:List (Str×V),(bE f v fs).length<=fs.length+1
 |[]=>by simp[bE]
 |(k,x)::r=>by
  have ih:=lF f v r
  rw[show bE f v ((k,x)::r)=(if k=f then(k,v)::r else(k,x)::bE f v r) from rfl]
  by_cases hk:k=f
  ·rw[Ls hk,LN,LN];lia
  ·rw[Le hk,LN,LN];lia
def jn.some_of{v:V}{o:Option Value}(r:jn (some v) o):∃u,o=some u/\RelV v u:=by
 cases o with
 |none=>exact(show False from r).elim
 |some u=>exact#[u,rfl,r]
def jn.none_of{o:Option Value}(r:jn none o):o=none:=by
 cases o with
 |none=>rfl
 |some u=>exact(show False from r).elim
def zJ{v:V}{u:Value}(r:RelV v u):PySem.W.handedIn u=true:=by
 cases v with
 |non=>cases (show u=Value.none from r);rfl
 |bl b=>cases (show u=Value.bool b from r);rfl
 |int i=>obtain⟨t,e⟩:=(show ∃t,u=Value.int i t from r);cases e;rfl
 |str x=>obtain⟨t,e⟩:=(show ∃t,u=Value.str x t from r);cases e;rfl
 |byt b=>obtain⟨t,e⟩:=(show ∃t,u=Value.bytes b t from r);cases e;rfl
 |flt b=>obtain⟨t,e⟩:=(show ∃t,u=Value.float b t from r);cases e;rfl
 |ref a=>cases (show u=Value.ref a from r);rfl
 |ty n=>cases (show u=Value.type n from r);rfl
section
variable {P:Program}{w:World}{H H':Hp}{h h':Heap}{a C dx:Addr}{fs fs':List (Str×V)}
def mR(hok:jy P w H h)(e:H a=some (.ins C dx fs)):∃mA,wd h a dx C mA/\(∀f,jn (fs.lookup f) (mA f))/\PySem.Within mA (fs.map (·.1))/\fs.length<=1000/\H dx=some (.own a):=by
 obtain⟨d,z,ne,ob,mA,n,r,q⟩:=(show cw P w H h a (.ins C dx fs) from hok a _ e)
 exact#[mA,#[ob,n,ne],r,q,z,d]
end
structure zY(K:PySem.W.Frag)(C:Addr):Prop where
 pg:PySem.W.plainGet K C Str.empty=true
 hd:PySem.W.hasDictIn K C=true
 po:PySem.W.plainOver K C=true
 sa:PySem.W.findIn K (.ref C) "__setattr__"=some (some (.builtin "object.__setattr__"))
def zY.get{K:PySem.W.Frag}{C:Addr}(c:zY K C)(f:Str):PySem.W.plainGet K C f=true:=c.pg
def dt(K:PySem.W.Frag)(C:Addr)(f:Str):Prop:=PySem.W.findIn K (.ref C) f=some none
def dt.IL{K:PySem.W.Frag}{C:Addr}{f:Str}(n:dt K C f):PySem.W.takerIn K C f=some none:=by
 unfold PySem.W.takerIn
 rw[show PySem.W.findIn K (.ref C) f=some none from n]
 rfl
structure Con(K:PySem.W.Frag)(C:Addr)(f:Str)(v:V)(u:Value):Prop where
 at_:PySem.W.findIn K (.ref C) f=some (some u)
 rel:RelV v u
 get:PySem.W.specialIn K u "__get__"=some none
 cp:PySem.W.copiedNames.contains f=false
structure Meth(K:PySem.W.Frag)(C:Addr)(m:Str)(f:Addr):Prop where
 at_:PySem.W.findIn K (.ref C) m=some (some (.ref f))
 fn:PySem.W.isFn K (.ref f)=true
 kp:PySem.W.keepIn K (.ref f)=true
section
variable {X:Cx}{pins:List (Addr×Obj)}{σ:St}{H:Hp}{s:Shared}{a C dx:Addr}{fs:List (Str×V)}{f:Str}{v:V}{A:Around}{E:Value->Shared->Prop}
def wD{b:Bool}{Q:Value->Shared->Prop}(I:Inv X pins σ H s)(e:H a=some (.ins C dx fs))(c:zY X.K C)(n:dt X.K C f)(l:fs.lookup f=some v)
  (h:∀u s',Inv X pins σ H s'->RelV v u->Q u s'):wpAny (model X.prog X.w) A (getAttr (.ref a) f b) Q E s:=by
 obtain⟨mA,O,r,_,_,_⟩:=mR I.hok e
 obtain⟨u,hu,ru⟩:=jn.some_of (v:=v) (o:=mA f) (by rw[<-l];exact r f)
 exact get_map I.me O (c.get f) c.hd n hu (zJ ru) (h u _ (I.tok _) ru)
def oU{m:Str}{g:Addr}{pl:Sem Bool}{Q:Value×List Value->Shared->Prop}(I:Inv X pins σ H s)(e:H a=some (.ins C dx fs))(c:zY X.K C)(k:Meth X.K C m g)(l:fs.lookup m=none)
  (h:Q (.ref g,[.ref a]) s):wpAny (model X.prog X.w) A (getMethod (.ref a) m pl) Q E s:=by
 obtain⟨mA,O,r,_,_,_⟩:=mR I.hok e
 have hn:mA m=none:=jn.none_of (by rw[<-l];exact r m)
 exact AE I.me O (c.get m) k.at_ k.fn hn h
def wQ{y:V}{u:Value}{Q:Unit->Shared->Prop}(I:Inv X pins σ H s)(e:H a=some (.ins C dx fs))(c:zY X.K C)(n:dt X.K C f)(hl:fs.length<1000)(ry:RelV y u)
  (h:∀s',Inv X pins σ (upd H a (.ins C dx (bE f y fs))) s'->Q () s'):wpAny (model X.prog X.w) A (setAttr (.ref a) f u) Q E s:=by
 obtain⟨mA,O,r,wi,_,ho⟩:=mR I.hok e
 have hz:(fs.map (·.1)).length<=sizeLine:=by rw[K4,L7];lia
 apply DE I.me O c.sa c.po n.IL c.hd wi hz λh' O' sb=>h _ ?_
 have hd:∃o,h'.get? dx=some o:=let #[o,_,_,e',_]:=O'.ns;#[o,e']
 apply I.write (x:=a) (e:=dx) (by rw[e];exact True.intro) (.inr ho) (λb q hb z=>(sb.2 b hb).trans z) hd ?_
 apply#[by rw[ai O.ne];exact ho,?_,O.ne,O'.obj,_,O'.ns,λg=>?_,λg hg=>?_]
 ·have:=lF f y fs;lia
 ·show jn ((bE f y fs).lookup g) (if g=f then some u else mA g)
  rw[az]
  by_cases q:g=f
  ·rw[Ls q,Ls q];exact ry
  ·rw[Le q,Le q];exact r g
 ·by_cases q:g=f
  ·rw[q];exact(lA f y fs).1
  ·apply(lA f y fs).2 g (wi g λz=>hg ?_)
   show(if g=f then some u else mA g)=none
   rw[Le q];exact z
def Inv.made(I:Inv X pins σ H s):Inv X pins σ (upd (upd H s.heap.objs.size (.own (s.heap.objs.size+1))) (s.heap.objs.size+1) (.ins C s.heap.objs.size []))
  { s with heap:=(s.heap.push PySem.W.emptyDict).push (PySem.W.instObj C s.heap.objs.size) }:=by
 have e1:(s.heap.push PySem.W.emptyDict).get? s.heap.objs.size=some PySem.W.emptyDict:=Ly s.heap rfl
 have e2:((s.heap.push PySem.W.emptyDict).push (PySem.W.instObj C s.heap.objs.size)).get? (s.heap.objs.size+1)=some (PySem.W.instObj C s.heap.objs.size):=by
  have:=Ly (s.heap.push PySem.W.emptyDict) (o:=PySem.W.instObj C s.heap.objs.size) rfl
  rwa[MJ]at this
 have e3:(s.heap.push PySem.W.emptyDict).Ns s.heap.objs.size (λ_=>none):=#[PySem.W.emptyDict,#[],_,e1,rfl,(λe he=>absurd he (by simp)),λ_=>rfl]
 have I1:=I.laid (a:=s.heap.objs.size) (o:=.own (s.heap.objs.size+1)) (h':=s.heap.push PySem.W.emptyDict) (t':=s.toks) (λb u q=>K8 _ q) (La _) #[_,e1]
 apply I1.laid (a:=s.heap.objs.size+1) (o:=.ins C s.heap.objs.size []) (t':=s.toks) (λb u q=>K8 _ q) (Pw (MJ _ _)) ?_
 have ne:s.heap.objs.size≠s.heap.objs.size+1:=LB (MS _)
 apply#[by rw[ai ne,ae],LA _,ne,e2,λ_=>none,(Heap.Ns1.of_empty e3).at λo q=>K8 _ q,λ_=>True.intro,λy hy=>absurd rfl hy]
def Fh{prog:Program}{w:World}{env:Env}{e:Expr}{f:Str}{pos:Pos}{s:Shared}{Q:Value->Shared->Prop}(hb:attributeBase e f env (eval e env)=eval e env)
  (h:wpAny (model prog w) A (eval e env) (λo s₁=>wpAny (model prog w) A (getAttr o f true) Q E s₁) E s):wpAny (model prog w) A (eval (.Attribute e f pos) env) Q E s :=
 Attribute_any_ h (by rw[arm_eval_Attribute,hb])
end
inductive Ks(K:PySem.W.Frag)(f:Str)(Q:VK)(x:V)(H1:Hp):Prop
 |mk (a C dx:Addr) (fs:List (Str×V)) (v:V) (e:x=.ref a) (h:H1 a=some (.ins C dx fs)) (c:zY K C) (n:dt K C f) (l:fs.lookup f=some v) (k:Q v H1)
def JA(K:PySem.W.Frag)(ta:TE)(f:Str):TE:=λσ H Q=>ta σ H (Ks K f Q)
def Kq(K:PySem.W.Frag)(ta tv:TE)(f:Str):TS:=λD σ H=>tv σ H λy H1=>ta σ H1 λx H2=>∃a C dx fs,x=.ref a/\H2 a=some (.ins C dx fs)/\zY K C/\dt K C f/\fs.length<1000 /\
 D.nx σ (upd H2 a (.ins C dx (bE f y fs)))
section
variable {X:Cx}{o e value:Expr}{f:Str}{pos pos' tpos:Pos}{ta tv:TE}
def bM(he:PE X e ta)(hb:attributeBase e f X.env (eval e X.env)=eval e X.env):PE X (.Attribute e f pos) (JA X.K ta f):=by
 intro pins s σ H Q I h
 apply Fh hb (cD (he pins s σ H _ I h) λu s1 hZ=>?_)
 obtain⟨x,H1,I1,rx,a,C,dx,fs,v,ex,ea,c,n,l,q⟩:=hZ
 subst ex
 obtain rfl:u=Value.ref a:=rx
 exact wD I1 ea c n l λu' s2 I2 ru=>#[v,H1,I2,ru,q]
def fv(ha:PE X o ta)(hv:PE X value tv)(hs:swapsWith value (some (.Attribute o f pos')) pos.line X.env=pure false):PS X (.Assign [.Attribute o f pos'] value pos) (Kq X.K ta tv f):=by
 intro pins s σ H D I h
 apply plainObj_wpAny_Assign_Attribute (cD (hv pins s σ H _ I h) λu s1 #[y,H1,I1,ry,q]=>cD (ha pins s1 σ H1 _ I1 q) λov s2 #[x,H2,I2,rx,a,C,dx,fs,ex,ea,c,n,l,q2]=>?_) hs
 subst ex
 obtain rfl:ov=Value.ref a:=rx
 exact wQ I2 ea c n l ry λs3 I3=>#[σ,_,I3,q2]
end
section
variable {X:Cx}{pins:List (Addr×Obj)}{σ:St}{H:Hp}{s:Shared}{A:Around}{E:Value->Shared->Prop}{Q:Value->Shared->Prop}{c:Value}{b:Bool}
inductive iw(K:PySem.W.Frag)(H:Hp):V->Value->Prop where
 |non:iw K H .non (.type "NoneType")
 |bl (x:Bool):iw K H (.bl x) (.type "bool")
 |int (i:Int):iw K H (.int i) (.type "int")
 |str (x:Str):iw K H (.str x) (.type "str")
 |flt (x:UInt64):iw K H (.flt x) (.type "float")
 |lst {a:Addr} {xs:List V} (e:H a=some (.lst xs)):iw K H (.ref a) (.type "list")
 |frz {a:Addr} {o:Obj} {xs:List V} (e:H a=some (.frz o (.lst xs))):iw K H (.ref a) (.type "list")
 |tup {a:Addr} {xs:List V} (e:H a=some (.tup xs)):iw K H (.ref a) (.type "tuple")
 |dK {a:Addr} {kvs:List (Key×V)} (e:H a=some (.dK kvs)):iw K H (.ref a) (.type "dict")
 |dT {a:Addr} {kvs:List (List Key×V)} (e:H a=some (.dT kvs)):iw K H (.ref a) (.type "dict")
 |ins {a C dx:Addr} {fs:List (Str×V)} (e:H a=some (.ins C dx fs)) (cl:zY K C) (ha:PySem.W.findIn K (.ref C) "__class__"=some (some (.builtin "object.__class__")))
   (hn:PySem.W.specialIn K (.builtin "object.__class__") "__get__"=some (some (.builtin "getset_descriptor.__get__"))) (htk:PySem.W.takesIn K (.builtin "object.__class__")=some true)
   (hm:PySem.W.mroIn K C (.type "object")=some true):iw K H (.ref a) (.ref C)
def zF{x:V}{u t:Value}(I:Inv X pins σ H s)(rx:RelV x u)(ty:iw X.K H x t)(e:PySem.W.kitOne X.K t c=some b)(h:∀tk,Q (.bool b) { s with toks:=tk }) :
  wpAny (model X.prog X.w) A (call (.builtin "isinstance") [u,c]) Q E s:=by
 cases ty with
 |non=>cases (show u=Value.none from rx);exact MF PySem.W.kitx_none I.me True.intro e (λz=>nomatch z) h
 |bl y=>cases (show u=Value.bool y from rx);exact MF PySem.W.kitx_bool I.me True.intro e (λz=>nomatch z) h
 |int i=>obtain⟨t,q⟩:=(show ∃t,u=Value.int i t from rx);cases q;exact MF PySem.W.kitx_int I.me True.intro e (λz=>nomatch z) h
 |str y=>obtain⟨t,q⟩:=(show ∃t,u=Value.str y t from rx);cases q;exact MF PySem.W.kitx_str I.me True.intro e (λz=>nomatch z) h
 |flt y=>obtain⟨t,q⟩:=(show ∃t,u=Value.float y t from rx);cases q;exact MF PySem.W.kitx_float I.me True.intro e (λz=>nomatch z) h
 |@lst a xs ea =>
  cases (show u=Value.ref a from rx)
  obtain⟨_,_,n,_,h1⟩:=(show cw X.prog X.w H s.heap a (.lst xs) from I.hok a _ ea)
  exact MF PySem.W.kitx_list I.me #[_,h1,rfl] e (λz=>nomatch z) h
 |@frz a ob xs ea =>
  cases (show u=Value.ref a from rx)
  obtain⟨_,_,_,n,_,h1⟩:=(show cw X.prog X.w H s.heap a (.frz ob (.lst xs)) from I.hok a _ ea)
  exact MF PySem.W.kitx_list I.me #[_,h1,rfl] e (λz=>nomatch z) h
 |@tup a xs ea =>
  cases (show u=Value.ref a from rx)
  obtain⟨_,_,_,p⟩:=(show cw X.prog X.w H s.heap a (.tup xs) from I.hok a _ ea)
  obtain⟨o,h1,h2,_⟩:=p
  exact MF PySem.W.kitx_tuple I.me #[o,h1,h2] e (λz=>nomatch z) h
 |@dK a kvs ea =>
  cases (show u=Value.ref a from rx)
  obtain⟨_,_,vs,_,p⟩:=(show cw X.prog X.w H s.heap a (.dK kvs) from I.hok a _ ea)
  obtain⟨o,es,ep,h1,h2,_⟩:=p
  exact MF PySem.W.kitx_dict I.me #[o,h1,h2.1] e (λz=>nomatch z) h
 |@dT a kvs ea =>
  cases (show u=Value.ref a from rx)
  obtain⟨_,_,xs,_,o,es,ep,h1,h2,_⟩:=(show cw X.prog X.w H s.heap a (.dT kvs) from I.hok a _ ea)
  exact MF PySem.W.kitx_dict I.me #[o,h1,h2.1] e (λz=>nomatch z) h
 |@ins a C dx fs ea cl ha hn htk hm =>
  cases (show u=Value.ref a from rx)
  obtain⟨mA,O,_⟩:=mR I.hok ea
  obtain⟨od,J,_⟩:=O.look
  exact MF (PySem.W.kitx_own (cl.get _) cl.hd ha hn htk hm) I.me J e (λz=>nomatch z) h
end
structure cW(k:Nat)(A:Around):Prop where
 hd:A.handled=none
 dp:A.depth+3*k+5<recursionLimit
 un:A.units+16*k+200<cLine
 gd:A.guards=some []
def cW.mono{j k:Nat}{A:Around}(r:cW k A)(h:j<=k):cW j A:=#[r.hd,by have:=r.dp;lia,by have:=r.un;lia,r.gd]
theorem cW.deeper{k:Nat}{A:Around}(r:cW (k+1) A)(env:Env):cW k (A.deeper env) :=
 #[r.hd,by have:=r.dp;show A.depth+1+3*k+5<_;lia,by have:=r.un;show A.units+3+16*k+200<_;lia,r.gd]
def uY{A:Around}{C:Addr}{us:List Value}{kw:List (Str×Value)}:(A.under (.builtin "type.__call__" #[.ref C::us,kw])).depth=A.depth+1:=by
 first|rfl|simp[Around.under,Code.weight,Code.isCreation,Code.isGuard,Code.isCaller,Code.frames,Code.isFrame,guardIds]
def vo{A:Around}{C:Addr}{us:List Value}{kw:List (Str×Value)}:(A.under (.builtin "type.__call__" #[.ref C::us,kw])).units=A.units+1:=by
 first|rfl|simp[Around.under,Code.cUnits,Code.frames,Code.isFrame]
def cW.make{k:Nat}{A:Around}(r:cW (k+1) A)(C:Addr)(us:List Value)(kw:List (Str×Value)):cW k (A.under (.builtin "type.__call__" #[.ref C::us,kw])) :=
 #[r.hd,by have:=r.dp;rw[uY];lia,by have:=r.un;rw[vo];lia,by first|exact r.gd|(simp[Around.under,Code.isGuard,guardIds];exact r.gd)]
theorem cW.depth{k:Nat}{A:Around}(r:cW k A):A.depth<recursionLimit:=by have:=r.dp;lia
theorem cW.units{k:Nat}{A:Around}(r:cW k A):A.units+64<cLine:=by have:=r.un;lia
def cW.wJ{k:Nat}{A:Around}(r:cW k A):A.units<cLine:=by have:=r.un;lia
def tH:TA:=λ_ H Q=>Q [] H
def FF(ta:TE)(tr:TA):TA:=λσ H Q=>ta σ H λx H1=>tr σ H1 λxs H2=>Q (x::xs) H2
section
variable {X:Cx}{e:Expr}{es:List Expr}{te:TE}{t:TA}{pos:Pos}
def af:PA X [] tH:=λ_ _ _ _ H Q I h=>Calls.spliced_nil #[[],H,I,.nil,h]
def aa(ha:PE X e te)(hr:PA X es t)(hs:starEach (e::es) X.env=(false,eval e X.env)::starEach es X.env:=by rfl):PA X (e::es) (FF te t):=by
 intro pos pins s σ H Q I h
 rw[hs]
 show wpAny _ _ (spliced ((false,eval e X.env)::backTo pos (starEach es X.env))) _ _ s
 apply Calls.spliced_cons (cD (ha pins s σ H _ I h) λu s1 hZ=>?_)
 obtain⟨x,H1,I1,r1,q1⟩:=hZ
 exact cD (hr pos pins s1 σ H1 _ I1 q1) λus s2 #[xs,H2,I2,r2,q2]=>#[x::xs,H2,I2,.cons r1 r2,q2]
def Kb(t:TA):TE:=λσ H Q=>t σ H λxs H1=>xs.length<=sizeLine/\∀p,H1 p=none->Q (.ref p) (upd H1 p (.tup xs))
def Gv(t:TA):TE:=λσ H Q=>t σ H λxs H1=>xs.length<=sizeLine/\∀p,H1 p=none->Q (.ref p) (upd H1 p (.lst xs))
def cX{x1}(h:PA X es t):PE X (.Tuple es x1 pos) (Kb t):=by
 intro pins s σ H Q I hq
 apply wpAny_Tuple_spliced (cD (h pos pins s σ H _ I hq) λus s1 #[xs,H1,I1,r,z,q]=>#[by rw[<-r.length];exact z,?_])
 have hf:H1 s1.heap.objs.size=none:=I1.hok.fresh (La _)
 apply#[.ref s1.heap.objs.size,upd H1 s1.heap.objs.size (.tup xs),I1.laid (t':=s1.toks) (λb u e=>K8 _ e) (La _) ?_,rfl,q _ hf]
 exact#[z,us,r,#[_,Ly _ rfl,rfl,_,rfl]]
def bu(h:PA X es t):PE X (.List es pos) (Gv t):=by
 intro pins s σ H Q I hq
 apply wpAny_List_spliced (cD (h pos pins s σ H _ I hq) λus s1 #[xs,H1,I1,r,z,q]=>#[by rw[<-r.length];exact z,?_])
 have hf:H1 s1.heap.objs.size=none:=I1.hok.fresh (La _)
 apply#[.ref s1.heap.objs.size,upd H1 s1.heap.objs.size (.lst xs),I1.laid (t':=s1.toks) (λb u e=>K8 _ e) (La _) ?_,rfl,q _ hf]
 exact#[z,us,0,r,Ly _ rfl]
end
abbrev Sp:=List V->Hp->VK->XK->Prop
abbrev Cy:=List Env->Hp->Shared->XK->Value->Shared->Prop
structure wR(P:Program)(w:World)(K:PySem.W.Frag)(mg:Str->Option Value)(base:Heap)(A:Around)(outer:List Env)(s:Shared)(H:Hp):Prop where
 frames:A.frames=some outer
 mod:Mod K mg base
 bs:∀b o,base.get? b=some o->s.heap.get? b=some o/\H b=none
 bsz:base.objs.size<=s.heap.objs.size
 kR:s.heap.FunFrames base outer
 frf:∀b∈uW outer,H b=none
 hok:jy P w H s.heap
 bare:AllBare s.gens
def CE(outer:List Env)(P:Program)(w:World)(H:Hp)(s:Shared)(Q:VK)(u:Value)(s':Shared):Prop :=
 ∃v H',s'.os=s.os/\AllBare s'.gens/\Un (uW outer) [] H H' s.heap s'.heap/\jy P w H' s'.heap/\RelV v u/\Q v H'
def CR(CX:Cy)(outer:List Env)(P:Program)(w:World)(H:Hp)(s:Shared)(Q:VK)(E:XK)(r:Result)(s':Shared):Prop :=
 match r with
 |.ok (.ret u)=>CE outer P w H s Q u s'
 |.ok _=>False
 |.error e=>CX outer H s E e s'
structure bf(P:Program)(w:World)(K:PySem.W.Frag)(mg:Str->Option Value)(base:Heap)(CX:Cy)(k:Nat)(f:Addr)(fd:FuncData)(ps:List Str)(sp:Sp):Prop where
 len:∀vs H Q E,sp vs H Q E->vs.length=ps.length
 run:∀(A:Around) (outer:List Env) (s:Shared) (H:Hp) (args:Args) (us:List Value) (vs:List V) (Q:VK) (E:XK),cW k A->wR P w K mg base A outer s H->BindsTo s fd args (ps.zip us)->Vals vs us->sp vs H Q E ->
  codeAny (model P w) A (.call (.ref f) args) (CR CX outer P w H s Q E) s
def wR.make{P:Program}{w:World}{K:PySem.W.Frag}{mg:Str->Option Value}{base:Heap}{A:Around}{outer:List Env}{s:Shared}{H:Hp}(e:wR P w K mg base A outer s H)(C:Addr)(us:List Value)(kw:List (Str×Value)) :
  wR P w K mg base (A.under (.builtin "type.__call__" #[.ref C::us,kw])) outer s H:=#[by first|exact e.frames|(simpa[Around.under,Code.envs,Code.isFrame,pushEnvs] using e.frames),e.mod,e.bs,e.bsz,e.kR,e.frf,e.hok,e.bare]
section
variable {X:Cx}{pins:List (Addr×Obj)}{σ:St}{H:Hp}{s s':Shared}
def Inv.HR(I:Inv X pins σ H s):wR X.prog X.w X.K X.mg X.base X.A X.stack s H :=
 #[I.ok.frames,I.ok.mod,I.bs,LM I.ok.bsz I.sz,I.stack,I.xG,I.hok,I.bare]
def Inv.after{Q:VK}{u:Value}(I:Inv X pins σ H s)(h:CE X.stack X.prog X.w H s Q u s'):EP X pins σ Q u s':=by
 obtain⟨v,H',os,bare,un,hok,r,q⟩:=h
 obtain⟨hh,g,d,t,os'⟩:=s'
 obtain rfl:os'=s.os:=os
 exact#[v,H',I.call (h':=hh) (g':=g) (d':=d) (t':=t) (ch:=[]) un hok bare (λb z=>absurd z (by simp)),r,q]
end
def Fo(sp:Sp)(dvs:List V)(E:XK)(t:TA):TE:=λσ H Q=>t σ H λvs H1=>sp (vs++dvs) H1 Q E
def Fw(C:Addr)(m:Str)(sp:Sp)(dvs:List V)(E:XK)(ta:TE)(t:TA):TE:=λσ H Q=>ta σ H λx H1=>∃a dx fs,x=.ref a/\H1 a=some (.ins C dx fs)/\fs.lookup m=none /\
 t σ H1 λvs H2=>sp (x::(vs++dvs)) H2 Q E
def Jb(C:Addr)(sp:Sp)(dvs:List V)(E:XK)(t:TA):TE:=λσ H Q=>t σ H λvs H1=>∀x dx,H1 x=none->H1 dx=none->dx≠x ->
 sp (.ref x::(vs++dvs)) (upd (upd H1 dx (.own x)) x (.ins C dx [])) (λv H2=>v=.non/\Q (.ref x) H2) E
def Binds(K:PySem.W.Frag)(fd:FuncData)(ps:List Str)(ds:List Value):Prop :=
 ∀(s:Shared) (us:List Value),K.In s.heap->(us++ds).length=ps.length->BindsTo s fd #[us,[]] (ps.zip (us++ds))
def Binds.all{K:PySem.W.Frag}{fd:FuncData}{ps:List Str}(h:∀us:List Value,us.length=ps.length->bindArgs fd #[us,[]]=pure (ps.zip us)):Binds K fd ps []:=λs us _ hl=>by
 rw[NN]at hl ⊢
 exact .of_eq (h us hl)
def Passes(CX:Cy)(X:Cx)(E:XK):Prop:=∀(pins:List (Addr×Obj)) (σ:St) (H:Hp) (s:Shared) (e:Value) (s':Shared),Inv X pins σ H s->CX X.stack H s E e s'->X.xe e s'
section
variable {X:Cx}{CX:Cy}{k:Nat}{f C:Addr}{fd:FuncData}{ps:List Str}{sp:Sp}{dvs:List V}{ds:List Value}{E:XK}{x m:Str}{p pos apos:Pos}{e o:Expr}{es:List Expr}{ta:TE}{t:TA}
def vh{pins:List (Addr×Obj)}{σ:St}{H:Hp}{s:Shared}{Q:VK}{us:List Value}{vs:List V}(F:bf X.prog X.w X.K X.mg X.base CX k f fd ps sp)(hr:cW k X.A)(hb:Binds X.K fd ps ds)(hd:Vals dvs ds)(hx:Passes CX X E)
  (I:Inv X pins σ H s) (r:Vals vs us) (h:sp (vs++dvs) H Q E):wpAny (model X.prog X.w) X.A (call (.ref f) us) (EP X pins σ Q) X.xe s:=by
 have r2:Vals (vs++dvs) (us++ds):=r.append hd
 have hl:(us++ds).length=ps.length:=by rw[<-r2.length];exact F.len _ _ _ _ h
 apply wpAny_call (Oq (F.run X.A X.stack s H #[us,[]] (us++ds) (vs++dvs) Q E hr I.HR (hb s us I.me hl) r2 h) λr s' hq=>?_)
 cases r with
 |error e=>exact hx pins σ H s e s' I hq
 |ok fl =>
  cases fl with
  |ret u=>exact I.after hq
  |next=>exact False.elim hq
  |brk=>exact False.elim hq
  |cont=>exact False.elim hq
def eu(F:bf X.prog X.w X.K X.mg X.base CX k f fd ps sp)(hr:cW k X.A)(hg:Gl X x)(hm:X.mg x=some (.ref f))(hk:PySem.W.keepIn X.K (.ref f)=true)(hb:Binds X.K fd ps ds)(hd:Vals dvs ds)(hx:Passes CX X E)
  (ha:PA X (e::es) t) (hdb:(x==("__debug__":Str))=false:=by decide) (he:starEach (e::es) X.env=(false,eval e X.env)::starEach es X.env:=by rfl) (hpl:(backTo pos (starEach es X.env)).any (·.1)=false:=by rfl) :
  PE X (.Call (.Name x p) (e::es) [] pos) (Fo sp dvs E t):=by
 intro pins s σ H Q I h
 apply Ot (rM I hg hm ?_ hdb)
 apply Pc (h₀:=X.base) I.ok.mod.kin hk (cD (ha pos pins s σ H _ I h) λus s1 #[vs,H1,I1,r,q]=>#[I1.me,?_]) he hpl
 exact vh F hr hb hd hx I1 r q
def cJ{pl:Sem Bool}(he:PE X o ta)(c:zY X.K C)(hm:Meth X.K C m f)(F:bf X.prog X.w X.K X.mg X.base CX k f fd ps sp)(hr:cW k X.A)(hb:Binds X.K fd ps ds)(hd:Vals dvs ds)(hx:Passes CX X E)(ha:PA X (e::es) t)
  (hst:starEach (e::es) X.env=(false,eval e X.env)::starEach es X.env:=by rfl) (hpl:(backTo pos (starEach es X.env)).any (·.1)=false:=by rfl)
  (ht:eval (.Call (.Attribute o m apos) (e :: es) [] pos) X.env = (do
   let ov <-eval o X.env
   standAt apos.atName
   let (f,first) <-holding [ov] (getMethod ov m pl)
   callWith pos f first (backTo pos (starEach (e::es) X.env)) (backToKw pos (keywordEach [] X.env))):=by rfl) :
  PE X (.Call (.Attribute o m apos) (e::es) [] pos) (Fw C m sp dvs E ta t):=by
 intro pins s σ H Q I h
 apply Qd (pl:=pl) (cD (he pins s σ H _ I h) λu s1 #[x,H1,I1,rx,a,dx,fs,ex,ea,l,q]=>?_) ht
 subst ex
 obtain rfl:u=Value.ref a:=rx
 apply oU I1 ea c hm l ?_
 apply Pc (first:=[.ref a]) (h₀:=X.base) I.ok.mod.kin hm.kp (cD (ha pos pins s1 σ H1 _ I1 q) λus s2 #[vs,H2,I2,r,q2]=>#[I2.me,?_]) hst hpl
 exact vh (us:=.ref a::us) (vs:=.ref a::vs) F hr hb hd hx I2 (.cons rfl r) q2
def dw{pl:Sem Bool}(he:PE X o ta)(c:zY X.K C)(hm:Meth X.K C m f)(F:bf X.prog X.w X.K X.mg X.base CX k f fd ps sp)(hr:cW k X.A)(hb:Binds X.K fd ps ds)(hd:Vals dvs ds)(hx:Passes CX X E)
  (ht:eval (.Call (.Attribute o m apos) [] [] pos) X.env = (do
   let ov <-eval o X.env
   standAt apos.atName
   let (f,first) <-holding [ov] (getMethod ov m pl)
   callWith pos f first (backTo pos (starEach [] X.env)) (backToKw pos (keywordEach [] X.env))):=by rfl) :
  PE X (.Call (.Attribute o m apos) [] [] pos) (Fw C m sp dvs E ta tH):=by
 intro pins s σ H Q I h
 apply Qd (pl:=pl) (cD (he pins s σ H _ I h) λu s1 #[x,H1,I1,rx,a,dx,fs,ex,ea,l,q]=>?_) ht
 subst ex
 obtain rfl:u=Value.ref a:=rx
 apply oU I1 ea c hm l ?_
 exact PySem.W.callWith_K0 (first:=[.ref a]) I1.me hm.kp (vh (us:=[.ref a]) (vs:=[.ref a]) F hr hb hd hx I1 (.cons rfl .nil) q)
structure Mk(K:PySem.W.Frag)(C f:Addr):Prop where
 makes:PySem.W.makesIn K C=true
 init:PySem.W.findIn K (.ref C) "__init__"=some (some (.ref f))
 fn:PySem.W.isFn K (.ref f)=true
 kp:PySem.W.keepIn K (.ref C)=true
def AR{pins:List (Addr×Obj)}{σ:St}{H:Hp}{s:Shared}{Q:VK}{us:List Value}{vs:List V}(M:Mk X.K C f)(F:bf X.prog X.w X.K X.mg X.base CX k f fd ps sp)(hr:cW (k+1) X.A)(hb:Binds X.K fd ps ds)(hd:Vals dvs ds)
  (hx:Passes CX X E) (I:Inv X pins σ H s) (r:Vals vs us)
  (h:∀x dx,H x=none->H dx=none->dx≠x->sp (.ref x::(vs++dvs)) (upd (upd H dx (.own x)) x (.ins C dx [])) (λv H2=>v=.non/\Q (.ref x) H2) E) :
  wpAny (model X.prog X.w) X.A (call (.ref C) us) (EP X pins σ Q) X.xe s:=by
 have hq:=h (s.heap.objs.size+1) s.heap.objs.size (I.hok.fresh (Mq _)) (I.hok.fresh (La _)) (LB (MS _))
 have I2:=Inv.made (C:=C) I
 have r2:Vals (V.ref (s.heap.objs.size+1)::(vs++dvs)) (Value.ref (s.heap.objs.size+1)::(us++ds)):=.cons rfl (r.append hd)
 have hl:(Value.ref (s.heap.objs.size+1)::us++ds).length=ps.length:=by
  have e:=r2.length
  rw[F.len _ _ _ _ hq]at e
  exact e.symm
 apply wpAny_call (Bf (f:=f) I.me M.makes M.init (Nx.mp M.fn) (Oq (F.run _ X.stack _ _ #[Value.ref (s.heap.objs.size+1)::us,[]] (Value.ref (s.heap.objs.size+1)::(us++ds)) _ _ E (hr.make C us [])
  (I2.HR.make C us []) (hb _ (Value.ref (s.heap.objs.size+1)::us) I2.me hl) r2 hq) λr s' hq'=>?_))
 cases r with
 |error e=>exact hx pins σ _ _ e s' I2 hq'
 |ok fl =>
  cases fl with
  |ret u =>
   obtain⟨v,H',I3,rv,ev,q3⟩:=I2.after hq'
   subst ev
   exact#[rv,#[V.ref (s.heap.objs.size+1),H',I3,rfl,q3]]
  |next=>exact False.elim hq'
  |brk=>exact False.elim hq'
  |cont=>exact False.elim hq'
def rD(M:Mk X.K C f)(F:bf X.prog X.w X.K X.mg X.base CX k f fd ps sp)(hr:cW (k+1) X.A)(hg:Gl X x)(hm:X.mg x=some (.ref C))(hb:Binds X.K fd ps ds)(hd:Vals dvs ds)(hx:Passes CX X E)
  (ha:PA X (e::es) t) (hdb:(x==("__debug__":Str))=false:=by decide) (he:starEach (e::es) X.env=(false,eval e X.env)::starEach es X.env:=by rfl) (hpl:(backTo pos (starEach es X.env)).any (·.1)=false:=by rfl) :
  PE X (.Call (.Name x p) (e::es) [] pos) (Jb C sp dvs E t):=by
 intro pins s σ H Q I h
 apply Ot (rM I hg hm ?_ hdb)
 apply Pc (h₀:=X.base) I.ok.mod.kin M.kp (cD (ha pos pins s σ H _ I h) λus s1 #[vs,H1,I1,r,q]=>#[I1.me,?_]) he hpl
 exact AR M F hr hb hd hx I1 r q
end
section
variable {X:Cx}{CX:Cy}{k:Nat}{f C:Addr}{fd:FuncData}{ps ks:List Str}{sp:Sp}{E:XK}{x m:Str}{p pos apos kpos:Pos}{e o:Expr}{es:List Expr}{kws:List Keyword}{te ta:TE}{t tk:TA}{nm:Option Str}
structure Kd(K:PySem.W.Frag)(fd:FuncData)(ps ks:List Str)(g:List Value->List Value->List Value)(gV:List V->List V->List V):Prop where
 to:∀(s:Shared) (us ws:List Value),K.In s.heap->(g us ws).length=ps.length->BindsTo s fd #[us,ks.zip ws] (ps.zip (g us ws))
 rel:∀{vs:List V} {us:List Value} {zs:List V} {ws:List Value},Vals vs us->Vals zs ws->Vals (gV vs zs) (g us ws)
variable {g:List Value->List Value->List Value}{gV:List V->List V->List V}
end
structure aF(N P:List Str)(sc:Scope):Prop where
 kind:sc.kind=.function
 co:sc.isCoroutine=false
 gen:sc.isGenerator=false
 nd:N.Nodup
 pre:N.take P.length=P
 par:∀x∈P,sc.names.lookup x=some .local\/sc.names.lookup x=some .cell
 nofree:∀y∈sc.names,y.2≠.free
def ff{N P:List Str}{sc:Scope}(a:sc.kind=.function:=by rfl)(b:sc.isCoroutine=false:=by rfl)(c:sc.isGenerator=false:=by rfl)(d:N.Nodup:=by decide +kernel)(e:N.take P.length=P:=by rfl)(f:∀x∈P,sc.names.lookup x=some .local\/sc.names.lookup x=some .cell:=by decide +kernel)(g:∀y∈sc.names,y.2≠.free:=by decide +kernel):aF N P sc:=#[a,b,c,d,e,f,g]
theorem pZ{kindOf:Str->Option NameKind}{x:Str}:∀{binds:List (Str×Value)} {m:Str->Option Value},(∀v,(x,v)∉binds)->bindL kindOf binds m x=m x
 |[],_,_=>rfl
 |(n,v)::r,m,h=>by
  unfold bindL
  rw[pZ λw hw=>h w (LJ _ hw)]
  split
  ·have:x≠n:=by rintro rfl;exact h v LK
   simp[this]
  ·rfl
theorem pO{kindOf:Str->Option NameKind}{x:Str}:∀{binds:List (Str×Value)} {m:Str->Option Value},(∀v,(x,v)∉binds)->bindC kindOf binds m x=m x
 |[],_,_=>rfl
 |(n,v)::r,m,h=>by
  unfold bindC
  rw[pO λw hw=>h w (LJ _ hw)]
  split
  ·rfl
  ·have:x≠n:=by rintro rfl;exact h v LK
   simp[this]
theorem qH{kindOf:Str->Option NameKind}{x:Str}{v:Value}:∀{P:List Str} {vs:List Value} {i:Nat} {m:Str->Option Value},P.Nodup->P[i]?=some x->vs[i]?=some v->kindOf x=some .local ->
  bindL kindOf (P.zip vs) m x=some v
 |[],_,_,_,_,h,_,_=>by simp at h
 |_::_,[],_,_,_,_,h,_=>by simp at h
 |p::P,w::vs,0,m,nd,h1,h2,hk=>by
  simp at h1 h2;subst h1;subst h2
  show bindL kindOf ((p,w)::P.zip vs) m p=_
  unfold bindL
  rw[pZ λv hv=>(Mo.mp nd).1 (PU hv).1,Ls hk]
  simp
 |p::P,w::vs,i+1,m,nd,h1,h2,hk=>by
  show bindL kindOf ((p,w)::P.zip vs) m x=_
  unfold bindL
  exact qH (i:=i) (Mo.mp nd).2 (by simpa using h1) (by simpa using h2) hk
theorem qb{kindOf:Str->Option NameKind}{x:Str}{v:Value}:∀{P:List Str} {vs:List Value} {i:Nat} {m:Str->Option Value},P.Nodup->P[i]?=some x->vs[i]?=some v->kindOf x≠some .local ->
  bindC kindOf (P.zip vs) m x=some v
 |[],_,_,_,_,h,_,_=>by simp at h
 |_::_,[],_,_,_,_,h,_=>by simp at h
 |p::P,w::vs,0,m,nd,h1,h2,hk=>by
  simp at h1 h2;subst h1;subst h2
  show bindC kindOf ((p,w)::P.zip vs) m p=_
  unfold bindC
  rw[pO λv hv=>(Mo.mp nd).1 (PU hv).1,Le hk]
  simp
 |p::P,w::vs,i+1,m,nd,h1,h2,hk=>by
  show bindC kindOf ((p,w)::P.zip vs) m x=_
  unfold bindC
  exact qb (i:=i) (Mo.mp nd).2 (by simpa using h1) (by simpa using h2) hk
def start(N:List Str)(vs:List V):St:=vs.map some++List.replicate (N.length-vs.length) none
def bZ(CX:Cy)(P:Program)(w:World)(K:PySem.W.Frag)(mg:Str->Option Value)(base:Heap)(N:List Str)(qual:Str)(scope:Scope)(f:Addr)(cd:Value)(A:Around)(outer:List Env)(s:Shared)(H:Hp)(E:XK):Cx where
 prog:=P
 w:=w
 K:=K
 mg:=mg
 base:=base
 A:=A.deeper (envOfC qual scope s.heap.objs.size f cd)
 N:=N
 s₀:=s
 H₀:=H
 env:=envOfC qual scope s.heap.objs.size f cd
 outer:=outer
 stack:=envOfC qual scope s.heap.objs.size f cd::outer
 ex:=[]
 calm:=true
 fn:=λ_=>true
 pn:=[]
 xe:=λe s'=>wpAny (model P w) (A.deeper (envOfC qual scope s.heap.objs.size f cd)) («leaving» (envOfC qual scope s.heap.objs.size f cd) e) (λ_ s''=>CX outer H s E e s'') (λe' s''=>CX outer H s E e' s'') s'
def uF{sc:Scope}{n:Nat}{x:Str}(h:sc.names.lookup x=some .cell):∃c,(cellsFrom n sc.names []).lookup x=some c:=by
 have q:=P9 sc.names n [] (.inl h)
 exact Option.isSome_iff_exists.mp q
def zL{CX:Cy}{P:Program}{w:World}{K:PySem.W.Frag}{mg:Str->Option Value}{base:Heap}{N ps:List Str}{qual:Str}{scope:Scope}{f:Addr}{cd:Value}{A:Around}{outer:List Env}{s s1:Shared}{H:Hp}{E:XK}{us:List Value}{vs:List V}
  (S:aF N ps scope) (hd:A.handled=none) (e0:wR P w K mg base A outer s H) (hl:vs.length=ps.length) (r:Vals vs us)
  (x:InCallC s s.heap.objs.size (bindL (envOfC qual scope s.heap.objs.size f cd).kindOf (ps.zip us) λ_=>none) (cellsFrom (s.heap.objs.size+1) scope.names []) (bindC (envOfC qual scope s.heap.objs.size f cd).kindOf (ps.zip us) λ_=>none) s1) :
  Inv (bZ CX P w K mg base N qual scope f cd A outer s H E) [] (start N vs) H s1:=by
 have hpl:ps.length<=N.length:=by have:=L6 List.length S.pre;rw[Lf]at this;lia
 obtain⟨h1,tk,rfl,hk⟩:=x.done
 have noA:∀b:Addr,b∉(bZ CX P w K mg base N qual scope f cd A outer s H E).ex:=λb z=>absurd (show b∈([]:List Addr) from z) (by simp)
 apply#[#[e0.mod,S.kind,rfl,rfl,La _,λy z c h1 h2=>?_,λy hy=>?_,λy c _ h=>?_,λ_=>hd,Around.frames_deeper e0.frames,.inr #[rfl,rfl],λb z=>absurd z (noA b),e0.bs,e0.bsz,λb _ _=>noA b,λb z=>absurd z (noA b),e0.kR,e0.frf],
  rfl,e0.bare,Un.kept hk,#[_,x.toInCall.ns,λi y v h1 h2 h3=>?_],λy c h=>#[_,x.cell y c h],e0.hok.fresh (La _),λy c h=>?_,λp hp=>absurd (show p∈([]:List (Addr×Obj)) from hp) (by simp),e0.hok.kept hk,?_]
 ·exact name_of_addr x.apart (Ng h1) (Ng h2)
 ·have hy:scope.names.lookup y=some .cell\/scope.names.lookup y=some .free:=hy
  rcases hy with hy|hy
  ·exact uF hy
  ·exact absurd rfl (S.nofree _ (Ng hy))
 ·exact Pu (x.above y c (Ng h))
 ·have hi:i<vs.length:=by
   unfold start at h2
   by_cases hi:i<vs.length
   ·exact hi
   ·rw[MI (by simpa using hi)]at h2
    rw[NH]at h2
    split at h2 <;> cases h2
  have ha:vs[i]?=some v:=by
   unfold start at h2
   rw[Mb (by simpa using hi),LD]at h2
   cases e:vs[i]? with
   |none=>rw[e]at h2;cases h2
   |some a=>rw[e]at h2;cases h2;rfl
  obtain⟨u,hu,rv⟩:=r.get ha
  have hp:ps[i]?=some y:=by
   rw[<-S.pre,List.getElem?_take_of_lt (by lia)];exact h1
  have ndP:ps.Nodup:=by rw[<-S.pre];exact S.nd.sublist (Nu _ _)
  apply#[u,rv,?_]
  rcases S.par y (Lg hp) with k|k
  ·exact .inl #[k,qH ndP hp hu k]
  ·obtain⟨c,e⟩:=uF (n:=s.heap.objs.size+1) k
   apply .inr #[.inl k,c,e,?_]
   have q:=x.cell y c e
   rw[qb ndP hp hu (by show scope.names.lookup y≠_;rw[k];decide)]at q
   exact q
 ·exact e0.hok.fresh (Pu (x.above y c (Ng h)))
 ·unfold start
  show _=N.length
  rw[K5,K4,MQ]
  lia
def Io{CX:Cy}{P:Program}{w:World}{K:PySem.W.Frag}{mg:Str->Option Value}{base:Heap}{k:Nat}{f:Addr}{name qual:Str}{params:Arguments}{body:List Stmt}{scope:Scope}{dV kV doc pm cdv ct oc:Value}{an od:Option Addr}
  {osl:Array (Option Value)} {N ps:List Str} {sp:Sp} (lk:K.lookup f=some #[oc,od,.func (PySem.W.fnOf name qual params body scope dV kV doc pm an cdv ct),osl]) (hcd:PySem.W.codeIn K cdv qual=true) (S:aF N ps scope)
  (len:∀vs H Q E,sp vs H Q E->vs.length=ps.length)
  (hbody:∀(A:Around) (outer:List Env) (s:Shared) (H:Hp) (vs:List V) (Q:VK) (E:XK),cW k (A.deeper (envOfC qual scope s.heap.objs.size f cdv))->sp vs H Q E ->
   ∃t,uV (bZ CX P w K mg base N qual scope f cdv A outer s H E) body t/\t { nx:=λ_ H'=>Q .non H',rt:=Q } (start N vs) H) :
  bf P w K mg base CX (k+1) f (PySem.W.fnOf name qual params body scope dV kV doc pm an cdv ct) ps sp:=by
 apply#[len,λA outer s H args us vs Q E hr e0 hb r hsp=>?_]
 have hl:=len _ _ _ _ hsp
 have KX:K.In s.heap:=e0.mod.kin.keeps λb o e=>(e0.bs b o e).1
 have lim:s.heap.NoLimit:=e0.mod.nolimit.keeps λb o e=>(e0.bs b o e).1
 have hkind:∀y∈ps.zip us,scope.names.lookup y.1=some .local\/(scope.names.lookup y.1=some .cell/\((cellsFrom (s.heap.objs.size+1) scope.names []).lookup y.1).isSome=true):=λ#[n,v] hy=>by
  rcases S.par n (PU hy).1 with q|q
  ·exact .inl q
  ·exact .inr #[q,P9 _ _ _ (.inl q)]
 apply codeAny_call_function hr.depth (KX _ _ lk) rfl S.co S.gen rfl (PySem.W.codeRec_of KX hcd) (hb _ _ _ _ ?_)
 apply wpAny_newFunctionEnv_cells S.kind hkind λenv he s1 x=>?_
 subst he
 apply#[lim.keeps x.toInCall.keep,codeAny_func ?_]
 obtain⟨t,ht,hq⟩:=hbody A outer s H vs Q E (hr.deeper _) hsp
 have I:Inv (bZ CX P w K mg base N qual scope f cdv A outer s H E) [] (start N vs) H s1:=zL S hr.hd e0 hl r x
 apply MO (ht [] s1 (start N vs) H _ I hq) (λfl s' hs=>?_) λe s' hs=>hs
 have fin:∀{σ':St} {H':Hp} {v:V} {u:Value},Inv (bZ CX P w K mg base N qual scope f cdv A outer s H E) [] σ' H' s'->RelV v u->Q v H'->CE outer P w H s Q u s' :=
  λ{σ' H' v u} J rv q=>#[v,H',J.os,J.bare,J.base,J.hok,rv,q]
 cases fl with
 |ret u =>
  obtain⟨v,σ',H',J,rv,q⟩:=hs
  exact fin J rv q
 |next =>
  obtain⟨σ',H',J,q⟩:=hs
  exact fin (v:=V.non) (u:=Value.none) J rfl q
 |brk =>
  obtain⟨_,_,_,q⟩:=hs
  exact False.elim q
 |cont =>
  obtain⟨_,_,_,q⟩:=hs
  exact False.elim q
section
variable {X:Cx}{x:Str}{p pos:Pos}{e:Expr}{es:List Expr}{t:TA}{id T:String}{r:List V->Hp->VK->Prop}
def tCB(r:List V->Hp->VK->Prop)(t:TA):TE:=λσ H Q=>t σ H λvs H1=>r vs H1 Q
def aA(hc:fR X (.builtin id) r)(hg:Gl X x)(hm:X.mg x=none)(hv:bootBuiltins x=some (.builtin id))(ha:PA X (e::es) t)(hn:x≠"__name__":=by decide)(hdb:(x==("__debug__":Str))=false:=by decide)
  (he:starEach (e::es) X.env=(false,eval e X.env)::starEach es X.env:=by rfl) (hpl:(backTo pos (starEach es X.env)).any (·.1)=false:=by rfl):PE X (.Call (.Name x p) (e::es) [] pos) (tCB r t):=by
 intro pins s σ H Q I h
 apply Ot (nM I hg hm hv ?_ hn hdb)
 exact PyProof.Rows.callWith_builtin1 (cD (ha pos pins s σ H _ I h) λus s1 #[vs,H1,I1,r1,q1]=>hc pins s1 σ H1 vs us Q I1 r1 q1) he hpl
def a8(hc:fR X (.type T) r)(hg:Gl X x)(hm:X.mg x=none)(hv:bootBuiltins x=some (.type T))(ha:PA X (e::es) t)(hn:x≠"__name__":=by decide)(hdb:(x==("__debug__":Str))=false:=by decide)
  (he:starEach (e::es) X.env=(false,eval e X.env)::starEach es X.env:=by rfl) (hpl:(backTo pos (starEach es X.env)).any (·.1)=false:=by rfl):PE X (.Call (.Name x p) (e::es) [] pos) (tCB r t):=by
 intro pins s σ H Q I h
 apply Ot (nM I hg hm hv ?_ hn hdb)
 exact N4 (cD (ha pos pins s σ H _ I h) λus s1 #[vs,H1,I1,r1,q1]=>hc pins s1 σ H1 vs us Q I1 r1 q1) he hpl
end
end L2
namespace HT
open PySem PyProof.Rows
def lexLt:List Int->List Int->Bool
 |[],[]=>false
 |[],_::_=>true
 |_::_,[]=>false
 |x::xs,y::ys=>if x=y then lexLt xs ys else decide (x<y)
def va(x y:Int)(xs ys:List Int):lexLt (x::xs) (y::ys)=if x=y then lexLt xs ys else decide (x<y):=rfl
def o9:lexLt [] []=false:=rfl
def nL(y:Int)(ys:List Int):lexLt [] (y::ys)=true:=rfl
def oC(x:Int)(xs:List Int):lexLt (x::xs) []=false:=rfl
def BS(A:Around)(s:Shared)(a:Int)(t:Tok)(c:Int)(u:Tok):∃e,SeqAt.EqAt A s (.int a t) (.int c u) e/\(e=true↔a=c) :=
 #[(a==c),SeqAt.EqAt.int_int a t c u,by simp]
def BJ(A:Around)(s:Shared)(a:Int)(t:Tok)(c:Int)(u:Tok)(prog:Program)(w:World)(E:Value->Shared->Prop)(Q:Value->Shared->Prop)(h:Q (.bool (decide (a<c))) s) :
  wpAny (model prog w) A (richCompare .Lt (.int a t) (.int c u)) Q E s :=
 (PyProof.Rows.lt_int h:wpAny (model prog w) A (compareOp .Lt (.int a t) (.int c u)) Q E s)
section
open PySem.SeqAt
open PySem.AutoSeq1 (wpAny_loadPart')
open PySem.MeetsSeq PySem.MeetsSeq2 PySem.MeetsSeq3
def pF(l b:Addr)(items items2:Array Value)(n n2:Nat)(dd dd2:Option Addr)(sl sl2:Array (Option Value))(ns ms:List Int)(hi:IntsAre items.toList ns)(hj:IntsAre items2.toList ms) :
  Meets (Builtin.«tuple.__lt__» #[[.ref l,.ref b],[]])
   (λ_ R s=>s.heap.get? l = some { cls:=.type "tuple",dict:=dd,data:=.seq items n,slots:=sl }/\s.heap.get? b = some { cls:=.type "tuple",dict:=dd2,data:=.seq items2 n2,slots:=sl2 } /\
    R (.ok (.ret (.bool (lexLt ns ms)))) s) :=
 .of_wp λprog w A R s h=>by
  obtain⟨hp,g,d,tk,os⟩:=s;obtain⟨hl,hb,h⟩:=h
  have f2:=AutoSeq1.sub_tuple_tuple
  have z1:items.size=ns.length:=by rw[<-hi.length];simp
  have z2:items2.size=ms.length:=by rw[<-hj.length];simp
  wp_walk using wpAny_loadPart' hl,wpAny_loadPart' hb,wpAny_forIn_list _ (λrest b s'=>b.1=none/\s'=#[hp,g,d,tk,os]/\∃(vs ws:List Value) (ns' ms':List Int),rest=vs.zip ws /\
   IntsAre vs ns'/\IntsAre ws ms'/\ns'.length+items2.size=ms'.length+items.size/\R (.ok (.ret (.bool (lexLt ns' ms')))) #[hp,g,d,tk,os]) _
  case turn =>
   rintro⟨y,x⟩ rest b s' ⟨hb',rfl,vs,ws,ns',ms',hz,hvi,hwi,hlen,hR⟩
   cases hvi with
   |nil=>rw[List.zip_nil_left]at hz;cases hz
   |cons a t hvi' =>
    cases hwi with
    |nil=>rw[List.zip_nil_right]at hz;cases hz
    |cons c u hwi' =>
     rw[List.zip_cons_cons]at hz
     injection hz with hyx hrest
     injection hyx with hy hx
     subst hy hx
     rw[va]at hR
     simp only[LN]at hlen
     obtain⟨e,he,hiff⟩:=BS A.in1 #[hp,g,d,tk,os] a t c u
     apply K3 (he prog w _ _ ?_)
     cases e with
     |true =>
      rw[Ls (hiff.mp rfl)]at hR
      wp_walk
      exact#[rfl,rfl,_,_,_,_,hrest,hvi',hwi',by lia,hR]
     |false =>
      rw[Le (λq=>absurd (hiff.mpr q) LI)]at hR
      have hri:=BJ A.in1 #[hp,g,d,tk,os] a t c u prog w
      wp_walk using hri
      exact#[Z,by simpa using hR]
  case fin =>
   rintro⟨b1,b2⟩ s' ⟨hb',rfl,vs,ws,ns',ms',hz,hvi,hwi,hlen,hR⟩
   simp only at hb'
   subst hb'
   have hv:lexLt ns' ms'=decide (items.size<items2.size):=by
    cases hvi with
    |nil =>
     cases hwi with
     |nil =>
      simp only[NO]at hlen
      rw[o9]
      exact(Lq (by lia)).symm
     |cons c u hw =>
      simp only[NO,LN]at hlen
      rw[nL]
      exact(Lk (by lia)).symm
    |cons a t hv =>
     cases hwi with
     |nil =>
      simp only[NO,LN]at hlen
      rw[oC]
      exact(Lq (by lia)).symm
     |cons c u hw =>
      rw[List.zip_cons_cons]at hz
      cases hz
   rw[hv]at hR
   wp_walk
   exact#[Z,by simpa[Builtin.Tuple.tupleCompareSizes] using hR]
  case h =>
   exact#[rfl,rfl,items.toList,items2.toList,ns,ms,rfl,hi,hj,by lia,h]
end
def wM{l b:Addr}{items items2:Array Value}{ns ms:List Int}{Q:Value->Shared->Prop}(hl:IsTup s.heap l items)(hb:IsTup s.heap b items2)(hi:IntsAre items.toList ns)(hj:IntsAre items2.toList ms)
  (hu:A.units<cLine) (h:Q (.bool (lexLt ns ms)) s):wpAny (model prog w) A (compareOp .Lt (.ref l) (.ref b)) Q E s:=by
 obtain⟨⟨cls,dd,data,sl⟩,ho,hc,n,hd⟩:=id hl
 obtain⟨⟨cls2,dd2,data2,sl2⟩,ho2,hc2,n2,hd2⟩:=id hb
 simp only at hc hd hc2 hd2
 subst hc hd hc2 hd2
 exact richCompare_meets_room (op:=.Lt) #[_,ho,rfl] #[_,ho2,rfl] PySem.F.slot_tuple_lt PySem.F.entry_tuple_lt (PySem.F.args_tuple_lt_2 _ _) (pF l b items items2 n n2 dd dd2 sl sl2 ns ms hi hj)
  #[ho,ho2,show Value.bool (lexLt ns ms)≠Value.notImplemented/\Q (.bool (lexLt ns ms)) s from#[(λx=>nomatch x),h]] hu
def dO(n d:Nat):Option Int->Nat
 |none=>d
 |some v=>if v<0 then(v+(n:Int)).toNat else min v.toNat n
def oh(n d:Nat):dO n d none=d:=rfl
def ig(n d k:Nat):dO n d (some (k:Int))=min k n:=by
 show(if (k:Int)<0 then((k:Int)+(n:Int)).toNat else min (k:Int).toNat n)=min k n
 rw[Le (by lia),LW]
def GY(n d:Nat)(hd:d<=n)(o:Option Int):dO n d o<=n:=by
 cases o with
 |none=>exact hd
 |some v =>
  show(if v<0 then(v+(n:Int)).toNat else min v.toNat n)<=n
  by_cases hv:v<0
  ·rw[Ls hv];lia
  ·rw[Le hv];exact Nat.min_le_right _ _
def xN(v:Int)(n d:Nat):(if v<0 then max (v+(n:Int)) 0 else min v (n:Int))=((dO n d (some v):Nat):Int):=by
 show(if v<0 then max (v+(n:Int)) 0 else min v (n:Int))=(((if v<0 then(v+(n:Int)).toNat else min v.toNat n):Nat):Int)
 by_cases hv:v<0
 ·simp only[Ls hv];lia
 ·simp only[Le hv];lia
def v9(lo hi:Option Int)(n:Nat):Builtin.Slice.sliceAdjust lo hi 1 (n:Int)=(((dO n 0 lo:Nat):Int),((dO n n hi:Nat):Int)):=by
 have h1:¬((1:Int)<0):=by lia
 unfold Builtin.Slice.sliceAdjust
 simp only[h1,MT]
 apply Prod.ext ?_ ?_
 ·cases lo with
  |none=>rfl
  |some v=>exact xN v n 0
 ·cases hi with
  |none=>rfl
  |some v=>exact xN v n n
def vG(i j:Nat):Builtin.Slice.slicePlaces (i:Int) (j:Int) 1=j-i:=by
 unfold Builtin.Slice.slicePlaces
 have h1:(1:Int) > 0:=by lia
 simp only[h1,Od,Int.ediv_one]
 split <;> lia
def nC{v:Value}{o:Option Int}{Q:Option Int->Shared->Prop}(p:IsPart v o)(h:Q o s):wpAny (model prog w) A (Builtin.Slice.slicePartIndex v) Q E s:=by
 cases p with
 |none=>exact slicePart_none h
 |int i t=>exact slicePart_int h
def hC{sl:Addr}{vl vu:Value}{lo hi:Option Int}{n:Nat}{Q:Int×Int×Nat->Shared->Prop}(hs:s.heap.IsSliceOf sl vl vu .none)(pl:IsPart vl lo)(pu:IsPart vu hi)
  (h:Q (((dO n 0 lo:Nat):Int),1,dO n n hi-dO n 0 lo) s):wpAny (model prog w) A (Builtin.Slice.sliceApplied (.ref sl) (pure (n:Int))) Q E s:=by
 obtain⟨os,hos,hcs,hds⟩:=id hs
 unfold Builtin.Slice.sliceApplied Builtin.Slice.sliceFields
 apply K3 (K3 (wpAny_field hos hds (x:=vl) rfl (K3 (wpAny_field hos hds (x:=vu) rfl (K3 (wpAny_field hos hds (x:=.none) rfl (K6 ?_)))))))
 apply K3 (slicePart_none ?_)
 show wpAny _ _ (if ((1:Int)==0)=true then _ else _) _ _ s
 rw[Le (by decide)]
 apply K3 (nC pl (K3 (nC pu (K3 (K6 ?_)))))
 show wpAny _ _ (match Builtin.Slice.sliceAdjust lo hi 1 (n:Int) with|(lo,hi)=>pure (lo,(1:Int),Builtin.Slice.slicePlaces lo hi 1)) _ _ s
 rw[v9 lo hi n]
 show wpAny _ _ (pure (((dO n 0 lo:Nat):Int),(1:Int),Builtin.Slice.slicePlaces ((dO n 0 lo:Nat):Int) ((dO n n hi:Nat):Int) 1)) _ _ s
 rw[vG]
 exact K6 h
def BK(xs:Array Value)(i k:Nat):((List.range k).filterMap λ(m:Nat)=>xs[((i:Int)+(m:Int)*1).toNat]?).toArray=((xs.toList.drop i).take k).toArray:=by
 have e:(λ(m:Nat)=>xs[((i:Int)+(m:Int)*1).toNat]?)=λm=>xs[i+m]?:=by
  funext m
  have:((i:Int)+(m:Int)*1).toNat=i+m:=by lia
  rw[this]
 rw[e]
 have:=pick_run xs i k
 rw[List.filterMap_map]at this
 have e2:((λx=>xs[x]?) ∘ λx=>i+x)=λm=>xs[i+m]?:=rfl
 rw[e2]at this
 rw[this]
def ke{t sl:Addr}{items:Array Value}{vl vu:Value}{lo hi:Option Int}{Q:Value->Shared->Prop}(ht:IsTup s.heap t items)(hs:s.heap.IsSliceOf sl vl vu .none)(pl:IsPart vl lo)(pu:IsPart vu hi)
  (hw:¬(dO items.size 0 lo=0/\dO items.size items.size hi=items.size))
  (h:Q (.ref s.heap.objs.size) { s with heap:=s.heap.push { cls:=.type "tuple",data:=.seq ((items.toList.drop (dO items.size 0 lo)).take (dO items.size items.size hi-dO items.size 0 lo)).toArray } })
  (hsz:items.size<=sizeLine):wpAny (model prog w) A (getItem (.ref t) (.ref sl)) Q E s:=by
 have htake:sizeOk (.seq ((items.toList.drop (dO items.size 0 lo)).take (dO items.size items.size hi-dO items.size 0 lo)).toArray):=by
  show((items.toList.drop (dO items.size 0 lo)).take (dO items.size items.size hi-dO items.size 0 lo)).toArray.size<=sizeLine
  rw[Lu,Lf,Mp,MB]
  lia
 have hj:dO items.size items.size hi<=items.size:=GY _ _ (La _) hi
 obtain⟨os,hos,hcs,hds⟩:=id hs
 have hTs:s.TypeIs (.ref sl) "slice":=#[os,hos,hcs]
 unfold getItem
 try with_reducible apply Mn ?_
 first|apply K3 (K6 ?_)|skip
 apply K3 (wpAny_sequenceKey ht.typeIs (by decide) ?_)
 apply K3 (NI (name:=Str.ofString "__getitem__") ht.typeIs Ms
  (MG Ms ht.typeIs entry_tuple_getitem ?_ (args_tuple_getitem _ _)))
 show wpAny _ _ (Builtin.Tuple.tupleItemsOf (.ref t) >>= _) _ _ s
 apply K3 (tupleItemsOf_ ht ?_)
 apply K3 (NB hTs ?_)
 rw[Ls (by decide)]
 apply K3 (hC hs pl pu ?_)
 have hno:¬((((dO items.size 0 lo:Nat):Int)==0&&(1:Int)==1&&(dO items.size items.size hi-dO items.size 0 lo)==items.size)=true):=by
  intro q
  rw[Md,Md]at q
  have q1:((dO items.size 0 lo:Nat):Int)=0:=eq_of_beq q.1.1
  have q2:dO items.size items.size hi-dO items.size 0 lo=items.size:=eq_of_beq q.2
  exact hw #[by lia,by lia]
 show wpAny _ _ (if (((dO items.size 0 lo:Nat):Int)==0&&(1:Int)==1&&(dO items.size items.size hi-dO items.size 0 lo)==items.size)=true then _ else _) _ _ s
 rw[Le hno,BK]
 first
  |exact K3 (m:=Builtin.Tuple.tupleExact _) (Mj (K6 #[Z,K6 h]) htake)
  |exact K3 (m:=Builtin.Tuple.tupleExact _) (Mj (K3 (K6 (K6 #[Z,K6 h]))) htake)
  |exact K3 (K3 (m:=Builtin.Tuple.tupleExact _) (Mj (K6 (K6 #[Z,K6 h])) htake))
  |exact K3 (K3 (m:=Builtin.Tuple.tupleExact _) (Mj (K6 #[Z,K6 h]) htake))
end HT
namespace L2
open PySem PySem.Spec PyProof.Rows
abbrev TO:=St->Hp->(Option Int->Hp->Prop)->Prop
def PO(X:Cx)(e:Option Expr)(t:TO):Prop :=
 ∀(pins:List (Addr×Obj)) (s:Shared) (σ:St) (H:Hp) (Q:Option Int->Hp->Prop),Inv X pins σ H s->t σ H Q ->
  wpAny (model X.prog X.w) X.A (evalPart e X.env) (λu s'=>∃o H',Inv X pins σ H' s'/\IsPart u o/\Q o H') X.xe s
def Dy:TO:=λ_ H Q=>Q none H
def HP(t:TE):TO:=λσ H Q=>t σ H λx H1=>∃i,x=.int i/\Q (some i) H1
def intsAre_of{ns:List Int}:∀{us:List Value},Vals (ns.map V.int) us->IntsAre us ns:=by
 induction ns with
 |nil=>intro us r;rw[Px]at r;cases r;exact .nil
 |cons n ns ih =>
  intro us r
  rw[Mh]at r
  cases r with
  |cons r1 r2 =>
   obtain⟨t,e⟩:=r1
   subst e
   exact .cons n t (ih r2)
section
variable {X:Cx}{e:Expr}{te:TE}{lo hi:Option Expr}{tl th:TO}{pos p2:Pos}
def cU:PO X none Dy:=by
 intro pins s σ H Q I h
 rw[evalPart_none]
 exact K6 #[none,H,I,.none,h]
def bV(h:PE X e te):PO X (some e) (HP te):=by
 intro pins s σ H Q I hw
 rw[evalPart_some]
 apply cD (h pins s σ H _ I hw) λu s1 hZ=>?_
 obtain⟨x,H1,I1,r1,q1⟩:=hZ
 obtain⟨i,rfl,q⟩:=q1
 obtain⟨t,rfl⟩:=r1
 exact#[some i,H1,I1,.int i t,q]
def HN(X:Cx)(r:V->Option Int->Option Int->Hp->VK->Prop):Prop :=
 ∀(pins:List (Addr×Obj)) (s:Shared) (σ:St) (H:Hp) (x:V) (v vl vu:Value) (lo hi:Option Int) (sl:Addr) (Q:VK),Inv X pins σ H s->RelV x v->s.heap.IsSliceOf sl vl vu .none->IsPart vl lo->IsPart vu hi->r x lo hi H Q ->
  ∃T id,typeLookup (.type T) "__getitem__"=pure (some (.builtin id))/\s.TypeIs v T/\wpAny (model X.prog X.w) X.A (getItem v (.ref sl)) (EP X pins σ Q) X.xe s
def tSl(r:V->Option Int->Option Int->Hp->VK->Prop)(te:TE)(tl th:TO):TE:=λσ H Q=>te σ H λx H1=>tl σ H1 λl H2=>th σ H2 λu H3=>r x l u H3 Q
def bY{r:V->Option Int->Option Int->Hp->VK->Prop}(hr:HN X r)(he:PE X e te)(hl:PO X lo tl)(hu:PO X hi th):PE X (.Subscript e (.Slice lo hi none p2) pos) (tSl r te tl th):=by
 intro pins s σ H Q I h
 apply Subscript_ (cD (he pins s σ H _ I h) λv s1 hZ=>?_)
 obtain⟨x,H1,I1,r1,q1⟩:=hZ
 apply wpAny_Slice (cD (hl pins s1 σ H1 _ I1 q1) λvl s2 #[l,H2,I2,pl,q2]=>cD (hu pins s2 σ H2 _ I2 q2) λvu s3 hZ=>?_)
 obtain⟨u,H3,I3,pu,q3⟩:=hZ
 rw[evalPart_none]
 apply K6 ?_
 have I4:Inv X pins σ H3 { s3 with heap:=s3.heap.push { cls:=.type "slice",data:=.fields (List.toArray [vl,vu,.none]) } }:=I3.kept (t':=s3.toks) λb ob q=>K8 _ q
 obtain⟨T,id,hT,ht,hg⟩:=hr pins { s3 with heap:=s3.heap.push { cls:=.type "slice",data:=.fields (List.toArray [vl,vu,.none]) } } σ H3 x v vl vu l u s3.heap.objs.size Q I4 r1 (Heap.IsSliceOf.new ..) pl pu q3
 show wpAny (model X.prog X.w) X.A (subscriptTail e (.Slice lo hi none p2) v (.ref s3.heap.objs.size)) (EP X pins σ Q) X.xe { s3 with heap:=s3.heap.push { cls:=.type "slice",data:=.fields (List.toArray [vl,vu,.none]) } }
 exact tail_any (ops:=[.ref s3.heap.objs.size,v]) ht hT hg (by with_unfolding_all rfl)
def dR(xs:List V)(lo hi:Option Int):List V:=(xs.drop (HT.dO xs.length 0 lo)).take (HT.dO xs.length xs.length hi-HT.dO xs.length 0 lo)
def lR(xs:List V)(lo hi:Option Int):(dR xs lo hi).length<=xs.length:=by
 unfold dR
 rw[Lf,Mp]
 lia
def Ky(K:PySem.W.Frag):V->Option Int->Option Int->Hp->VK->Prop:=λx lo hi H Q=>∃a xs,x=.ref a/\cz K H a xs /\
 ¬(HT.dO xs.length 0 lo=0/\HT.dO xs.length xs.length hi=xs.length)/\∀p,H p=none->Q (.ref p) (upd H p (.tup (dR xs lo hi)))
def Gz:HN X (Ky X.K):=by
 intro pins s σ H x v vl vu lo hi sl Q I rx hs pl pu h
 obtain⟨a,xs,rfl,hx,hw,q⟩:=h
 cases rx
 obtain⟨its,r,ht,hz⟩:=I.tuple hx
 have hlen:its.toArray.size=xs.length:=by rw[Lu];exact r.length.symm
 apply#["tuple",_,Ms.lookup,ht.typeIs,?_]
 apply HT.ke ht hs pl pu (by rw[hlen];exact hw) ?_ (by rw[hlen];exact hz)
 rw[hlen]
 apply#[.ref s.heap.objs.size,_,I.laid (t':=s.toks) (o:=.tup (dR xs lo hi)) (λb ob q=>K8 _ q) (La _) ?_,rfl,q _ (I.hok.fresh (La _))]
 exact#[LM (lR xs lo hi) hz,_,(r.drop (HT.dO xs.length 0 lo)).take (HT.dO xs.length xs.length hi-HT.dO xs.length 0 lo),IsTup.new _ _]
end
def zZ(n:Nat)(i:Int):Option Nat:=if 0<=i then(if i<n then some i.toNat else none) else if -(n:Int)<=i then some (i+n).toNat else none
def zW{α:Type}(xs:List α)(i:Int):Option α:=(zZ xs.length i).bind λj=>xs[j]?
def ye{n:Nat}{i:Int}{j:Nat}(h:zZ n i=some j):seqIndex? i n=some j/\j<n/\-(n:Int)<=i/\i<n:=by
 unfold zZ at h
 by_cases h0:0<=i
 ·rw[Ls h0]at h
  by_cases h1:i<n
  ·rw[Ls h1]at h
   have e:i.toNat=j:=LS h
   exact#[by rw[seqIndex_of h0 h1,e],by lia,by lia,h1]
  ·rw[Le h1]at h;cases h
 ·rw[Le h0]at h
  by_cases h1 : -(n:Int)<=i
  ·rw[Ls h1]at h
   have e:(i+n).toNat=j:=LS h
   exact#[by rw[seqIndex_neg (by lia) h1,e],by lia,h1,by lia]
  ·rw[Le h1]at h;cases h
def sC{α:Type}{xs:List α}{i:Int}{v:α}(h:zW xs i=some v):∃j,seqIndex? i xs.length=some j/\xs[j]?=some v/\j<xs.length/\-(xs.length:Int)<=i/\i<xs.length:=by
 unfold zW at h
 cases e:zZ xs.length i with
 |none=>rw[e]at h;cases h
 |some j =>
  rw[e]at h
  obtain⟨h1,h2,h3,h4⟩:=ye e
  exact#[j,h1,h,h2,h3,h4]
def aD{α:Type}{xs:List α}{j:Nat}{v:α}(h:xs[j]?=some v):zW xs (j:Int)=some v:=by
 have hj:j<xs.length:=(Lh.mp h).1
 have e:zZ xs.length (j:Int)=some j:=by
  unfold zZ
  rw[Ls (by lia),Ls (by lia)];simp
 unfold zW;rw[e];exact h
def xj(b:Expr):Prop:=∀o i,subscripted b false o i=operate [o,i] (getItem o i)
def Iv(X:Cx)(r:R2):Prop :=
 ∀(value slice:Expr) (pins:List (Addr×Obj)) (s:Shared) (σ:St) (H:Hp) (x y:V) (v u:Value) (Q:VK),Inv X pins σ H s->RelV x v->RelV y u->r x y H Q ->
  subscripted slice false v u=operate [v,u] (getItem v u)->wpAny (model X.prog X.w) X.A (subscriptTail value slice v u) (EP X pins σ Q) X.xe s
def MtR(X:Cx)(id:String)(r:V->List V->Hp->VK->Prop):Prop :=
 ∀(pins:List (Addr×Obj)) (s:Shared) (σ:St) (H:Hp) (x:V) (xs:List V) (v:Value) (us:List Value) (Q:VK),Inv X pins σ H s->RelV x v->Vals xs us->r x xs H Q ->
  wpAny (model X.prog X.w) X.A (call (.builtin id) (v::us)) (EP X pins σ Q) X.xe s
section
variable {X:Cx}{a b:Expr}{ta tb:TE}{pos:Pos}
def aQ{r:R2}(hr:Iv X r)(ha:PE X a ta)(hb:PE X b tb)(hs:xj b):PE X (.Subscript a b pos) (HS r ta tb):=by
 intro pins s σ H Q I h
 exact Subscript_ (Gu ha hb I h λv u s2 x y H2 I2 rx ry q=>hr a b pins s2 σ H2 x y v u Q I2 rx ry q (hs _ _))
inductive Ko(K:PySem.W.Frag)(x y:V)(H:Hp)(Q:VK):Prop
 |mk (p:Addr) (xs:List V) (i:Int) (v:V) (e1:x=.ref p) (e2:y=.int i) (h:aH K H p xs) (a:zW xs i=some v) (k:Q v H)
inductive Kh(K:PySem.W.Frag)(x y:V)(H:Hp)(Q:VK):Prop
 |mk (p:Addr) (xs:List V) (i:Int) (v:V) (e1:x=.ref p) (e2:y=.int i) (h:cz K H p xs) (a:zW xs i=some v) (k:Q v H)
def J0(K:PySem.W.Frag):R2:=Ko K
def KP(K:PySem.W.Frag):R2:=Kh K
def Kp:R2:=λx y H Q=>∃z i c,x=.str z/\y=.int i/\z.length<=sizeLine/\zW z.cps.toList i=some c/\Q (.str #[(List.toArray [c])]) H
def aI:Iv X (J0 X.K):=by
 intro value slice pins s σ H x y v u Q I rx ry h hs
 obtain⟨p,xs,i,z,rfl,rfl,hq,he,q⟩:=h
 cases rx
 obtain⟨t,rfl⟩:=ry
 obtain⟨its,r,pl,hz⟩:=I.list hq
 obtain⟨j,h1,h2,h3,h4,h5⟩:=sC he
 obtain⟨w,ew,rw'⟩:=r.get h2
 have hl:=r.length
 have hn:=kW
 have fin:EP X pins σ Q w s:=#[z,H,I,rw',q]
 by_cases h0:0<=i
 ·have hj:i.toNat=j:=by
   rw[seqIndex_of h0 h5]at h1
   exact LS h1
  exact item_listR pl.isList h0 (by lia) (by rw[hj];simpa using ew) fin hs
 ·have hj:(i+(its.toArray.size:Int)).toNat=j:=by
   rw[seqIndex_neg (by lia) h4]at h1
   rw[Lu,<-hl]
   exact LS h1
  exact subscriptTail_builtinR (x:=w) pl.isList.typeIs slot_list_getitem.lookup
   (wpAny_getItem_list_neg (Q:=λr s'=>r=w/\EP X pins σ Q r s') pl.isList (by lia) (by rw[Lu] <;> lia) (by lia) (by rw[hj];simpa using ew) #[rfl,fin]) hs
def cL:Iv X (KP X.K):=by
 intro value slice pins s σ H x y v u Q I rx ry h hs
 obtain⟨p,xs,i,z,rfl,rfl,hq,he,q⟩:=h
 cases rx
 obtain⟨t,rfl⟩:=ry
 obtain⟨its,r,pl,hz⟩:=I.tuple hq
 obtain⟨j,h1,h2,h3,h4,h5⟩:=sC he
 obtain⟨w,ew,rw'⟩:=r.get h2
 have hl:=r.length
 have hn:=kW
 have fin:EP X pins σ Q w s:=#[z,H,I,rw',q]
 exact subscriptTail_builtinR (x:=w) pl.typeIs slot_tuple_getitem.lookup
  (getItem_tuple (j:=j) (Q:=λr s'=>r=w/\EP X pins σ Q r s') pl (by lia) (by lia) (by rw[Lu,<-hl];exact h1) (by simpa using ew) #[rfl,fin]) hs
def Co:Iv X Kp:=by
 intro value slice pins s σ H x y v u Q I rx ry h hs
 obtain⟨z,i,c,rfl,rfl,hz,he,q⟩:=h
 obtain⟨t,rfl⟩:=rx
 obtain⟨t',rfl⟩:=ry
 obtain⟨j,h1,h2,h3,h4,h5⟩:=sC he
 have hl:z.cps.toList.length=z.length:=by simp[Str.length]
 rw[hl]at h1 h4 h5
 have hn:=kW
 exact tail_any (Qk s z t) slot_str_getitem.lookup (getItem_str (c:=c) (by
  have e1:decide (i < -(2 ^ 63:Int))=false:=Lq (by lia)
  have e2:decide (i>=2 ^ 63)=false:=Lq (by lia)
  rw[e1,e2,NK]) (by rw[h1];simpa using h2) #[.str #[(List.toArray [c])],H,I.tok _,#[_,rfl],q]) hs
def vI(its:List Value)(n j:Nat)(u:Value):Obj.mapSeq (·.setIfInBounds j u) { cls:=.type "list",data:=.seq its.toArray n }={ cls:=.type "list",data:=.seq (its.set j u).toArray n }:=by
 simp[Obj.mapSeq]
theorem Inv.lst{pins:List (Addr×Obj)}{σ:St}{H:Hp}{s:Shared}{p:Addr}{xs:List V}(I:Inv X pins σ H s)(h:H p=some (.lst xs)) :
  ∃(its:List Value) (n:Nat),Vals xs its/\s.heap.get? p=some { cls:=.type "list",data:=.seq its.toArray n }/\xs.length<=sizeLine:=by
 obtain⟨z,its,n,r,e⟩:=I.hok p _ h
 exact#[its,n,r,e,z]
def Inv.Ha{pins:List (Addr×Obj)}{σ:St}{H:Hp}{s:Shared}{p:Addr}{xs ys:List V}{its its':List Value}{n n':Nat}{f:Obj->Obj}(I:Inv X pins σ H s)(h:H p=some (.lst xs))
  (ho:s.heap.get? p=some { cls:=.type "list",data:=.seq its.toArray n }) (hf:f { cls:=.type "list",data:=.seq its.toArray n }={ cls:=.type "list",data:=.seq its'.toArray n' }) (r:Vals ys its') (hz:ys.length<=sizeLine) (t:Nat) :
  Inv X pins σ (upd H p (.lst ys)) { s with heap:=s.heap.update p f,toks:=t }:=by
 have e:(s.heap.update p f).get? p=some { cls:=.type "list",data:=.seq its'.toArray n' }:=by
  rw[MR f ho (by rw[hf] <;> rfl),hf]
 apply I.write (x:=p) (e:=p) (by rw[h];trivial) (.inl rfl) (λb u hb q=>(MK _ _ (LO hb)).trans q) #[_,e] ?_
 exact#[hz,its',n',r,e]
def HI:V->V->V->Hp->(Hp->Prop)->Prop:=λo i v H Q=>∃p xs k j,o=.ref p/\i=.int k/\H p=some (.lst xs)/\zZ xs.length k=some j/\Q (upd H p (.lst (xs.set j v)))
def set_list:HQ X HI:=by
 intro pins s σ H o i v ov iv u Q I ro ri rv h
 obtain⟨p,xs,k,j,rfl,rfl,hp,hj,q⟩:=h
 cases ro
 obtain⟨t,rfl⟩:=ri
 obtain⟨its,n,r,ho,hz⟩:=I.lst hp
 obtain⟨h1,h2,h3,h4⟩:=ye hj
 have hl:=r.length
 have hn:=kW
 have I':Inv X pins σ (upd H p (.lst (xs.set j v))) { s with heap:=s.heap.update p (Obj.mapSeq (·.setIfInBounds j u)) } :=
  I.Ha hp ho (vI its n j u) (r.set rv j) (by rw[List.length_set];exact hz) s.toks
 by_cases h0:0<=k
 ·have hk:k.toNat=j:=by
   rw[seqIndex_of h0 h4]at h1
   exact LS h1
  exact PySem.W.ki_setAt ho h0 (by lia) (by rw[Lu,<-hl];exact h4) (by rw[hk];exact#[_,I',q])
 ·have hk:(k+(its.toArray.size:Int)).toNat=j:=by
   rw[seqIndex_neg (by lia) h3]at h1
   rw[Lu,<-hl]
   exact LS h1
  exact PySem.W.ki_setBack ho (by lia) (by rw[Lu,<-hl];exact h3) (by lia) (by rw[hk];exact#[_,I',q])
def sx(lo hi:Option Int)(n:Nat):(sliceBounds lo hi none n).1=((HT.dO n 0 lo:Nat):Int)/\(sliceBounds lo hi none n).2.1=((HT.dO n n hi:Nat):Int)/\(sliceBounds lo hi none n).2.2=1:=by
 apply#[?_,?_,rfl]
 ·cases lo with
  |none=>simp[sliceBounds,HT.dO]
  |some i =>
   simp only[sliceBounds,HT.dO,Option.getD_none,show(1:Int) > 0 by decide,Od]
   by_cases h:i<0
   ·simp only[h,Od] <;> lia
   ·simp only[h,MT] <;> lia
 ·cases hi with
  |none=>simp[sliceBounds,HT.dO]
  |some i =>
   simp only[sliceBounds,HT.dO,Option.getD_none,show(1:Int) > 0 by decide,Od]
   by_cases h:i<0
   ·simp only[h,Od] <;> lia
   ·simp only[h,MT] <;> lia
def pf(its:List Value)(lo hi:Option Int):slicePick its.toArray lo hi none=((its.drop (HT.dO its.length 0 lo)).take (HT.dO its.length its.length hi-HT.dO its.length 0 lo)).toArray:=by
 obtain⟨h1,h2,h3⟩:=sx lo hi its.toArray.size
 unfold slicePick
 rw[h1,h2,h3]
 simp only[sliceRange_one,pick_run,Lu] <;> rfl
inductive Kv(K:PySem.W.Frag)(x:V)(lo hi:Option Int)(H:Hp)(Q:VK):Prop
 |mk (a:Addr) (xs:List V) (e:x=.ref a) (h:aH K H a xs) (k:∀p,H p=none->Q (.ref p) (upd H p (.lst (dR xs lo hi))))
def KU(K:PySem.W.Frag):V->Option Int->Option Int->Hp->VK->Prop:=Kv K
def cT:HN X (KU X.K):=by
 intro pins s σ H x v vl vu lo hi sl Q I rx hs pl pu h
 obtain⟨a,xs,rfl,hx,q⟩:=h
 cases rx
 obtain⟨its,r,ht,hz⟩:=I.list hx
 have hlen:=r.length
 apply#["list",_,slot_list_getitem.lookup,ht.isList.typeIs,?_]
 apply wpAny_getItem_list_slice ht.isList hs pl pu .none (by simp) ?_ (by rw[Lu] <;> lia)
 rw[pf,<-hlen]
 apply#[.ref s.heap.objs.size,_,I.laid (t':=s.toks) (o:=.lst (dR xs lo hi)) (λb ob q=>K8 _ q) (La _) ?_,rfl,q _ (I.hok.fresh (La _))]
 exact#[LM (lR xs lo hi) hz,_,0,(r.drop (HT.dO xs.length 0 lo)).take (HT.dO xs.length xs.length hi-HT.dO xs.length 0 lo),Ly _ rfl]
def gE:V->Bool
 |.non=>true
 |.bl _=>true
 |.int _=>true
 |.str _=>true
 |_=>false
def ue:V->V->Bool
 |.non,.non=>true
 |.bl a,.bl b=>a==b
 |.bl a,.int b=>(if a then 1 else 0)==b
 |.int a,.bl b=>a==(if b then 1 else 0)
 |.int a,.int b=>a==b
 |.str a,.str b=>a==b
 |_,_=>false
def iV{A:Around}{s:Shared}{y x:V}{u v:Value}(ry:RelV y u)(rx:RelV x v)(fy:gE y=true)(fx:gE x=true):SeqAt.EqAt A s u v (ue y x):=by
 cases y with
 |non =>
  cases ry
  cases x with
  |non=>cases rx;exact NP _
  |bl b=>cases rx;exact SeqAt.EqAt.none_bool b
  |int b=>obtain⟨t,rfl⟩:=rx;exact SeqAt.EqAt.none_int b t
  |str b=>obtain⟨t,rfl⟩:=rx;exact SeqAt.EqAt.none_str b t
  |_=>exact absurd (show false=true from fx) LI
 |bl a =>
  cases ry
  cases x with
  |non=>cases rx;exact SeqAt.EqAt.bool_none a
  |bl b=>cases rx;exact SeqAt.EqAt.bool_bool a b
  |int b=>obtain⟨t,rfl⟩:=rx;exact SeqAt.EqAt.bool_int a b t
  |str b=>obtain⟨t,rfl⟩:=rx;exact SeqAt.EqAt.bool_str a b t
  |_=>exact absurd (show false=true from fx) LI
 |int a =>
  obtain⟨t',rfl⟩:=ry
  cases x with
  |non=>cases rx;exact SeqAt.EqAt.int_none a t'
  |bl b=>cases rx;exact SeqAt.EqAt.int_bool a t' b
  |int b=>obtain⟨t,rfl⟩:=rx;exact SeqAt.EqAt.int_int a t' b t
  |str b=>obtain⟨t,rfl⟩:=rx;exact SeqAt.EqAt.int_str a t' b t
  |_=>exact absurd (show false=true from fx) LI
 |str a =>
  obtain⟨t',rfl⟩:=ry
  cases x with
  |non=>cases rx;exact SeqAt.EqAt.str_none a t'
  |bl b=>cases rx;exact SeqAt.EqAt.str_bool a t' b
  |int b=>obtain⟨t,rfl⟩:=rx;exact SeqAt.EqAt.str_int a t' b t
  |str b=>obtain⟨t,rfl⟩:=rx;exact SeqAt.EqAt.str_str a t' b t
  |_=>exact absurd (show false=true from fx) LI
 |_=>exact absurd (show false=true from fy) LI
def vk(x:V)(u:Value):Bool:=match u with
 |.none=>ue .non x
 |.bool b=>ue (.bl b) x
 |.int i _=>ue (.int i) x
 |.str z _=>ue (.str z) x
 |_=>false
def BY{x y:V}{u:Value}(r:RelV y u)(f:gE y=true):vk x u=ue y x:=by
 cases y with
 |non=>cases r;rfl
 |bl b=>cases r;rfl
 |int i=>obtain⟨t,rfl⟩:=r;rfl
 |str z=>obtain⟨t,rfl⟩:=r;rfl
 |_=>exact absurd (show false=true from f) LI
theorem jS{x:V}:∀{xs:List V} {us:List Value},Vals xs us->xs.all gE=true->us.any (vk x)=xs.any λy=>ue y x
 |_,_,.nil,_=>rfl
 |y::xs,u::us,.cons r t,f=>by
  rw[OL,Md]at f
  rw[Nd,Nd,BY r f.1,jS t f.2]
theorem iL{A:Around}{s:Shared}{x:V}{v:Value}(rx:RelV x v)(fx:gE x=true):∀{xs:List V} {us:List Value},Vals xs us->xs.all gE=true->∀u∈us,SeqAt.EqAt A s u v (vk x u)
 |_,_,.nil,_=>λu hu=>by cases hu
 |y::xs,u::us,.cons r t,f=>λu' hu=>by
  rw[OL,Md]at f
  rcases Lc.mp hu with rfl|hu
  ·rw[BY r f.1];exact iV r rx f.1 fx
  ·exact iL rx fx t f.2 u' hu
def Gm(x:V)(xs:List V):Bool:=xs.any λy=>ue y x
def rIn(K:PySem.W.Frag)(neg:Bool):R2:=λx y H Q=>∃p xs,y=.ref p/\(aH K H p xs\/cz K H p xs)/\gE x=true/\xs.all gE=true/\Q (.bl (if neg then !Gm x xs else Gm x xs)) H
def k8:gW X (compareOp .In) (rIn X.K false):=by
 intro pins s σ H x y v u Q I rx ry h
 obtain⟨p,xs,rfl,hq,fx,fs,q⟩:=h
 cases ry
 rcases hq with hq|hq
 ·obtain⟨its,r,pl,hz⟩:=I.list hq
  apply SeqAt.in_listAt (vk x) pl.isList (λw hw=>iL rx fx r fs w (by simpa using hw)) #[.bl _,H,I,rfl,?_]
  rw[show its.toArray.any (vk x)=its.any (vk x) by simp,jS r fs]
  exact q
 ·obtain⟨its,r,pl,hz⟩:=I.tuple hq
  apply SeqAt.in_tupleAt (vk x) pl (λw hw=>iL rx fx r fs w (by simpa using hw)) #[.bl _,H,I,rfl,?_]
  rw[show its.toArray.any (vk x)=its.any (vk x) by simp,jS r fs]
  exact q
def fX:gW X (compareOp .NotIn) (rIn X.K true):=by
 intro pins s σ H x y v u Q I rx ry h
 obtain⟨p,xs,rfl,hq,fx,fs,q⟩:=h
 cases ry
 rcases hq with hq|hq
 ·obtain⟨its,r,pl,hz⟩:=I.list hq
  apply Pd (vk x) pl.isList (λw hw=>iL rx fx r fs w (by simpa using hw)) #[.bl _,H,I,rfl,?_]
  rw[show its.toArray.any (vk x)=its.any (vk x) by simp,jS r fs]
  exact q
 ·obtain⟨its,r,pl,hz⟩:=I.tuple hq
  apply SeqAt.notIn_tupleAt (vk x) pl (λw hw=>iL rx fx r fs w (by simpa using hw)) #[.bl _,H,I,rfl,?_]
  rw[show its.toArray.any (vk x)=its.any (vk x) by simp,jS r fs]
  exact q
def bF:fR X (.type "list") (λxs H Q=>∃p ys,xs=[.ref p]/\(aH X.K H p ys\/cz X.K H p ys)/\∀l,H l=none->Q (.ref l) (upd H l (.lst ys))):=by
 intro pins s σ H xs us Q I r h
 obtain⟨p,ys,rfl,hq,q⟩:=h
 obtain⟨u,rfl,rx⟩:=vals1 r
 cases rx
 have fin:∀(its:List Value),Vals ys its->ys.length<=sizeLine->∀(h':Heap) (c':Nat),(∀b o',s.heap.get? b=some o'->h'.get? b=some o') ->
   h'.get? s.heap.objs.size=some { cls:=.type "list",dict:=none,data:=.seq its.toArray c',slots:=#[] }->EP X pins σ Q (.ref s.heap.objs.size) { s with heap:=h' }:=λits r' hz h' c' kp e =>
  #[.ref s.heap.objs.size,_,I.laid (t':=s.toks) kp (La _) (show cw X.prog X.w _ h' _ (.lst ys) from#[hz,its,c',r',e]),rfl,q _ (I.hok.fresh (La _))]
 rcases hq with hq|hq
 ·obtain⟨its,r',pl,hz⟩:=I.list hq
  have hlen:=r'.length
  obtain⟨o,ho,hc,n,hd⟩:=pl.isList
  exact call_list_seq p (.inl rfl) ho hc hd (λh' c' kp e=>fin its r' hz h' c' kp e) (by simp only[Lu] <;> lia)
 ·obtain⟨its,r',pl,hz⟩:=I.tuple hq
  have hlen:=r'.length
  obtain⟨o,ho,hc,n,hd⟩:=pl
  exact call_list_seq p (.inr rfl) ho hc hd (λh' c' kp e=>fin its r' hz h' c' kp e) (by simp only[Lu] <;> lia)
def cj:fR X (.type "tuple") (λxs H Q=>∃p ys,xs=[.ref p]/\((aH X.K H p ys/\∀l,H l=none->Q (.ref l) (upd H l (.tup ys)))\/(cz X.K H p ys/\Q (.ref p) H))):=by
 intro pins s σ H xs us Q I r h
 obtain⟨p,ys,rfl,h⟩:=h
 obtain⟨u,rfl,rx⟩:=vals1 r
 cases rx
 rcases h with⟨hq,q⟩|⟨hq,q⟩
 ·obtain⟨its,r',pl,hz⟩:=I.list hq
  have hlen:=r'.length
  apply call_tuple_list pl.isList (λh' kp=>?_) (by simp only[Lu] <;> lia)
  have I1:Inv X pins σ H { s with heap:=h' }:=I.kept (t':=s.toks) kp
  have I2:Inv X pins σ (upd H h'.objs.size (.tup ys)) { s with heap:=h'.push { cls:=.type "tuple",data:=.seq its.toArray } } :=
   I1.laid (t':=s.toks) (λb o e=>K8 _ e) (La _) (show cw X.prog X.w _ _ _ (.tup ys) from#[hz,its,r',IsTup.new _ _])
  exact#[.ref h'.objs.size,_,I2,rfl,q _ (I1.hok.fresh (La _))]
 ·obtain⟨its,r',pl,hz⟩:=I.tuple hq
  exact call_tuple_same pl #[.ref p,H,I,rfl,q]
def KJ(K:PySem.W.Frag)(T:String)(x:V)(H:Hp):Prop:=match x with
 |.str _=>T="str"
 |.int _=>T="int"
 |.ref p=>(T="list"/\∃xs,aH K H p xs)\/(T="tuple"/\∃o,K.lookup p=some o/\o.cls=.type "tuple"/\o.dict=none) \/
   (T="dict"/\((∃kvs,H p=some (.dK kvs))\/∃kvs,H p=some (.dT kvs)))\/(T="set"/\∃S n,H p=some (.set S n))
 |_=>False
def CG{pins:List (Addr×Obj)}{σ:St}{H:Hp}{s:Shared}{T:String}{x:V}{v:Value}(I:Inv X pins σ H s)(r:RelV x v)(ty:KJ X.K T x H) :
  s.TypeIs v T/\∀a,v=.ref a->∃ob,s.heap.get? a=some ob/\ob.dict=none:=by
 cases x with
 |str z =>
  obtain⟨t,rfl⟩:=r
  cases (show T="str" from ty)
  exact#[Qk s z t,λ_ e=>nomatch e]
 |int i =>
  obtain⟨t,rfl⟩:=r
  cases (show T="int" from ty)
  exact#[typeIs_int s i t,λ_ e=>nomatch e]
 |ref p =>
  cases r
  rcases ty with⟨rfl,xs,hq⟩|⟨rfl,o,hk,hc,hd⟩|⟨rfl,hk⟩|⟨rfl,S,n,hk⟩
  ·obtain⟨its,_,pl,_⟩:=I.list hq
   apply#[pl.isList.typeIs,λa e=>?_]
   cases e
   obtain⟨o,n,e,c,hd,_⟩:=pl
   exact#[o,e,hd]
  ·apply⟨⟨o,I.me p o hk,hc⟩,λa e=>?_⟩
   cases e
   exact#[o,I.me _ o hk,hd]
  ·have z:∃o,s.heap.get? p=some o/\o.ExactDict:=by
    rcases hk with⟨kvs,hk⟩|⟨kvs,hk⟩
    ·obtain⟨_,_,_,_,o,_,_,e,ex,_⟩:=I.hok p _ hk
     exact#[o,e,ex]
    ·obtain⟨_,_,_,_,o,_,_,e,ex,_⟩:=I.hok p _ hk
     exact#[o,e,ex]
   obtain⟨o,e,ex⟩:=z
   apply#[#[o,e,ex.1],λa e2=>?_]
   cases e2
   exact#[o,e,ex.2.1]
  ·obtain⟨o,_,_,_,e,ex,_⟩:=I.hok p _ hk
   apply#[#[o,e,ex.1],λa e2=>?_]
   cases e2
   exact#[o,e,ex.2.1]
 |_=>exact False.elim ty
def Kg(K:PySem.W.Frag)(T:String)(r:V->List V->Hp->VK->Prop)(to:TE):TE:=λσ H Q=>to σ H λx H1=>KJ K T x H1/\r x [] H1 Q
def tBM(K:PySem.W.Frag)(T:String)(r:V->List V->Hp->VK->Prop)(to:TE)(t:TA):TE:=λσ H Q=>to σ H λx H1=>KJ K T x H1/\t σ H1 λxs H2=>r x xs H2 Q
variable {o e:Expr}{es:List Expr}{to:TE}{t:TA}{name:Str}{apos cpos:Pos}{T id:String}{r:V->List V->Hp->VK->Prop}
def vm(pa:PlainAttrs T)(slot:Slot T name id)(hty:typeOf (.builtin id)=pure (.type "method_descriptor"))(hm:MtR X id r)(ho:PE X o to)
  (hbase:attributeBase o name X.env (eval o X.env)=eval o X.env:=by rfl) (hline:(apos.endLine==cpos.line)=true:=by rfl):PE X (.Call (.Attribute o name apos) [] [] cpos) (Kg X.K T r to):=by
 intro pins s σ H Q I h
 apply PL hbase hline (cD (ho pins s σ H _ I h) λv s1 hZ=>?_)
 obtain⟨x,H1,I1,r1,ty,q1⟩:=hZ
 obtain⟨h1,h2⟩:=CG I1 r1 ty
 exact#[T,id,pa,slot,hty,h1,h2,OI rfl (Qu (hm pins s1 σ H1 x [] v [] Q I1 r1 .nil q1))]
def df(pa:PlainAttrs T)(slot:Slot T name id)(hty:typeOf (.builtin id)=pure (.type "method_descriptor"))(hm:MtR X id r)(ho:PE X o to)(ha:PA X (e::es) t)
  (hbase:attributeBase o name X.env (eval o X.env)=eval o X.env:=by rfl)
  (hfew:((backTo cpos (starEach (e :: es) X.env)).all (λx=>!x.1) && (backToKw cpos (keywordEach [] X.env)).all (λx=>x.1.isSome)
   && decide ((e::es).length+([]:List Keyword).length+(if ([]:List Keyword).isEmpty then 0 else 1)<30))=true:=by rfl)
  (hline:(apos.endLine==cpos.line)=true:=by rfl) (hs:starEach (e::es) X.env=(false,eval e X.env)::starEach es X.env:=by rfl) (hplain:(backTo cpos (starEach es X.env)).any (·.1)=false:=by rfl) :
  PE X (.Call (.Attribute o name apos) (e::es) [] cpos) (tBM X.K T r to t):=by
 intro pins s σ H Q I h
 apply wpAny_Call_method_late hbase hfew hline rfl (cD (ho pins s σ H _ I h) λv s1 hZ=>?_)
 obtain⟨x,H1,I1,r1,ty,q1⟩:=hZ
 obtain⟨h1,h2⟩:=CG I1 r1 ty
 apply#[T,id,pa,slot,hty,h1,h2,?_]
 have hA:=ha cpos pins s1 σ H1 _ I1 q1
 rw[hs]at hA ⊢
 apply OI (by show(false || (backTo cpos (starEach es X.env)).any (·.1))=false;rw[hplain] <;> rfl) (Calls.evalArgs_plain ?_)
 exact cD hA λus s2 #[vs,H2,I2,r2,q2]=>hm pins s2 σ H2 x vs v us Q I2 r1 r2 q2
end
def Ia(X:Cx)(id:String)(r:V->List V->Hp->VK->Prop):Prop :=
 ∀(pins:List (Addr×Obj)) (s:Shared) (σ:St) (H:Hp) (x:V) (xs:List V) (v:Value) (us:List Value) (Q:VK),Inv X pins σ H s->RelV x v->Vals xs us->r x xs H Q ->
  wpAny (model X.prog X.w) X.A (call (.builtin id) (v::us)) (EP X pins σ Q) X.xe s
def Vals.one{x:V}{us:List Value}(h:Vals [x] us):∃u,us=[u]/\RelV x u:=by
 cases h with
 |cons r q =>
  cases q
  exact#[Z,r]
def Vals.two{x y:V}{us:List Value}(h:Vals [x,y] us):∃u v,us=[u,v]/\RelV x u/\RelV y v:=vals2 h
def Vals.zero:∀{us:List Value},Vals [] us->us=[]
 |_,.nil=>rfl
theorem Vals.reverse{xs:List V}{us:List Value}(h:Vals xs us):Vals xs.reverse us.reverse:=by
 induction h with
 |nil=>exact .nil
 |cons r t ih=>rw[List.reverse_cons,List.reverse_cons];exact Vals.append ih (.cons r .nil)
section
variable {X:Cx}{pins:List (Addr×Obj)}{σ:St}{H:Hp}{s:Shared}{l b:Addr}{xs ys zs:List V}
def Inv.C8{its its':List Value}{n:Nat}{f:Array Value->Array Value}{t':Nat}(I:Inv X pins σ H s)(hH:H l=some (.lst xs))
  (e:s.heap.get? l=some { cls:=.type "list",data:=.seq its.toArray n }) (hf:f its.toArray=its'.toArray) (hv:Vals ys its') (hz:ys.length<=sizeLine) :
  Inv X pins σ (upd H l (.lst ys)) { s with heap:=s.heap.update l (Obj.mapSeq f),toks:=t' }:=by
 have q:=PySem.IsL.update e f
 rw[hf]at q
 apply I.write (x:=l) (e:=l) (by rw[hH];exact trivial) (.inl rfl) (λb' u hb hu=>(MK s.heap (Obj.mapSeq f) (LO hb)).trans hu) #[_,q] ?_
 exact#[hz,its',_,hv,q]
def Inv.GZ{its:List Value}{t':Nat}(I:Inv X pins σ H s)(hv:Vals ys its)(hz:ys.length<=sizeLine) :
  Inv X pins σ (upd H s.heap.objs.size (.lst ys)) { s with heap:=s.heap.push { cls:=.type "list",data:=.seq its.toArray },toks:=t' } :=
 I.laid (λ_ _ q=>K8 _ q) (La _) #[hz,its,0,hv,Ly _ rfl]
theorem Inv.fresh(I:Inv X pins σ H s):H s.heap.objs.size=none:=I.hok.fresh (La _)
def Inv.uQ(I:Inv X pins σ H s)(hH:H l=some (.lst xs)):xs.length<=sizeLine/\∃(its:List Value) (n:Nat),Vals xs its/\xs.length=its.length/\s.heap.get? l=some { cls:=.type "list",data:=.seq its.toArray n }:=by
 obtain⟨z,its,n,r,e⟩:=I.hok l _ hH
 exact#[z,its,n,r,r.length,e]
def CF{n:Nat}(h:n<=sizeLine):Builtin.List.listTooLong n=false:=by
 unfold Builtin.List.listTooLong
 exact Lq (by lia)
end
section
variable {X:Cx}
inductive KR(x:V)(vs:List V)(H:Hp)(Q:VK):Prop
 |mk (l:Addr) (xs:List V) (y:V) (e1:x=.ref l) (e2:vs=[y]) (h:H l=some (.lst xs)) (z:xs.length<sizeLine) (k:Q .non (upd H l (.lst (xs++[y]))))
def Er:V->List V->Hp->VK->Prop:=KR
def bb:Ia X "list.append" Er:=by
 intro pins s σ H x vs v us Q I rx rv h
 obtain⟨l,xs,y,rfl,rfl,hH,hz,q⟩:=h
 cases rx
 obtain⟨u,rfl,ru⟩:=rv.one
 obtain⟨z,its,n,r,hl,e⟩:=I.uQ hH
 apply Pp F.slot_list_append #[_,e,rfl] F.entry_list_append (F.args_list_append_2 _ _) (PySem.list_append l its.toArray n u (by rw[Lu];lia)) #[e,?_]
 apply#[.non,_,I.C8 (its':=its++[u]) hH e (by simp) (r.append (.cons ru .nil)) ?_,rfl,q]
 rw[K5,Np]
 lia
def E9:V->List V->Hp->VK->Prop:=λx vs H Q=>∃l b xs zs,x=.ref l/\vs=[.ref b]/\H l=some (.lst xs)/\H b=some (.lst zs)/\xs.length+zs.length<=sizeLine/\Q .non (upd H l (.lst (xs++zs)))
def zO:Ia X "list.extend" E9:=by
 intro pins s σ H x vs v us Q I rx rv h
 obtain⟨l,b,xs,zs,rfl,rfl,hH,hB,hz,q⟩:=h
 cases rx
 obtain⟨u,rfl,ru⟩:=rv.one
 cases ru
 obtain⟨z,its,n,r,hl,e⟩:=I.uQ hH
 obtain⟨z2,its2,n2,r2,hl2,e2⟩:=I.uQ hB
 have hsz:its.toArray.size+its2.toArray.size<=sizeLine:=by rw[Lu,Lu];lia
 have hlong:¬(!its.toArray.isEmpty&&Builtin.List.listTooLong (its.toArray.size+its2.toArray.size))=true:=by
  rw[CF hsz,OA]
  exact LI
 apply Pp F.slot_list_extend #[_,e,rfl] F.entry_list_extend (F.args_list_extend_2 _ _)
  (AutoSeq1.list_extend_list_list_0 l its.toArray n b its2.toArray n2 hlong (by rw[Lu];lia) (by lia)) #[e,e2,?_]
 apply#[.non,_,I.C8 (its':=its++its2) hH e (by simp) (r.append r2) ?_,rfl,q]
 rw[K5]
 lia
def CJ:V->List V->Hp->VK->Prop:=λx vs H Q=>∃l xs,x=.ref l/\vs=[]/\H l=some (.lst xs)/\Q .non (upd H l (.lst xs.reverse))
def wg:Ia X "list.reverse" CJ:=by
 intro pins s σ H x vs v us Q I rx rv h
 obtain⟨l,xs,rfl,rfl,hH,q⟩:=h
 cases rx
 have hus:=rv.zero
 subst hus
 obtain⟨z,its,n,r,hl,e⟩:=I.uQ hH
 apply Pp F.slot_list_reverse #[_,e,rfl] F.entry_list_reverse (F.args_list_reverse_1 _) (AutoSeq1.list_reverse_list_0 l its.toArray n (by rw[Lu];lia)) #[e,?_]
 apply#[.non,_,I.C8 (its':=its.reverse) hH e (by simp) r.reverse ?_,rfl,q]
 rw[List.length_reverse]
 lia
def GD:V->List V->Hp->VK->Prop:=λx vs H Q=>∃l xs,x=.ref l/\vs=[]/\H l=some (.lst xs)/\Q .non (upd H l (.lst []))
def Cm:Ia X "list.clear" GD:=by
 intro pins s σ H x vs v us Q I rx rv h
 obtain⟨l,xs,rfl,rfl,hH,q⟩:=h
 cases rx
 have hus:=rv.zero
 subst hus
 obtain⟨z,its,n,r,hl,e⟩:=I.uQ hH
 apply Pp F.slot_list_clear #[_,e,rfl] F.entry_list_clear (F.args_list_clear_1 _) (AutoSeq1.list_clear_list_0 l its.toArray n (by rw[Lu];lia)) #[e,?_]
 exact#[.non,_,I.C8 (its':=[]) (ys:=[]) hH e rfl .nil (LA _),rfl,q]
inductive KH(x y:V)(H:Hp)(Q:VK):Prop
 |mk (l b:Addr) (xs zs:List V) (e1:x=.ref l) (e2:y=.ref b) (h1:H l=some (.lst xs)) (h2:H b=some (.lst zs)) (z:xs.length+zs.length<=sizeLine) (k:∀p,H p=none->Q (.ref p) (upd H p (.lst (xs++zs))))
def Jz:R2:=KH
def eC:gW X (binaryOp .Add) Jz:=by
 intro pins s σ H x y v u Q I rx ry h
 obtain⟨l,b,xs,zs,rfl,rfl,hH,hB,hz,q⟩:=h
 cases rx
 cases ry
 obtain⟨z,its,n,r,hl,e⟩:=I.uQ hH
 obtain⟨z2,its2,n2,r2,hl2,e2⟩:=I.uQ hB
 apply PySem.P.add_list e e2 ?_ (by rw[Lu,Lu];lia)
 have ea:its.toArray++its2.toArray=(its++its2).toArray:=by simp
 rw[ea]
 exact#[.ref _,_,I.GZ (t':=s.toks) (r.append r2) (by rw[K5];lia),rfl,q _ I.fresh]
end
section
variable {X:Cx}
end
section
variable {κ:Type}[DecidableEq κ]
def dE(kvs:List (κ×V))(k:κ):Option V:=(kvs.find? λkv=>decide (kv.1=k)).map (·.2)
def putK(kvs:List (κ×V))(k:κ)(v:V):List (κ×V) :=
 if (kvs.any λkv=>decide (kv.1=k))=true then kvs.map (λkv=>if kv.1=k then(kv.1,v) else kv) else kvs++[(k,v)]
def cx{p:κ×V}{r:List (κ×V)}{k:κ}(e:p.1=k):dE (p::r) k=some p.2:=by simp[dE,Nq,e]
def bA{p:κ×V}{r:List (κ×V)}{k:κ}(e:¬p.1=k):dE (p::r) k=dE r k:=by simp[dE,Nq,e]
theorem iY(k:κ):∀kvs:List (κ×V),(kvs.any λkv=>decide (kv.1=k))=(dE kvs k).isSome
 |[]=>rfl
 |p::r=>by
  rw[Nd]
  by_cases e:p.1=k
  ·simp only[cx e,Lk e,Bool.true_or,Option.isSome_some]
  ·rw[bA e,Lq e,Qq];exact iY k r
theorem qE(k j:κ)(y:V):∀kvs:List (κ×V),dE kvs k=none->dE (kvs++[(k,y)]) j=if j=k then some y else dE kvs j
 |[],_=>by
  by_cases e:k=j
  ·rw[Ls e.symm];exact cx (p:=(k,y)) e
  ·rw[Le (λz=>e z.symm)];exact bA (p:=(k,y)) e
 |p::r,hn=>by
  rw[List.cons_append]
  have hk:¬p.1=k:=λz=>by rw[cx z]at hn;cases hn
  rw[bA hk]at hn
  have ih:=qE k j y r hn
  by_cases e:p.1=j
  ·rw[cx e,cx e,Le (λz=>hk (e.trans z))]
  ·rw[bA e,bA e,ih]
def iS(kvs:List (κ×V))(k:κ)(v:V):(putK kvs k v).length<=kvs.length+1:=by
 unfold putK
 split
 ·rw[K4];lia
 ·rw[K5,LN,NO];lia
def gj{kvs:List (κ×V)}{k:κ}(v:V)(h:dE kvs k=none):putK kvs k v=kvs++[(k,v)]:=by
 unfold putK
 rw[iY,h]
 exact Le (by decide)
def jn.k9{o:Option V}{u:Option Value}(r:jn o u):o.isSome=u.isSome:=by
 cases o with
 |none=>cases u with
  |none=>rfl
  |some _=>exact(show False from r).elim
 |some _=>cases u with
  |none=>exact(show False from r).elim
  |some _=>rfl
def KV.val{kvs:List (κ×V)}{vs:List (κ×Value)}(r:KV kvs vs)(k:κ):jn (dE kvs k) (valueAt vs k):=by
 unfold KV at r
 induction r with
 |nil=>exact True.intro
 |@cons p q ps qs h t ih =>
  obtain⟨h1,h2⟩:=h
  by_cases e:p.1=k
  ·have e':q.1=k:=h1.symm.trans e
   have b:valueAt (q::qs) k=some q.2:=by simp[valueAt,Nq,e']
   rw[cx e,b];exact h2
  ·have e':¬q.1=k:=λz=>e (h1.trans z)
   have b:valueAt (q::qs) k=valueAt qs k:=by simp[valueAt,Nq,e']
   rw[bA e,b];exact ih
theorem KV.any{kvs:List (κ×V)}{vs:List (κ×Value)}(r:KV kvs vs)(k:κ):(kvs.any λkv=>decide (kv.1=k))=vs.any λkv=>decide (kv.1=k):=by
 unfold KV at r
 induction r with
 |nil=>rfl
 |cons h t ih=>rw[Nd,Nd,ih,h.1]
def KV.Hl{kvs:List (κ×V)}{vs:List (κ×Value)}(r:KV kvs vs)(k:κ){y:V}{u:Value}(ry:RelV y u) :
  KV (kvs.map λkv=>if kv.1=k then(kv.1,y) else kv) (vs.map λkv=>if kv.1=k then(kv.1,u) else kv):=by
 unfold KV at r ⊢
 induction r with
 |nil=>exact .nil
 |@cons p q ps qs h t ih =>
  rw[Mh,Mh]
  apply .cons ?_ ih
  obtain⟨h1,h2⟩:=h
  by_cases e:p.1=k
  ·rw[Ls e,Ls (h1.symm.trans e)];exact#[h1,ry]
  ·rw[Le e,Le (λz=>e (h1.trans z))];exact#[h1,h2]
def KV.put{kvs:List (κ×V)}{vs:List (κ×Value)}(r:KV kvs vs)(k:κ){y:V}{u:Value}(ry:RelV y u):KV (putK kvs k y) (stored vs k u):=by
 unfold putK stored
 rw[r.any k]
 by_cases e:(vs.any λkv=>decide (kv.1=k))=true
 ·rw[Ls e,Ls e];exact r.Hl k ry
 ·rw[Le e,Le e];exact ML r #[rfl,ry]
def KV.keys{kvs:List (κ×V)}{vs:List (κ×Value)}(r:KV kvs vs):kvs.map (·.1)=vs.map (·.1):=by
 unfold KV at r
 induction r with
 |nil=>rfl
 |cons h t ih=>rw[Mh,Mh,ih,h.1]
theorem KV.length{kvs:List (κ×V)}{vs:List (κ×Value)}(r:KV kvs vs):kvs.length=vs.length:=Lz r
end
def oA{P:Program}{w:World}{k:Key}{u:Value}(r:RelV (kV k) u):(aV P w).is k u=true:=by
 cases k with
 |inl i=>obtain⟨t,e⟩:=(show ∃t,u=Value.int i t from r);subst e;exact tZ P w i t
 |inr x=>obtain⟨t,e⟩:=(show ∃t,u=Value.str x t from r);subst e;exact sF P w x t
theorem qt{P:Program}{w:World}:∀{ks:List Key} {us:List Value},Vals (ks.map kV) us->ItemsAre (aV P w) ks us
 |[],_,r=>by rw[Px]at r;cases r;exact .nil
 |k::ks,_,r=>by
  rw[Mh]at r
  cases r with
  |cons h t=>exact .cons (oA h) (qt t)
abbrev KT(H:Hp):List (List Key×V)->List (List Key×Addr×Value)->Prop:=Paired λp q=>p.1=q.1/\H q.2.1=some (.tup (p.1.map kV))/\RelV p.2 q.2.2
def KT.val{H:Hp}{kvs:List (List Key×V)}{xs:List (List Key×Addr×Value)}(r:KT H kvs xs)(k:List Key):jn (dE kvs k) ((atKey xs k).map (·.2)):=by
 induction r with
 |nil=>exact True.intro
 |@cons p q ps qs h t ih =>
  obtain⟨h1,_,h2⟩:=h
  by_cases e:p.1=k
  ·have e':q.1=k:=h1.symm.trans e
   have b:atKey (q::qs) k=some q.2:=by simp[atKey,Nq,e']
   rw[cx e,b];exact h2
  ·have e':¬q.1=k:=λz=>e (h1.trans z)
   have b:atKey (q::qs) k=atKey qs k:=by simp[atKey,Nq,e']
   rw[bA e,b];exact ih
def KT.Hl{H:Hp}{kvs:List (List Key×V)}{xs:List (List Key×Addr×Value)}(r:KT H kvs xs)(k:List Key){y:V}{u:Value}(ry:RelV y u) :
  KT H (kvs.map λkv=>if kv.1=k then(kv.1,y) else kv) (xs.map (putAt k u)):=by
 induction r with
 |nil=>exact .nil
 |@cons p q ps qs h t ih =>
  rw[Mh,Mh]
  apply .cons ?_ ih
  obtain⟨h1,h2,h3⟩:=h
  unfold putAt
  by_cases e:p.1=k
  ·rw[Ls e,Ls (h1.symm.trans e)];exact#[h1,h2,ry]
  ·rw[Le e,Le (λz=>e (h1.trans z))];exact#[h1,h2,h3]
def KT.put{H:Hp}{kvs:List (List Key×V)}{xs:List (List Key×Addr×Value)}(r:KT H kvs xs)(k:List Key){b:Addr}{y:V}{u:Value}(hb:H b=some (.tup (k.map kV)))(ry:RelV y u) :
  KT H (putK kvs k y) (storedH xs k b u):=by
 have e:(kvs.any λkv=>decide (kv.1=k))=(atKey xs k).isSome:=by
  rw[iY,(r.val k).k9,Po]
 unfold putK storedH
 rw[e]
 by_cases q:(atKey xs k).isSome=true
 ·rw[Ls q,Ls q];exact r.Hl k ry
 ·rw[Le q,Le q];exact ML r #[rfl,hb,ry]
def KT.keeps{H H':Hp}{kvs:List (List Key×V)}{xs:List (List Key×Addr×Value)}(r:KT H kvs xs)(ht:∀b ys,H b=some (.tup ys)->H' b=some (.tup ys)):KT H' kvs xs :=
 Paired.cc r λ_ _ z=>#[z.1,ht _ _ z.2.1,z.2.2]
section
variable {P:Program}{w:World}{H:Hp}{h:Heap}{a:Addr}
def FH{u:HO}(ok:jy P w H h)(e:Rd H a u):cw P w H h a u:=e.ok ok
def pY{kvs:List (Key×V)}(ok:jy P w H h)(e:Rd H a (.dK kvs)):kvs.length<=sizeLine/\(a==sysModules)=false/\∃vs,KV kvs vs/\h.DictOf (aV P w) a vs :=
 show cw P w H h a (.dK kvs) from FH ok e
def yF{kvs:List (Key×V)}(ok:jy P w H h)(e:H a=some (.dK kvs)):kvs.length<=sizeLine/\(a==sysModules)=false/\∃vs,KV kvs vs/\h.DictOf (aV P w) a vs:=pY ok (.inl e)
def m9{ks:List Key}(ok:jy P w H h)(e:H a=some (.tup (ks.map kV))):(tupleKind (aV P w)).is h ks a:=by
 obtain⟨_,its,r,o,h1,h2,n,h3⟩:=(show cw P w H h a (.tup (ks.map kV)) from ok a _ e)
 exact#[o,its.toArray,n,h1,h2,h3,by simpa using qt r]
def uT{kvs:List (List Key×V)}(ok:jy P w H h)(e:Rd H a (.dT kvs)):kvs.length<=sizeLine/\(a==sysModules)=false /\
  ∃xs,KT H kvs xs/\h.DictOfH (tupleKind (aV P w)) a xs:=by
 obtain⟨z,y,xs,r,o,es,ep,h1,h2,h3,h4,h5⟩:=(show cw P w H h a (.dT kvs) from FH ok e)
 apply#[z,y,xs,r,o,es,ep,h1,h2,h3,h4,λx hx=>?_,h5]
 have all:∀{l:List (List Key×V)} {m:List (List Key×Addr×Value)},KT H l m->∀x∈m,(tupleKind (aV P w)).is h x.1 x.2.1:=by
  intro l m q
  induction q with
  |nil=>intro x hx;exact nomatch hx
  |@cons p q ps qs hq t ih =>
   intro x hx
   rcases Lc.mp hx with e|hx
   ·subst e
    exact m9 ok (by rw[<-hq.1];exact hq.2.1)
   ·exact ih x hx
 exact all r x hx
def Fz{kvs:List (List Key×V)}(ok:jy P w H h)(e:H a=some (.dT kvs)):kvs.length<=sizeLine/\(a==sysModules)=false /\
  ∃xs,KT H kvs xs/\h.DictOfH (tupleKind (aV P w)) a xs:=uT ok (.inl e)
end
def dI(H:Hp)(a:Addr)(y:V)(r:Option V):Prop :=
 (∃kvs k,Rd H a (.dK kvs)/\y=kV k/\r=dE kvs k)\/∃kvs k b,Rd H a (.dT kvs)/\y=.ref b/\H b=some (.tup (k.map kV))/\r=dE kvs k
def nV(H:Hp)(a:Addr)(y v:V)(H':Hp):Prop :=
 (∃kvs k,H a=some (.dK kvs)/\y=kV k/\kvs.length<sizeLine/\H'=upd H a (.dK (putK kvs k v))) \/
 ∃kvs k b,H a=some (.dT kvs)/\y=.ref b/\H b=some (.tup (k.map kV))/\kvs.length<sizeLine/\H'=upd H a (.dT (putK kvs k v))
theorem dI.k{H:Hp}{a:Addr}{kvs:List (Key×V)}{k:Key}(e:H a=some (.dK kvs)):dI H a (kV k) (dE kvs k):=.inl #[kvs,k,.inl e,rfl,rfl]
def dI.t{H:Hp}{a b:Addr}{kvs:List (List Key×V)}{k:List Key}(e:H a=some (.dT kvs))(eb:H b=some (.tup (k.map kV))):dI H a (.ref b) (dE kvs k):=.inr #[kvs,k,b,.inl e,rfl,eb,rfl]
theorem nV.k{H:Hp}{a:Addr}{kvs:List (Key×V)}{k:Key}{v:V}(e:H a=some (.dK kvs))(hl:kvs.length<sizeLine):nV H a (kV k) v (upd H a (.dK (putK kvs k v))):=.inl #[kvs,k,e,rfl,hl,rfl]
def nV.t{H:Hp}{a b:Addr}{kvs:List (List Key×V)}{k:List Key}{v:V}(e:H a=some (.dT kvs))(eb:H b=some (.tup (k.map kV)))(hl:kvs.length<sizeLine) :
  nV H a (.ref b) v (upd H a (.dT (putK kvs k v))):=.inr #[kvs,k,b,e,rfl,eb,hl,rfl]
section
variable {X:Cx}{pins:List (Addr×Obj)}{σ:St}{H:Hp}{s:Shared}{a:Addr}{y v:V}{u r:Value}{o:Option V}{A:Around}{E:Value->Shared->Prop}
def Inv.big(I:Inv X pins σ H s):sysModules<s.heap.objs.size:=by
 have h:mainGlobals<s.heap.objs.size:=(I.mod.glob.keeps I.bk).lt
 exact Nat.lt_trans (by decide) h
def yU{Q:Value->Shared->Prop}(hu:A.units+1<cLine)(I:Inv X pins σ H s)(g:dI H a y (some v))(ry:RelV y u)(h:∀w' s',Inv X pins σ H s'->RelV v w'->Q w' s') :
  wpAny (model X.prog X.w) A (getItem (.ref a) u) Q E s:=by
 rcases g with⟨kvs,k,e,ey,l⟩|⟨kvs,k,b,e,ey,eb,l⟩
 ·subst ey
  obtain⟨z,hd,vs,rel,dd⟩:=pY I.hok e
  obtain⟨w',hw,rw'⟩:=jn.some_of (v:=v) (o:=valueAt vs k) (by rw[l];exact rel.val k)
  exact wpAny_getItem_of (oA ry) dd.mapOf hw (h w' _ (I.tok _) rw')
 ·subst ey
  cases (show u=Value.ref b from ry)
  obtain⟨z,hd,xs,rel,dd⟩:=uT I.hok e
  obtain⟨w',hw,rw'⟩:=jn.some_of (v:=v) (o:=(atKey xs k).map (·.2)) (by rw[l];exact rel.val k)
  obtain⟨p,hp,hp2⟩:=NS.mp hw
  apply wpAny_getItem_heap (Pe hu) (m9 I.hok eb) dd hp ?_
  rw[hp2]
  exact h w' _ (I.tok _) rw'
def EA{Q:Value->Shared->Prop}(hu:A.units+1<cLine)(I:Inv X pins σ H s)(g:dI H a y o)(ry:RelV y u)(h:∀s',Inv X pins σ H s'->Q (.bool (!o.isSome)) s') :
  wpAny (model X.prog X.w) A (compareOp .NotIn u (.ref a)) Q E s:=by
 rcases g with⟨kvs,k,e,ey,l⟩|⟨kvs,k,b,e,ey,eb,l⟩
 ·subst ey
  obtain⟨z,hd,vs,rel,dd⟩:=pY I.hok e
  apply wpAny_notIn_of (oA ry) hd dd.mapOf ?_
  rw[<-(rel.val k).k9,<-l]
  exact h _ (I.tok _)
 ·subst ey
  cases (show u=Value.ref b from ry)
  obtain⟨z,hd,xs,rel,dd⟩:=uT I.hok e
  apply wpAny_notIn_heap (Pe hu) (m9 I.hok eb) hd dd ?_
  have q:=(rel.val k).k9
  rw[Po]at q
  rw[<-q,<-l]
  exact h _ (I.tok _)
def ki{h':Heap}{t':Nat}{ob:HO}(I:Inv X pins σ H s)(mu:IT (H a))(hs:Heap.SameBut a s.heap h')(he:∃q,h'.get? a=some q)(new:cw X.prog X.w (upd H a ob) h' a ob) :
  Inv X pins σ (upd H a ob) { s with heap:=h',toks:=t' } :=
 I.write (x:=a) (e:=a) mu (.inl rfl) (λb q hb z=>(hs.2 b hb).trans z) he new
def Az{P:Program}{w:World}{H':Hp}{h':Heap}{kvs:List (Key×V)}{vs:List (Key×Value)}(z:kvs.length<=sizeLine)(hd:(a==sysModules)=false)(rel:KV kvs vs)(dd:h'.DictOf (aV P w) a vs) :
  cw P w H' h' a (.dK kvs):=#[z,hd,vs,rel,dd]
def zA{H':Hp}{Q:Unit->Shared->Prop}(hu:A.units+1<cLine)(I:Inv X pins σ H s)(g:nV H a y v H')(ry:RelV y u)(rv:RelV v r)(h:∀s',Inv X pins σ H' s'->Q () s') :
  wpAny (model X.prog X.w) A (setItem (.ref a) u r) Q E s:=by
 rcases g with⟨kvs,k,e,ey,l,eH⟩|⟨kvs,k,b,e,ey,eb,l,eH⟩
 ·subst ey eH
  obtain⟨z,hd,vs,rel,dd⟩:=yF I.hok e
  have hz:vs.length<=sizeLine:=by rw[<-rel.length];exact z
  have hl:(putK kvs k v).length<=sizeLine:=by have:=iS kvs k v;lia
  apply wpAny_setItem_pairs (hsz:=hz) (oA ry) dd λh' dd' hs=>h _ ?_
  have he:∃q,h'.get? a=some q:=let #[q,_,_,hq,_]:=dd';#[q,hq]
  exact ki I (by rw[e];exact True.intro) hs he (Az hl hd (rel.put k rv) dd')
 ·subst ey eH
  cases (show u=Value.ref b from ry)
  obtain⟨z,hd,xs,rel,dd⟩:=Fz I.hok e
  have hz:xs.length<=sizeLine:=by rw[<-Lz rel];exact z
  have hl:(putK kvs k v).length<=sizeLine:=by have:=iS kvs k v;lia
  apply wpAny_setItem_heap (hsz:=hz) (Pe hu) (m9 I.hok eb) dd λh' dd' hs=>h _ ?_
  obtain⟨q,es,ep,hq,h2,h3,h4,_,h5⟩:=dd'
  apply ki I (by rw[e];exact True.intro) hs #[q,hq] #[hl,hd,_,(rel.put k eb rv).keeps λc ys ec=>?_,q,es,ep,hq,h2,h3,h4,h5]
  rw[ai (aX ec e (λz=>nomatch z))]
  exact ec
end
section
variable {X:Cx}{pins:List (Addr×Obj)}{σ:St}{H:Hp}{s:Shared}{a:Addr}{kvs:List (Key×V)}{k:Key}{u:Value}{A:Around}{E:Value->Shared->Prop}
end
def II(i:Expr):Prop:=∀ov iv,subscripted i false ov iv=operate [ov,iv] (getItem ov iv)
def C6{prog:Program}{w:World}{A:Around}{E:Value->Shared->Prop}{s:Shared}{env:Env}{value slice:Expr}{pos:Pos}{T id:String}{Q:Value->Shared->Prop}
  (hl:typeLookup (.type T) "__getitem__"=pure (some (.builtin id))) (hs:II slice)
  (h:wpAny (model prog w) A (eval value env) (λo s₁=>wpAny (model prog w) A (eval slice env) (λi s₂=>s₂.TypeIs o T/\wpAny (model prog w) A (getItem o i) Q E s₂) E s₁) E s) :
  wpAny (model prog w) A (eval (.Subscript value slice pos) env) Q E s:=by
 apply Subscript_ (MO h (λo s₁ h₁=>MO h₁ (λi s₂ h₂=>?_) λ_ _ x=>x) λ_ _ x=>x)
 obtain⟨hT,h₂⟩:=h₂
 unfold subscriptTail
 apply K3 ?_
 rw[getitemInPython_of_ne hT.not_modules]
 apply K3 (NQ hT hl ?_)
 have fin:wpAny (model prog w) A (subscripted slice false o i) (λr s₃=>wpAny (model prog w) A (letTemporaryGo value o r >>= λ_=>pure r) Q E s₃) E s₂:=by
  rw[hs o i]
  exact wpAny_operating (MO h₂ (λr s₃ h₃=>K3 (wpAny_letTemporaryGo (K6 h₃))) λ_ _ x=>x)
 first
  |exact K6 (K3 fin)
  |exact K3 (K6 (K3 fin))
  |exact K3 fin
def tI{X:Cx}{pins:List (Addr×Obj)}{σ:St}{H:Hp}{s:Shared}{a:Addr}{y:V}{o:Option V}(I:Inv X pins σ H s)(g:dI H a y o):s.TypeIs (.ref a) "dict":=by
 rcases g with⟨kvs,k,e,_,_⟩|⟨kvs,k,b,e,_,_,_⟩
 ·obtain⟨_,_,vs,_,dd⟩:=pY I.hok e
  exact dd.typeIs
 ·obtain⟨_,_,xs,_,dd⟩:=uT I.hok e
  exact dd.typeIs
inductive JDg(Q:VK)(x y:V)(H2:Hp):Prop
 |mk (a:Addr) (v:V) (e:x=.ref a) (g:dI H2 a y (some v)) (k:Q v H2)
def ID(td ty:TE):TE:=λσ H Q=>td σ H λx H1=>ty σ H1 λy H2=>JDg Q x y H2
def Dj(ty td:TE):TE:=λσ H Q=>ty σ H λy H1=>td σ H1 λx H2=>∃a o,x=.ref a/\dI H2 a y o/\Q (.bl (!o.isSome)) H2
def Im(td ty tv:TE):TS:=λD σ H=>tv σ H λv H1=>td σ H1 λx H2=>ty σ H2 λy H3=>∃a H4,x=.ref a/\nV H3 a y v H4/\D.nx σ H4
section
variable {X:Cx}{o i e value:Expr}{pos pos' tpos:Pos}{td ty tv:TE}
def bC(hu:X.A.units+1<cLine)(ho:PE X o td)(hi:PE X i ty)(hs:II i):PE X (.Subscript o i pos) (ID td ty):=by
 intro pins s σ H Q I h
 apply C6 PySem.F.slot_dict_getitem.lookup hs (cD (ho pins s σ H _ I h) λu s1 #[x,H1,I1,rx,q1]=>cD (hi pins s1 σ H1 _ I1 q1) λiv s2 hZ=>?_)
 obtain⟨y,H2,I2,ry,a,v,ex,g,q2⟩:=hZ
 subst ex
 obtain rfl:u=Value.ref a:=rx
 exact#[tI I2 g,yU hu I2 g ry λw' s3 I3 rw'=>#[v,H2,I3,rw',q2]]
def pQ(hu:X.A.units+1<cLine)(hi:PE X i ty)(ho:PE X o td):PC X .NotIn i o (Dj ty td):=by
 intro pins s σ H Q I h
 apply cD (hi pins s σ H _ I h) λiv s1 #[y,H1,I1,ry,q1]=>cD (ho pins s1 σ H1 _ I1 q1) λu s2 hZ=>?_
 obtain⟨x,H2,I2,rx,a,ov,ex,g,q2⟩:=hZ
 subst ex
 obtain rfl:u=Value.ref a:=rx
 exact EA hu I2 g ry λs3 I3=>#[.bl (!ov.isSome),H2,I3,rfl,q2]
def kE(hu:X.A.units+1<cLine)(ho:PE X o td)(hi:PE X i ty)(hv:PE X value tv)(hs:swapsWith value (some (.Subscript o i pos')) pos.line X.env=pure false) :
  PS X (.Assign [.Subscript o i pos'] value pos) (Im td ty tv):=by
 intro pins s σ H D I h
 apply wpAny_Assign_Subscript (cD (hv pins s σ H _ I h) λr s1 #[v,H1,I1,rv,q1]=>cD (ho pins s1 σ H1 _ I1 q1) λu s2 #[x,H2,I2,rx,q2]=>cD (hi pins s2 σ H2 _ I2 q2) λiv s3 #[y,H3,I3,ry,a,H4,ex,g,q3]=>?_) hs
 subst ex
 obtain rfl:u=Value.ref a:=rx
 exact zA hu I3 g ry rv λs4 I4=>#[σ,H4,I4,q3]
end
def t9{P:Program}{w:World}{H:Hp}(h:Heap)(hb:sysModules<h.objs.size):cw P w H (h.push { cls:=.type "dict",data:=.dict #[] }) h.objs.size (.dK []) :=
 #[LA _,MA.mpr (LO (LB hb)),[],.nil,Heap.DictOf.new h]
def CS{P:Program}{w:World}{H:Hp}(h:Heap)(hb:sysModules<h.objs.size):cw P w H (h.push { cls:=.type "dict",data:=.dict #[] }) h.objs.size (.dT []) :=
 #[LA _,MA.mpr (LO (LB hb)),[],.nil,_,#[],0,Ly _ rfl,#[rfl,rfl,rfl],rfl,rfl,List.nodup_nil]
def CH:TE:=λ_ H Q=>∀p,H p=none->Q (.ref p) (upd H p (.dK []))
section
variable {X:Cx}{pos:Pos}
def kb:PE X (.Dict [] [] pos) CH:=λpins s σ H Q I h =>
 wpAny_Dict_empty #[.ref s.heap.objs.size,_,I.laid (a:=s.heap.objs.size) (o:=.dK []) (t':=s.toks) (λ_ _ q=>K8 _ q) (La _) (t9 s.heap I.big),rfl,h _ (I.hok.fresh (La _))]
end
def vK:List (TE×TE)->St->Hp->(List (V×V)->Hp->Prop)->Prop
 |[],_,H,Q=>Q [] H
 |(tk,tv)::r,σ,H,Q=>tk σ H λx H1=>tv σ H1 λy H2=>vK r σ H2 λps H3=>Q ((x,y)::ps) H3
abbrev VV:List (V×V)->List (Value×Value)->Prop:=Paired λp q=>RelV p.1 q.1/\RelV p.2 q.2
def HY(X:Cx)(pos:Pos)(keys:List (Option Expr))(values:List Expr)(trs:List (TE×TE)):Prop :=
 ∀(pins:List (Addr×Obj)) (s:Shared) (σ:St) (H:Hp) (Q:List (V×V)->Hp->Prop),Inv X pins σ H s->vK trs σ H Q ->
  wpAny (model X.prog X.w) X.A (evalPairs (pairTrees keys values X.env pos)) (λvs s'=>∃ps H',Inv X pins σ H' s'/\VV ps vs/\Q ps H') X.xe s
def Eg{X:Cx}{pos:Pos}:HY X pos [] [] []:=λpins s σ H Q I h=>pairTrees_nil_walk #[[],H,I,.nil,h]
def CI{X:Cx}{pos:Pos}{k v:Expr}{ks:List (Option Expr)}{vs:List Expr}{tk tv:TE}{trs:List (TE×TE)}(hk:PE X k tk)(hv:PE X v tv)(hr:HY X pos ks vs trs) :
  HY X pos (some k::ks) (v::vs) ((tk,tv)::trs):=λpins s σ H Q I h =>
 pairTrees_cons_walk (cD (hk pins s σ H _ I h) λu s1 #[x,H1,I1,rx,q1]=>cD (hv pins s1 σ H1 _ I1 q1) λw2 s2 #[y,H2,I2,ry,q2] =>
  cD (hr pins s2 σ H2 _ I2 q2) λws s3 #[ps,H3,I3,rel,q3]=>#[(x,y)::ps,H3,I3,.cons #[rx,ry] rel,q3])
def iK(kvs more:List (Key×V)):List (Key×V):=more.foldl (λacc kv=>putK acc kv.1 kv.2) kvs
def KV.merge:∀{more:List (Key×V)} {rs:List (Key×Value)} {kvs:List (Key×V)} {vs:List (Key×Value)},KV more rs->KV kvs vs->KV (iK kvs more) (merged vs rs):=by
 intro more rs kvs vs r
 unfold KV at r
 induction r generalizing kvs vs with
 |nil=>intro q;exact q
 |@cons p q ps qs h t ih =>
  intro r0
  have e:KV (putK kvs p.1 p.2) (stored vs q.1 q.2):=by
   have:=r0.put p.1 h.2
   rw[<-h.1];exact this
  exact ih e
theorem jx:∀(more kvs:List (Key×V)),(iK kvs more).length<=kvs.length+more.length
 |[],kvs=>by show kvs.length<=kvs.length+0;lia
 |p::r,kvs=>by
  have h1:=jx r (putK kvs p.1 p.2)
  have h2:=iS kvs p.1 p.2
  show(iK (putK kvs p.1 p.2) r).length<=_
  rw[LN];lia
theorem oH{P:Program}{w:World}:∀{kvs:List (Key×V)} {ws:List (Value×Value)},VV (kvs.map λkv=>(kV kv.1,kv.2)) ws->∃rs,Carries (aV P w) ws rs/\KV kvs rs
 |[],_,r=>by rw[Px]at r;cases r;exact#[[],True.intro,.nil]
 |p::kvs,_,r=>by
  rw[Mh]at r
  cases r with
  |@cons a b as bs h t =>
   obtain⟨rs,c,q⟩:=oH (P:=P) (w:=w) t
   obtain⟨b1,b2⟩:=b
   exact#[(p.1,b2)::rs,#[oA h.1,rfl,c],.cons #[rfl,h.2] q]
def Fn(trs:List (TE×TE)):TE:=λσ H Q=>∀p,H p=none->vK trs σ (upd H p (.dK [])) λps H2=>H2 p=some (.dK [])/\∃kvs:List (Key×V),ps=kvs.map (λkv=>(kV kv.1,kv.2))/\kvs.length<=15/\Q (.ref p) (upd H2 p (.dK (iK [] kvs)))
def El{X:Cx}{pos:Pos}{keys:List (Option Expr)}{values:List Expr}{trs:List (TE×TE)}(h:HY X pos keys values trs)(hall:keys.all (·.isSome)=true)(hl:keys.length=values.length)(h0:keys≠[])
  (h15:keys.length<=15):PE X (.Dict keys values pos) (Fn trs):=by
 intro pins s σ H Q I q
 have hn:=I.hok.fresh (La s.heap.objs.size)
 have I1:=I.laid (a:=s.heap.objs.size) (o:=.dK []) (h':=s.heap.push { cls:=.type "dict",data:=.dict #[] }) (t':=s.toks) (λ_ _ q=>K8 _ q) (La _) (t9 s.heap I.big)
 apply wpAny_Dict_walk (knd:=aV X.prog X.w) hall hl h0 h15 (cD (h pins _ σ _ _ I1 (q _ hn)) λws s2 hZ=>?_)
 obtain⟨ps,H2,I2,rel,e,kvs,ep,lk,q2⟩:=hZ
 subst ep
 obtain⟨rs,c,rk⟩:=oH (P:=X.prog) (w:=X.w) rel
 obtain⟨z,hd,vs0,r0,dd⟩:=yF I2.hok e
 cases r0
 apply#[rs,c,dd,λh' dd' hs=>#[.ref s.heap.objs.size,_,?_,rfl,q2]]
 have hz:(iK [] kvs).length<=sizeLine:=by
  have h1:=jx kvs []
  rw[NO]at h1
  rw[L7];lia
 have he:∃q,h'.get? s.heap.objs.size=some q:=let #[q,_,_,hq,_]:=dd';#[q,hq]
 exact ki I2 (by rw[e];exact True.intro) hs he (Az hz hd (rk.merge .nil) dd')
structure M1(X:Cx)(o:Expr)(m:Str)(apos:Pos)(e:Expr)(cpos:Pos):Prop where
 base:attributeBase o m X.env (eval o X.env)=eval o X.env
 gX:((backTo cpos (starEach [e] X.env)).all (λx=>!x.1)&&(backToKw cpos (keywordEach [] X.env)).all (λx=>x.1.isSome)
  && decide (([e]:List Expr).length+([]:List Keyword).length+(if ([]:List Keyword).isEmpty then 0 else 1)<30))=true
 line:(apos.endLine==cpos.line)=true
 trees:backTo cpos (starEach [e] X.env)=[(false,eval e X.env)]
structure M2(X:Cx)(o:Expr)(m:Str)(apos:Pos)(e f:Expr)(cpos:Pos):Prop where
 base:attributeBase o m X.env (eval o X.env)=eval o X.env
 gX:((backTo cpos (starEach [e,f] X.env)).all (λx=>!x.1)&&(backToKw cpos (keywordEach [] X.env)).all (λx=>x.1.isSome)
  && decide (([e,f]:List Expr).length+([]:List Keyword).length+(if ([]:List Keyword).isEmpty then 0 else 1)<30))=true
 line:(apos.endLine==cpos.line)=true
 trees:backTo cpos (starEach [e,f] X.env)=[(false,eval e X.env),(false,eval f X.env)]
def IsD(H:Hp)(a:Addr):Prop:=(∃kvs,Rd H a (.dK kvs))\/∃kvs,Rd H a (.dT kvs)
def Ho{X:Cx}{pins:List (Addr×Obj)}{σ:St}{H:Hp}{s:Shared}{a:Addr}(I:Inv X pins σ H s)(d:IsD H a) :
  s.TypeIs (.ref a) "dict"/\(∀b,Value.ref a=.ref b->∃ob,s.heap.get? b=some ob/\ob.dict=none)/\(a==sysModules)=false:=by
 rcases d with⟨kvs,e⟩|⟨kvs,e⟩
 ·obtain⟨_,hd,vs,_,dd⟩:=pY I.hok e
  apply#[dd.typeIs,λb q=>?_,hd]
  cases q
  obtain⟨ob,_,_,h1,h2,_⟩:=dd
  exact#[ob,h1,h2.2.1]
 ·obtain⟨_,hd,xs,_,dd⟩:=uT I.hok e
  apply#[dd.typeIs,λb q=>?_,hd]
  cases q
  obtain⟨ob,_,_,h1,h2,_⟩:=dd
  exact#[ob,h1,h2.2.1]
section
variable {X:Cx}{pins:List (Addr×Obj)}{σ:St}{H:Hp}{s:Shared}{a:Addr}{y d:V}{u r:Value}{o:Option V}{A:Around}{E:Value->Shared->Prop}
end
section
variable {X:Cx}{o e f:Expr}{apos cpos:Pos}{td ty tx:TE}
end
section
variable {X:Cx}{pins:List (Addr×Obj)}{σ:St}{H:Hp}{s:Shared}{a:Addr}{kvs:List (Key×V)}{A:Around}{E:Value->Shared->Prop}
end
section
variable {X:Cx}{pins:List (Addr×Obj)}{σ:St}{H:Hp}{s:Shared}{a:Addr}{y:V}{u:Value}{A:Around}{E:Value->Shared->Prop}
end
end L2
namespace Att
open PySem PySem.W PySem.Calls PyProof.Rows
def ma{P:Params}{h:Heap}:∀(ns:List Int) (vs:List Value),WellAll P h vs (ns.map WData.int)->IntsAre vs ns:=by
 intro ns
 induction ns with
 |nil =>
  intro vs w
  rw[Px]at w
  cases w
  exact .nil
 |cons n ns ih =>
  intro vs w
  rw[Mh]at w
  cases w with
  |cons a b =>
   cases a
   exact .cons _ _ (ih _ b)
def yN{l:OpenLaw}{n:Nat}(hn:l.most=some n){P:Params}{h:Heap}{args:List WData}{vals:List Value}
  (hpre:l.row.toRowW.claim.pre args=true) (hwl:WellAll P h vals args) :
  ∃a vs ns,vals=[Value.ref a]/\args=[WData.list (ns.map WData.int)]/\h.get? a=some { cls:=.type "list",data:=.seq vs.toArray }/\IntsAre vs ns/\ns.length<=n:=by
 have hsh:WShape.hasAll [] args [.list .int]=true:=(pre_splitW hpre).1
 have hc:l.pre.holds [] { args:=args }=true:=(pre_splitW hpre).2
 obtain⟨d,r,rfl,h1,h2⟩:=hasAllW_cons hsh
 obtain rfl:=hasAllW_nil h2
 obtain⟨xs,rfl,h3⟩:=hasW_list h1
 obtain⟨ns,rfl⟩:=items_int h3
 have hlen:ns.length<=n:=by
  unfold OpenLaw.pre at hc
  have h4:(WTm.not (.lt (.lit (.int (n:Int))) (.len (.arg 0)))).holds [] { args:=[.list (ns.map .int)] }=true:=by
   have h4:=(holds_andW hc).1
   rw[hn]at h4
   exact h4
  have h5:=condW_of h4 (w_not (w_lt w_lit (w_len_list (w_arg rfl))))
  rw[K4]at h5
  apply Nat.le_of_not_lt λq=>?_
  have q':(n:Int)<((ns.length:Nat):Int):=by lia
  first
   |(rw[Lk q']at h5;exact absurd h5 (by decide))
   |(simp at h5;lia)
 cases hwl with
 |cons w1 w2 =>
  cases w2
  cases w1 with
  |list ho hall=>exact#[_,_,ns,rfl,rfl,ho,ma ns _ hall,hlen]
def y0(l:OpenLaw)(args:List WData):l.row.toRowW.claim.post args (.bool true) args=true :=
 postW_of (r:=l.row.toRowW) (X:=(true==true))
  (show WShape.has [] (.bool true) .bool=true by first|rfl|decide|simp[WShape.has,WShape.arms,WShape.armsAll])
  (show(WTm.eq .res (.lit (.bool true))).value [] { args:=args,res:=some (.bool true),after:=args }=some (.bool (true==true)) from w_eq_bool (w_res rfl) w_lit) rfl
def tO{l:OpenLaw}{n:Nat}{q:Program}{loose:List Str}{XP:(Str->Option Value)->Heap->Prop}{YP:World->Heap->Prop}{d:DefRec}
  (hn:l.most=some n) (hdf:d.params.defaults=[])
  (call:∀(w:World) (s₀ s₁:Shared) (mg mb:Str->Option Value) (fa:Addr) (o:Obj) (pm cd doc:Value) (a:Addr) (vs:List Value) (ns:List Int),
   Ground q loose [] XP w s₀ mg mb s₁.heap->YP w s₁.heap ->
   s₁.heap.get? fa=some o->o.data=.func (docDef d.name d.params d.body d.scope pm cd doc)->s₁.heap.CodeRec cd d.name->mg d.name=some (.ref fa) ->
   s₁.heap.get? a=some { cls:=.type "list",data:=.seq vs.toArray }->IntsAre vs ns->ns.length<=n->s₁.gens = #[] ->
   codeAny (model l.prog w) callerA (.call (.ref fa) #[[.ref a],[]]) (λr s'=>r=.ok (.ret (.bool true))/\OldK s₁.heap s'.heap/\s'.os=s₁.os/\AllBare s'.gens) s₁) :
  WalkO q loose XP YP l.row.toRowW d [] (λf vs=>PySem.call f vs):=by
 intro w s₀ s₁ mg mb G Y fa o pm cd doc dV kV ho hd hcd hD hmg hg args vals as hpre hlay hrd hwl hlo
 obtain rfl:dV=.none:=Dflts.none hD hdf
 obtain rfl:kV=.none:=Dflts.noKw hD
 obtain⟨a,vs,ns,rfl,rfl,hobj,hints,hlen⟩:=yN hn hpre hwl
 apply enter_call (Oq (call w s₀ s₁ mg mb fa o pm cd doc a vs ns G Y ho (fd_plain hd) hcd hmg hobj hints hlen hg) λr s' hq=>?_)
 obtain⟨rfl,h2,h3,h4⟩:=hq
 exact#[.inl #[.bool true,.bool true,[],rfl,λ_=>rfl,.bool true,y0 l _,λ_=>#[List.Pairwise.nil,λ_ hm=>(nomatch hm)]],h2,h3,h4]
section
variable {prog:Program}{w:World}{A:Around}{E:Value->Shared->Prop}{s:Shared}{K:Frag}
end
end Att
namespace L2
open PySem PySem.Spec PyProof.Rows
theorem pX:∀{vs:List Value} {ns:List Int},IntsAre vs ns->Vals (ns.map V.int) vs
 |_,_,.nil=>.nil
 |_,_,.cons n t h=>.cons #[t,rfl] (pX h)
def Hk(H:Hp):Prop:=∀b,H b=none\/∃o xs,H b=some (.frz o (.lst xs))
def Cr{P:Program}{w:World}{K:PySem.W.Frag}{mg mb:Str->Option Value}{CX:Cy}{k:Nat}{fa a:Addr}{fd:FuncData}{x:Str}{sp:Sp}{s₁:Shared}{vs:List Value}{ns:List Int}
  (KX:K.In s₁.heap) (hns:s₁.heap.Ns mainGlobals mg) (hb:s₁.heap.Ns builtinsNs mb) (hbb:∀x:Str,x≠"__name__"->mb x=bootBuiltins x) (hlim:s₁.heap.NoLimit) (hg:s₁.gens = #[])
  (ha:s₁.heap.get? a=some { cls:=.type "list",data:=.seq vs.toArray }) (hi:IntsAre vs ns) (hl:ns.length<=sizeLine) (hr:cW k callerA)
  (F:∀base:Heap,K.In base->base.Ns mainGlobals mg->bf P w K mg base CX k fa fd [x] sp) (hbind:∀(s:Shared) (u:Value),BindsTo s fd #[[u],[]] [(x,u)])
  (hsp:∀H:Hp,Hk H->aH K H a (ns.map V.int)->sp [.ref a] H (λv _=>v=.bl true) λ_ _ _=>False)
  (hCX:∀H e s',CX [] H s₁ (λ_ _ _=>False) e s'->False) :
  codeAny (model P w) callerA (.call (.ref fa) #[[.ref a],[]]) (λr s'=>r=.ok (.ret (.bool true))/\OldK s₁.heap s'.heap/\s'.os=s₁.os/\AllBare s'.gens) s₁:=by
 have rv:=pX hi
 have lenV:=hi.length
 have core:∀H:Hp,Hk H->aH K H a (ns.map V.int)->jy P w H s₁.heap->(∀b,H b≠none->b=a)->(H a≠none->K.lookup a=none) ->
   codeAny (model P w) callerA (.call (.ref fa) #[[.ref a],[]]) (λr s'=>r=.ok (.ret (.bool true))/\OldK s₁.heap s'.heap/\s'.os=s₁.os/\AllBare s'.gens) s₁:=by
  intro H hO hS hok hA hK
  have base_of:∀{b:Addr} {o:Obj},s₁.heap.get? b=some o->H b=none->(qQ s₁.heap H).get? b=some o:=λe n=>BC e n
  have noA:∀{b:Addr} {o:Obj} {es:Array DictEntry} {ep:Nat},s₁.heap.get? b=some o->o.data=.dict es ep->H b=none:=λ{b o es ep} e d=>by
   cases q:H b with
   |none=>rfl
   |some u =>
    have e':b=a:=hA b (by rw[q];simp)
    subst e'
    rw[ha]at e;cases e
    have d':Data.seq vs.toArray _=Data.dict es ep:=d
    cases d'
  have nsK:∀{b:Addr} {m:Str->Option Value},s₁.heap.Ns b m->(qQ s₁.heap H).Ns b m:=λ{b m} #[o,es,ep,e,d,r]=>#[o,es,ep,base_of e (noA e d),d,r]
  have hKb:K.In (qQ s₁.heap H):=λb o e=>base_of (KX b o e) (by
   cases q:H b with
   |none=>rfl
   |some u =>
    have e':b=a:=hA b (by rw[q];simp)
    subst e'
    rw[hK (by rw[q];simp)]at e;cases e)
  have hM:Mod K mg (qQ s₁.heap H):=#[hKb,nsK hns,#[mb,nsK hb,hbb],let #[mc,h1,h2]:=hlim;#[mc,nsK h1,h2]]
  have e0:wR P w K mg (qQ s₁.heap H) callerA [] s₁ H:=#[rfl,hM,λb o e=>ET e,Pw (yP _ _),trivial,λb hb=>absurd (show b∈([]:List Addr) from hb) (by simp),hok,.of_eq hg]
  apply Oq ((F _ hKb (nsK hns)).run callerA [] s₁ H #[[.ref a],[]] [.ref a] [.ref a] _ _ hr e0 (hbind s₁ (.ref a)) (.cons rfl .nil) (hsp H hO hS)) λr s' h=>?_
  cases r with
  |error e=>exact(hCX H e s' h).elim
  |ok fl =>
   cases fl with
   |next=>exact False.elim h
   |brk=>exact False.elim h
   |cont=>exact False.elim h
   |ret u =>
    obtain⟨v,H',os,bare,un,hok',r',q⟩:=h
    have q':v=.bl true:=q
    subst q'
    obtain rfl:u=Value.bool true:=r'
    apply#[rfl,OldK.of_keep λb o e=>?_,os,bare]
    cases q:H b with
    |none=>exact un.keep b o e q (by intro z;exact absurd (show b∈([]:List Addr) from z) (by simp)) (by simp)
    |some u =>
     rcases hO b with z|⟨ob,xs,z⟩
     ·rw[q]at z;cases z
     ·have z2:=un.frzs b ob _ z
      obtain⟨e1,_⟩:=hok b _ z
      obtain⟨e2,_⟩:=hok' b _ z2
      rw[e]at e1;cases e1
      exact e2
 cases hk:K.lookup a with
 |some o =>
  have e:=KX a o hk
  rw[ha]at e
  cases e
  apply core (λ_=>none) (λ_=>.inl rfl) (.inr #[_,vs.toArray,_,hk,rfl,rfl,rfl,by rw[Lu,lenV];exact hl,by simpa using rv]) (λb u z=>by have z':(none:Option HO)=some u:=z;cases z') (λb z=>absurd rfl z) λz=>absurd rfl z
 |none =>
  apply core (λb=>if b=a then some (.frz { cls:=.type "list",data:=.seq vs.toArray } (.lst (ns.map V.int))) else none) (λb=>?_) (.inl (.inr #[{ cls:=.type "list",data:=.seq vs.toArray },Ls rfl])) (λb u z=>?_) (λb z=>?_) λ_=>hk
  ·by_cases hb:b=a
   ·exact .inr #[_,_,Ls hb]
   ·exact .inl (Le hb)
  ·by_cases hb:b=a
   ·have z':=(Ls hb).symm.trans z
    cases z'
    subst hb
    exact#[ha,by rw[K4];exact hl,vs,_,rv,ha]
   ·have z':=(Le hb).symm.trans z
    cases z'
  ·by_cases hb:b=a
   ·exact hb
   ·exact absurd (Le hb) z
def EH{l:PySem.W.OpenLaw}{n k:Nat}{q:Program}{loose:List Str}{XP:(Str->Option Value)->Heap->Prop}{YP:World->Heap->Prop}{d:DefRec}{K:Params->PySem.W.Frag}{CX:World->Cy}{sp:World->Sp}{x:Str}
  (hn:l.most=some n) (hn2:n<=sizeLine) (hdf:d.params.defaults=[]) (hr:cW k callerA)
  (hY:∀(w:World) (h:Heap),YP w h->(K w.params).In h)
  (F:∀(w:World) (mg:Str->Option Value) (fa:Addr) (h:Heap),(K w.params).In h->h.Ns mainGlobals mg->mg d.name = some (.ref fa) ->
   ∃fd:FuncData,(∀(s:Shared) (u:Value),BindsTo s fd #[[u],[]] [(x,u)]) /\
    ∀base:Heap,(K w.params).In base->base.Ns mainGlobals mg->bf l.prog w (K w.params) mg base (CX w) k fa fd [x] (sp w))
  (hsp:∀(w:World) (H:Hp) (a:Addr) (ns:List Int),ns.length<=n->Hk H->aH (K w.params) H a (ns.map V.int)->sp w [.ref a] H (λv _=>v=.bl true) λ_ _ _=>False)
  (hCX:∀(w:World) (H:Hp) (s:Shared) (e:Value) (s':Shared),CX w [] H s (λ_ _ _=>False) e s'->False) :
  PySem.W.WalkO q loose XP YP l.row.toRowW d [] (λf vs=>PySem.call f vs):=by
 apply Att.tO hn hdf λw s₀ s₁ mg mb fa o pm cd doc a vs ns G Y ho hd hcd hmg hobj hints hlen hg=>?_
 have KX:=hY w _ Y
 obtain⟨fd,hb,hF⟩:=F w mg fa _ KX G.T.g hmg
 exact Cr KX G.T.g G.T.b G.T.builtins G.T.nolimit hg hobj hints (LM hlen hn2) hr hF hb (λH hO hS=>hsp w H a ns hlen hO hS) λH e s'=>hCX w H s₁ e s'
def inClass(s:Stmt)(j:Nat):Stmt:=match s with
 |.ClassDef _ _ _ body _ _ _ _ _ _ _=>body.getD j (.Pass #[0,0,0,0])
 |_=>.Pass #[0,0,0,0]
def fV(s:Stmt):Arguments:=match s with
 |.FunctionDef _ a _ _ _ _ _ _ _ _=>a
 |_=>{ posonlyargs:=[],args:=[],vararg:=none,kwonlyargs:=[],kw_defaults:=[],kwarg:=none,defaults:=[] }
def eh(s:Stmt):List Stmt:=match s with
 |.FunctionDef _ _ b _ _ _ _ _ _ _=>b
 |_=>[]
def av(s:Stmt):Scope:=match s with
 |.FunctionDef _ _ _ _ _ _ sc _ _ _=>sc
 |_=>{ kind:=.function,names:=[],isGenerator:=false,isCoroutine:=false }
abbrev cZ:Cy:=λ_ _ _ _ _ _=>False
abbrev E0:XK:=λ_ _ _=>False
def bR{X:Cx}:Passes cZ X E0:=λ_ _ _ _ _ _ _ h=>h.elim
structure dN(K:PySem.W.Frag)(x qual:Str)(st:Stmt)(f:Addr)(fd:FuncData):Prop where
 ex:∃(oc:Value) (od:Option Addr) (kV doc pm:Value) (an:Option Addr) (cdv ct:Value) (osl:Array (Option Value)),
  fd=PySem.W.fnOf x qual (fV st) (eh st) (av st) .none kV doc pm an cdv ct/\K.lookup f=some #[oc,od,.func fd,osl]/\PySem.W.codeIn K cdv qual=true
 kp:PySem.W.keepIn K (.ref f)=true
def dN.ok{x qual:Str}{st:Stmt}{f:Addr}{fd:FuncData}{N ps:List Str}{k:Nat}{sp:Sp}(F:dN K x qual st f fd)(S:aF N ps (av st))(len:∀vs H Q E,sp vs H Q E->vs.length=ps.length)
  (hbody:∀(cdv:Value) (A:Around) (outer:List Env) (s:Shared) (H:Hp) (vs:List V) (Q:VK) (E:XK),cW k (A.deeper (envOfC qual (av st) s.heap.objs.size f cdv))->sp vs H Q E ->
   ∃t,uV (bZ cZ P w K mg base N qual (av st) f cdv A outer s H E).dY (eh st) t/\t { nx:=λ_ H'=>Q .non H',rt:=Q } (start N vs) H):bf P w K mg base cZ (k+1) f fd ps sp:=by
 obtain⟨oc,od,kV,doc,pm,an,cdv,ct,osl,rfl,lk,hcd⟩:=F.ex
 apply Io lk hcd S len λA outer s H vs Q E hr hsp=>?_
 obtain⟨t,h,q⟩:=hbody cdv A outer s H vs Q E hr hsp
 exact#[t,h.dY,q]
def dN.oK{x qual:Str}{st:Stmt}{f:Addr}{fd:FuncData}{N ps:List Str}{k:Nat}{sp:Sp}(F:dN K x qual st f fd)(S:aF N ps (av st))
  (hbody:∀(cdv:Value) (A:Around) (outer:List Env) (s:Shared) (H:Hp) (vs:List V) (Q:VK) (E:XK),cW k (A.deeper (envOfC qual (av st) s.heap.objs.size f cdv))->sp vs H Q E ->
   ∃t,uV (bZ cZ P w K mg base N qual (av st) f cdv A outer s H E).dY (eh st) t/\t { nx:=λ_ H'=>Q .non H',rt:=Q } (start N vs) H) (len:∀vs H Q E,sp vs H Q E->vs.length=ps.length:=by intro vs H Q E h;(repeat obtain⟨_,h⟩:=h);subst_vars;rfl):bf P w K mg base cZ (k+1) f fd ps sp:=F.ok S len hbody
def dN.binds{x qual:Str}{st:Stmt}{f:Addr}{fd:FuncData}{ps:List Str}(F:dN K x qual st f fd)
  (h:∀(kV doc pm:Value) (an:Option Addr) (cdv ct:Value) (us:List Value),us.length=ps.length->bindArgs (PySem.W.fnOf x qual (fV st) (eh st) (av st) .none kV doc pm an cdv ct) #[us,[]]=pure (ps.zip us)):Binds K fd ps []:=by
 obtain⟨oc,od,kV,doc,pm,an,cdv,ct,osl,rfl,lk,hcd⟩:=F.ex
 exact .all (h kV doc pm an cdv ct)
def rh{x qual:Str}{st:Stmt}{f:Addr}{oc:Value}{od an:Option Addr}{osl:Array (Option Value)}{kV doc pm cdv ct:Value}(l:K.lookup f=some #[oc,od,.func (PySem.W.fnOf x qual (fV st) (eh st) (av st) .none kV doc pm an cdv ct),osl])
  (c:PySem.W.codeIn K cdv qual=true) (k:PySem.W.keepIn K (.ref f)=true):dN K x qual st f (PySem.W.fnOf x qual (fV st) (eh st) (av st) .none kV doc pm an cdv ct):=#[#[oc,od,kV,doc,pm,an,cdv,ct,osl,rfl,l,c],k]
def c7{A:Around}{k:Nat}(hr:cW k A):A.units+1<cLine:=L8 (Qv (by decide:1<=64) _) hr.units
def qG{n:Nat}(h:n<=1000):n<sizeLine:=L8 h (by decide)
section
variable {X:Cx}
def pv(i:Nat){x:Str}{pos:Pos}(hN:X.N[i]?=some x:=by rfl)(hv:Jl X.env.scope x:=by first|exact Or.inl rfl|exact Or.inr (Or.inl rfl)|exact Or.inr (Or.inr rfl))(hd:(x==("__debug__":Str))=false:=by decide)
  (hcd:(x==("__classdict__":Str))=false:=by decide):PE X (.Name x pos) (IB i):=Hs hN hv hd hcd
end
def bz{A B:Prop}(h:B):if false=true then A else B:=by
 rw[Le LI]
 exact h
def cy{A B:Prop}(h:A):if true=true then A else B:=by
 rw[Ls rfl]
 exact h
def pB{c A B:Prop}[Decidable c](h1:c->A)(h2:¬c->B):if c then A else B:=by
 by_cases h:c
 ·rw[Ls h]
  exact h1 h
 ·rw[Le h]
  exact h2 h
def au(H H':Hp):Prop:=∀b o,H b=some o->H' b=some o
def au.refl(H:Hp):au H H:=λ_ _ h=>h
def au.trans{H H1 H2:Hp}(a:au H H1)(b:au H1 H2):au H H2:=λc o h=>b c o (a c o h)
def au.free{H H':Hp}(e:au H H'){l:Addr}(h:H' l=Option.none):H l=Option.none:=by
 cases q:H l with
 |none=>rfl
 |some o =>
  rw[e l o q]at h
  cases h
def au.seq{K:PySem.W.Frag}{H H':Hp}{a:Addr}{xs:List V}(e:au H H')(h:aH K H a xs):aH K H' a xs:=by
 rcases h with(h|⟨o,h⟩)|h
 ·exact .inl (.inl (e _ _ h))
 ·exact .inl (.inr #[o,e _ _ h])
 ·exact .inr h
section
variable {X:Cx}
end
section
variable {κ:Type}[DecidableEq κ]
def Dg{kvs:List (κ×V)}{k:κ}{v:V}(h:dE kvs k=some v):k∈kvs.map (·.1):=by
 have q:(kvs.any λkv=>decide (kv.1=k))=true:=by
  rw[iY,h]
  all_goals rfl
 obtain⟨p,hp,e⟩:=MH.mp q
 exact LQ.mpr #[p,hp,Ml e]
end
def cM(i:Nat){X:Cx}{N M:List Str}{so:Scope}{x:Str}{e:Expr}{te:TE}{pos pos':Pos}(S:aF N M so)(he:PE X e te)(hN:X.N=N:=by rfl)(hi:X.N[i]?=some x:=by rfl)(hx:Loc X.env.scope x:=by first|exact Or.inl rfl|exact Or.inr rfl)(hs:swapsWith e (some (.Name x pos')) pos.line X.env=pure false:=by rfl)(hf:X.fn x=true\/X.env.scope.names.lookup x=some .local:=by first|exact .inl rfl|exact .inr rfl|assumption) :
  PS X (.Assign [.Name x pos'] e pos) (zS te (fi i)):=vA (by rw[hN];exact S.nd) hi hx he hs hf
def fE(i:Nat){X:Cx}{N M:List Str}{so:Scope}{x:Str}{p:Pos}(S:aF N M so)(hN:X.N=N:=by rfl)(hi:X.N[i]?=some x:=by rfl)(hx:Loc X.env.scope x:=by first|exact Or.inl rfl|exact Or.inr rfl)(hf:X.fn x=true\/X.env.scope.names.lookup x=some .local:=by first|exact .inl rfl|exact .inr rfl|assumption):PG X (.Name x p) (fi i):=yA (by rw[hN];exact S.nd) hi hx hf
def jo(env:Env):List (Str×NameKind)->List (Str×Addr)->List (Str×Addr)
 |[],cs=>cs
 |(n,k)::r,cs=>jo env r (if k==.free then(n,(env.cells.lookup n).getD 0)::cs else cs)
theorem oX{env:Env}:∀(names:List (Str×NameKind)) (cs:List (Str×Addr)),(∀x∈names,x.2=.free->∃c,env.cells.lookup x.1=some c) ->
  (forIn (m:=Sem) names cs λx r=>if (x.2==NameKind.free)=true then do let a <-cellOf env x.1;pure (ForInStep.yield ((x.1,a)::r)) else pure (ForInStep.yield r))=pure (jo env names cs)
 |[],cs,_=>rfl
 |(n,k)::r,cs,h=>by
  have hr:=λcs'=>oX (env:=env) r cs' λx hx=>h x (LJ _ hx)
  rw[Na]
  by_cases hk:k=.free
  ·subst hk
   obtain⟨c,hc⟩:=h (n,.free) LK rfl
   have e1:cellOf env n=pure c:=by unfold cellOf;rw[hc]
   simp only[beq_self_eq_true,Od,e1,pure_bind,hr,jo,hc,Option.getD_some]
  ·have hb:(k==NameKind.free)=false:=by simpa using hk
   simp only[hb,L5,MT,pure_bind,hr,jo]
def oz{env:Env}{sc:Scope}(h:∀x∈sc.names,x.2=.free->∃c,env.cells.lookup x.1=some c):closureFor sc env=pure (jo env sc.names []):=by
 unfold closureFor
 have e:=oX (env:=env) sc.names [] h
 simp only[bind_pure]
 exact e
theorem dh{env:Env}:∀(names:List (Str×NameKind)) (cs:List (Str×Addr)),(∀x∈names,x.2=.free->∃c,env.cells.lookup x.1=some c) ->
  (∀x c,cs.lookup x=some c->env.cells.lookup x=some c)->∀x c,(jo env names cs).lookup x=some c->env.cells.lookup x=some c
 |[],cs,_,h=>h
 |(n,k)::r,cs,hf,h=>by
  intro x c e
  unfold jo at e
  apply dh r _ (λy hy=>hf y (LJ _ hy)) ?_ x c e
  intro y d q
  by_cases hk:(k==NameKind.free)=true
  ·rw[Ls hk]at q
   obtain⟨c',hc'⟩:=hf (n,k) LK (by simpa using hk)
   have hc':env.cells.lookup n=some c':=hc'
   rw[M5]at q
   by_cases hy:y=n
   ·subst hy
    simp only[beq_self_eq_true]at q
    rw[hc']at q ⊢
    exact q
   ·have:(y==n)=false:=by simpa using hy
    rw[this]at q
    exact h y d q
  ·rw[Le hk]at q
   exact h y d q
theorem oM{env:Env}{x:Str}:∀(names:List (Str×NameKind)) (cs:List (Str×Addr)),(∃c,cs.lookup x=some c)->∃c,(jo env names cs).lookup x=some c
 |[],cs,h=>h
 |(n,k)::r,cs,h=>by
  unfold jo
  apply oM r _ ?_
  by_cases hk:(k==NameKind.free)=true
  ·rw[Ls hk,M5]
   cases hy:x==n with
   |true=>exact#[_,rfl]
   |false=>exact h
  ·rw[Le hk];exact h
theorem oZ{env:Env}{x:Str}:∀(names:List (Str×NameKind)) (cs:List (Str×Addr)),(x,NameKind.free)∈names->∃c,(jo env names cs).lookup x=some c
 |[],cs,h=>by simp at h
 |(n,k)::r,cs,h=>by
  unfold jo
  rcases Lc.mp h with e|h
  ·cases e
   apply oM r _ ?_
   rw[Ls (by rfl),M5]
   simp
  ·exact oZ r _ h
theorem gu{env:Env}:∀{names:List (Str×NameKind)} {x:Str} {k:NameKind},
  (names.map λ(n,k)=>if (k == NameKind.free && env.scope.kind == .function && env.kindOf n == some .cell) then (n,NameKind.cell) else (n,k)).lookup x = some k ->
   ∃k',(x,k')∈names/\(k=k'\/(k=.cell/\k'=.free))
 |[],_,_,h=>by simp at h
 |(n,k₀)::r,x,k,h=>by
  rw[Mh]at h
  by_cases hc:(k₀==NameKind.free&&env.scope.kind==.function&&env.kindOf n==some .cell)=true
  ·simp only[hc,Od,M5]at h
   cases hx:x==n with
   |true =>
    rw[hx]at h
    have:x=n:=by simpa using hx
    subst this
    have hf:k₀=.free:=by
     have h1:=(LU.mp (LU.mp hc).1).1
     simpa using h1
    subst hf
    cases h
    exact#[_,LK,.inr #[rfl,rfl]]
   |false =>
    rw[hx]at h
    obtain⟨k',m,q⟩:=gu (env:=env) h
    exact#[k',LJ _ m,q]
  ·simp only[Le hc,M5]at h
   cases hx:x==n with
   |true =>
    rw[hx]at h
    have:x=n:=by simpa using hx
    subst this
    cases h
    exact#[_,LK,.inl rfl]
   |false =>
    rw[hx]at h
    obtain⟨k',m,q⟩:=gu (env:=env) h
    exact#[k',LJ _ m,q]
theorem dX{env:Env}:∀{names:List (Str×NameKind)} {x:Str},names.lookup x=some .free ->
  (names.map λ(n,k)=>if (k==NameKind.free&&env.scope.kind==.function&&env.kindOf n==some .cell) then(n,NameKind.cell) else(n,k)).lookup x=some .cell \/
  (names.map λ(n,k)=>if (k==NameKind.free&&env.scope.kind==.function&&env.kindOf n==some .cell) then(n,NameKind.cell) else(n,k)).lookup x=some .free
 |[],_,h=>by simp at h
 |(n,k₀)::r,x,h=>by
  rw[Mh]
  rw[M5]at h
  by_cases hc:(k₀==NameKind.free&&env.scope.kind==.function&&env.kindOf n==some .cell)=true
  ·simp only[hc,Od,M5]
   cases hx:x==n with
   |true=>exact .inl rfl
   |false=>rw[hx]at h;exact dX (env:=env) h
  ·simp only[Le hc,M5]
   cases hx:x==n with
   |true=>rw[hx]at h;exact .inr h
   |false=>rw[hx]at h;exact dX (env:=env) h
structure BX where
 C:Addr
 s:Shared
 H:Hp
 fp:List Addr
abbrev jh(X:Cx)(sc:Scope)(N:List Str)(z:BX):Cx :=
  { prog:=X.prog,w:=X.w,K:=X.K,mg:=X.mg,base:=X.base,A:=X.A,N:=N,s₀:=z.s,H₀:=z.H,env:=compEnvC sc (jo X.env sc.names []) z.C X.env,outer:=X.stack,stack:=X.stack,ex:=z.fp,fn:=λ_=>false,
    calm:=X.calm,pn:=[],xe:=λ_ _=>False }
structure dC(X:Cx)(N:List Str)(n:Nat)(ci:List Nat)(sc:Scope):Prop where
 kind:sc.kind=.function
 nocell:∀y∈sc.names,y.2≠.cell
 loc:∀y∈sc.names,y.2=.local->sc.names.lookup y.1=some .local
 fr:∀y∈sc.names,y.2=.free->X.env.scope.names.lookup y.1=some .cell\/X.env.scope.names.lookup y.1=some .free
 len:N.length=n+ci.length
 caps:∀(j i:Nat),ci[j]?=some i->∃x,N[n+j]?=some x/\X.N[i]?=some x/\sc.names.lookup x=some NameKind.free
def tU(n:Nat)(ci:List Nat)(σ:St):St:=List.replicate n none++ci.map λi=>(σ[i]?).getD none
def xY(n:Nat)(ci:List Nat)(σ:St):(tU n ci σ).length=n+ci.length:=by simp[tU]
section
variable {X:Cx}{N:List Str}{n:Nat}{ci:List Nat}{sc:Scope}{pins:List (Addr×Obj)}{σ:St}{H:Hp}{s:Shared}{fp:List Addr}
def dC.o7(S:dC X N n ci sc)(ok:X.Ok):∀x∈sc.names,x.2=.free->∃c,X.env.cells.lookup x.1=some c:=λx hx hf=>ok.has x.1 (S.fr x hx hf)
def vi(S:dC X N n ci sc)(I:Inv X pins σ H s)(hf:∀b∈fp,iE X pins H b)(ho:∀b∈fp,∃o,s.heap.get? b=some o):(jh X sc N #[s.heap.objs.size,s,H,fp]).Ok where
 mod:=I.ok.mod
 kind:=S.kind
 glob:=I.ok.glob
 blt:=I.ok.blt
 above:=La _
 inj:=λx y c h1 h2=>I.ok.inj x y c (dh _ _ (S.o7 I.ok) (by simp) x c h1) (dh _ _ (S.o7 I.ok) (by simp) y c h2)
 has:=λx hx=>by
  have key:∀k,(relabel sc X.env).names.lookup x=some k->(k=.cell\/k=.free)->∃c,(jo X.env sc.names []).lookup x=some c:=λk hk hkk=>by
   obtain⟨k',m,q⟩:=gu hk
   have hfree:k'=.free:=by
    rcases q with rfl|⟨_,q⟩
    ·rcases hkk with e|e
     ·exact absurd e (S.nocell _ m)
     ·exact e
    ·exact q
   subst hfree
   exact oZ _ _ m
  rcases hx with hx|hx
  ·exact key _ hx (.inl rfl)
  ·exact key _ hx (.inr rfl)
 cab:=λx c h=>by cases h
 hd:=λh=>I.ok.hd h
 frames:=I.ok.frames
 stk:=.inl rfl
 exf:=λb hb=>by
  obtain⟨o,e⟩:=ho b hb
  apply#[LB (Li e),λx c h=>?_]
  exact(hf b hb).2.2.2.2.1 x c (dh _ _ (S.o7 I.ok) (by simp) x c h)
 bs:=I.bs
 bsz:=LM I.ok.bsz I.sz
 noex:=λb o e hb=>by
  rcases(hf b hb).2.2.2.1 with z|z
  ·exact I.ok.noex b o e z
  ·exact absurd (LF (Li e) (LM I.ok.bsz z)) (Me _)
 exfs:=λb hb z=>by
  obtain⟨_,f1,f2,_⟩:=hf b hb
  rcases Lc.mp (I.we b z) with e|e
  ·exact f1 e
  ·exact f2 e
 kR:=I.stack
 frf:=I.xG
def uL{h':Heap}{m:Str->Option Value}{C:Addr}(S:dC X N n ci sc)(I:Inv X pins σ H s)(hk:∀x c v,X.env.cells.lookup x=some c->s.heap.IsCell c v->h'.IsCell c v)
  (i:Nat) (x:Str) (v:V) (e1:N[i]?=some x) (e2:(tU n ci σ)[i]?=some (some v)):∃u,RelV v u/\Look (compEnvC sc (jo X.env sc.names []) C X.env) h' m x u:=by
 have hi:n<=i:=by
  by_cases hi:i<n
  ·unfold tU at e2
   rw[Mb (by simpa using hi),NH,Ls hi]at e2
   cases e2
  ·lia
 obtain⟨j,rfl⟩:=Nat.exists_eq_add_of_le hi
 have e2':(ci.map λi=>(σ[i]?).getD none)[j]?=some (some v):=by
  unfold tU at e2
  rw[MI (by simp)]at e2
  simpa using e2
 rw[LD]at e2'
 cases ej:ci[j]? with
 |none=>rw[ej]at e2';cases e2'
 |some k =>
  rw[ej]at e2'
  obtain⟨y,c1,c2,c3⟩:=S.caps j k ej
  rw[c1]at e1
  cases e1
  have ev:σ[k]?=some (some v):=by
   cases q:σ[k]? with
   |none=>simp[q]at e2'
   |some w=>simp[q]at e2';rw[e2']
  obtain⟨m0,_,hl⟩:=I.loc
  have c4:(x,NameKind.free)∈sc.names:=Ng c3
  have kf:=S.fr _ c4 rfl
  have vis:Jl X.env.scope x:=.inr kf
  obtain⟨u,ru,lk⟩:=hl k x v c2 ev vis
  apply#[u,ru,.inr #[dX (env:=X.env) c3,?_]]
  rcases lk with⟨l1,_⟩|⟨_,c,hc,hcell⟩
  ·rcases kf with kf|kf <;> (rw[show X.env.kindOf x=_ from kf]at l1;cases l1)
  ·obtain⟨c',hc'⟩:=oZ (env:=X.env) sc.names [] c4
   have:=dh _ _ (S.o7 I.ok) (by simp) x c' hc'
   rw[hc]at this
   cases this
   exact#[c,hc',hk x c _ hc hcell]
def qi{h':Heap}{t':Nat}{m:Str->Option Value}(S:dC X N n ci sc)(I:Inv X pins σ H s)(hf:∀b∈fp,iE X pins H b)(ho:∀b∈fp,∃o,s.heap.get? b=some o)
  (hk:∀b o,s.heap.get? b=some o->h'.get? b=some o) (hn:h'.Ns s.heap.objs.size m):Inv (jh X sc N #[s.heap.objs.size,s,H,fp]) [] (tU n ci σ) H { s with heap:=h',toks:=t' } where
 ok:=vi S I hf ho
 os:=rfl
 bare:=I.bare
 base:=Un.kept hk
 loc:=#[m,hn,λi x v e1 e2 _=>uL S I (λx c v _ #[o,e,d]=>#[o,hk _ _ e,d]) i x v e1 e2]
 cell:=λx c e=>by
  obtain⟨v,o,e1,d⟩:=I.cell x c (dh _ _ (S.o7 I.ok) (by simp) x c e)
  exact#[v,o,hk _ _ e1,d]
 free:=I.hok.fresh (La _)
 freeC:=λx c e=>I.freeC x c (dh _ _ (S.o7 I.ok) (by simp) x c e)
 pin:=λp hp=>absurd hp (by simp)
 hok:=I.hok.kept hk
 len:=by rw[xY];exact S.len.symm
def tV{H':Hp}{s':Shared}{σ':St}{pins':List (Addr×Obj)}(S:dC X N n ci sc)(I:Inv X pins σ H s)(hf:∀b∈fp,iE X pins H b)
  (J:Inv (jh X sc N #[s.heap.objs.size,s,H,fp]) pins' σ' H' s'):Inv (jh X sc N #[s.heap.objs.size,s,H,fp]) pins' (tU n ci σ) H' s' where
 ok:=J.ok
 os:=J.os
 bare:=J.bare
 base:=J.base
 loc:=by
  obtain⟨m,hn,_⟩:=J.loc
  apply#[m,hn,λi x v e1 e2 _=>uL S I (λx c v e #[o,ho,d]=>?_) i x v e1 e2]
  have nf:c∉fp:=λz=>(hf c z).2.2.2.2.1 x c e rfl
  obtain⟨sl,q⟩:=J.base.any ho (I.freeC x c e) nf
  exact#[_,q,d]
 cell:=J.cell
 free:=J.free
 freeC:=J.freeC
 pin:=J.pin
 hok:=J.hok
 len:=by rw[xY];exact S.len.symm
end
section
variable {prog:Program}{w:World}{A:Around}{R:Result->Shared->Prop}{s:Shared}
def pj{elt target iter:Expr}{ifs:List Expr}{scope:Scope}{pos:Pos}{it acc:Value}{env:Env}(I:Nat->Shared->Prop)
  (turn:∀n s,I n s->wpAny (model prog w) A (pyNext it) (λr s₁=>match r with
   |none=>R (.ok .next) s₁
   |some v=>wpAny (model prog w) A (letOwnedTupleGo target it v) (λ_ s₀=>wpAny (model prog w) A (assign target env v) (λ_ s₂ =>
     wpAny (model prog w) A (forIn ifs true λc r=>if r=true then do let ok <-isTrue c env (eval c env);pure (ForInStep.yield ok) else pure (ForInStep.yield r)) (λok s₃ =>
      if ok=true then wpAny (model prog w) A (eval elt env) (λx s₄ =>
       wpAny (model prog w) A (call (.builtin "list.append") [acc,x]) (λ_ s₅=>∃m,m<n/\I m s₅) (λ_ _=>False) s₄) (λ_ _=>False) s₃
      else ∃m,m<n/\I m s₃) (λ_ _=>False) s₂) (λ_ _=>False) s₀) (λ_ _=>False) s₁) (λ_ _=>False) s)
  (n:Nat) (h:I n s) :
  codeAny (model prog w) A (.compLoop (.ListComp elt [#[target,iter,ifs,0]] scope pos) 0 it acc env) R s:=by
 apply codeAny_loop rfl I (λn s hI=>?_) n h
 show wpAny _ A ((compTurn (.ListComp elt [#[target,iter,ifs,0]] scope pos) 0 it acc env).onRaise (λx=>do noteFrame x env;theTreesLotGoes x)) _ _ s
 apply wpAny_noted ?_
 rw[compTurn_list]
 apply K3 (Qp (K3 (MO (turn n s hI) (λr s₁ h₁=>?_) λ_ _ h'=>h'.elim)))
 cases r with
 |none=>exact K6 h₁
 |some v =>
  apply K3 (MO h₁ (λ_ s₀ h₀=>?_) λ_ _ h'=>h'.elim)
  apply K3 (MO h₀ (λ_ s₂ h₂=>K3 (MO h₂ (λok s₃ h₃=>?_) λ_ _ h'=>h'.elim)) λ_ _ h'=>h'.elim)
  cases ok with
  |false=>exact K6 #[rfl,h₃]
  |true =>
   exact K3 (K3 (MO h₃ (λx s₄ h₄=>K3 (MO h₄ (λ_ s₅ h₅=>K6 (K6 #[rfl,h₅])) λ_ _ h'=>h'.elim)) λ_ _ h'=>h'.elim))
end
def HH(X:Cx)(ifs:List Expr)(t:TT):Prop :=
 ∀(pins:List (Addr×Obj)) (s:Shared) (σ:St) (H:Hp) (Q:Bool->Hp->Prop),Inv X pins σ H s->t σ H Q ->
  wpAny (model X.prog X.w) X.A (forIn ifs true λc r=>if r=true then do let ok <-isTrue c X.env (eval c X.env);pure (ForInStep.yield ok) else pure (ForInStep.yield r)) (TP X pins σ Q) X.xe s
def Kz:TT:=λ_ H Q=>Q true H
def cR{X:Cx}:HH X [] Kz:=λpins s σ H Q I h=>wpAny_tests_nil #[H,I,h]
def ko{X:Cx}{c:Expr}{t:TT}(h:PT X c t):HH X [c] t:=λpins s σ H Q I hq=>wpAny_tests_one (h pins s σ H Q I hq)
def iM(n:Nat)(ci:List Nat)(J:It)(g:TG)(tt:TT)(te:TE)(σ:St)(H1:Hp)(D:Addr)(Q:VK):Prop :=
 ∃(M:Nat) (W:Nat->List V->Hp->Prop),W 0 [] (upd H1 D (.lst []))/\∀i ys H,i<=M->W i ys H ->
  (J.stop i H/\Q (.ref D) H)\/(i < M/\J.go i H/\∀x H',J.yld i H x H'->g x (tU n ci σ) H' λσ2 H2=>tt σ2 H2 λb H3 =>
   if b=true then te σ2 H3 λy H4=>H4 D=some (.lst ys)/\ys.length<sizeLine/\W (i+1) (ys++[y]) (upd H4 D (.lst (ys++[y])))
   else W (i+1) ys H3)
def FR(n:Nat)(ci:List Nat)(wi:TI)(g:BX->TG)(tt:BX->TT)(te:BX->TE):TE:=λσ H Q=>wi σ H λJ H1=>∀(z:BX) (D:Addr),H1 D=none->iM n ci J (g z) (tt z) (te z) σ H1 D Q
section
variable {X:Cx}{N:List Str}{n:Nat}{ci:List Nat}{sc:Scope}
def oR{pins:List (Addr×Obj)}{σ σ':St}{H H':Hp}{s s':Shared}{fp:List Addr}{h':Heap}(I:Inv X pins σ H s)(hf:∀b∈fp,iE X pins H b)
  (J:Inv (jh X sc N #[s.heap.objs.size,s,H,fp]) [] σ' H' s') (hs:Heap.SameBut s.heap.objs.size s'.heap h'):Inv X pins σ H' { s' with heap:=h' }:=by
 have up:∀b o,b≠s.heap.objs.size->s'.heap.get? b=some o->h'.get? b=some o:=λb o hb e=>(hs.2 b hb).trans e
 have lt:∀b o,s.heap.get? b=some o->b≠s.heap.objs.size:=λb o e=>LB (Li e)
 have u0:=J.base
 have un:Un (uW X.stack) fp H H' s.heap h':=by
  apply#[λb o e n hb hx=>up b o (lt b o e) (u0.keep b o e n hb hx),λb o e n hb hx=>?_,λb o e n hx=>u0.free b o e n hx,λb o e hx=>?_,u0.pe,u0.frzs,u0.tbls]
  ·obtain⟨sl,q⟩:=u0.slot b o e n hb hx
   exact#[sl,up b _ (lt b o e) q]
  ·obtain⟨o',q⟩:=u0.there b o e hx
   exact#[o',up b _ (lt b o e) q]
 have fr:H' s.heap.objs.size=none:=J.free
 have hok:jy X.prog X.w H' h':=λb u e=>by
  apply(J.hok b u e).pz (λc v hc q=>up c v ?_ q) (λ_ q=>q) λ_ _ q=>q
  rintro rfl
  rcases hc with hc|hc
  ·rw[<-hc,fr]at e;cases e
  ·rw[fr]at hc;cases hc
 apply I.HZ (s':={ s' with heap:=h' }) (ch:=fp) J.os un hok J.bare λb hb=>?_
 obtain⟨_,f1,_,f3,f4,f5⟩:=hf b hb
 exact#[f3,f1,f4,f5]
def uy{elt tg iter:Expr}{ifs:List Expr}{pos:Pos}{g:BX->TG}{tt:BX->TT}{te:BX->TE}{z:BX}{it D:Addr}{fp:List Addr}{tn:Nat->Heap->Prop}{J:It}{σ0:St}{H4:Hp}{s4:Shared}{Q:VK}{R:Result->Shared->Prop}{W:Nat->List V->Hp->Prop}{M:Nat}
  (hc:X.calm=true) (T:Turn X.prog X.w X.K tg J fp it tn) (bg:PG (jh X sc N z) tg (g z)) (bt:HH (jh X sc N z) ifs (tt z)) (be:PE (jh X sc N z) elt (te z))
  (keep:∀{pins:List (Addr×Obj)} {σ':St} {H':Hp} {s':Shared},Inv (jh X sc N z) pins σ' H' s'->Inv (jh X sc N z) pins σ0 H' s')
  (stat:∀{H':Hp},(∀b∈fp,H' b=none)->∀b∈fp,iE (jh X sc N z) [] H' b)
  (I4:Inv (jh X sc N z) [] σ0 H4 s4) (st4:tn 0 s4.heap) (fr4:∀b∈fp,H4 b=none) (w0:W 0 [] H4)
  (turn:∀i ys H,i<=M->W i ys H->(J.stop i H/\Q (.ref D) H)\/(i < M/\J.go i H/\∀x H',J.yld i H x H'->g z x σ0 H' λσ2 H2=>tt z σ2 H2 λb H3 =>
   if b=true then te z σ2 H3 λy H4=>H4 D=some (.lst ys)/\ys.length<sizeLine/\W (i+1) (ys++[y]) (upd H4 D (.lst (ys++[y])))
   else W (i+1) ys H3))
  (hR:∀σ' H' s',Inv (jh X sc N z) [] σ' H' s'->Q (.ref D) H'->R (.ok .next) s') :
  codeAny (model X.prog X.w) X.A (.compLoop (.ListComp elt [#[tg,iter,ifs,0]] sc pos) 0 (.ref it) (.ref D) (jh X sc N z).env) R s4:=by
 apply pj (λn s'=>∃i ys H',n=M-i/\i<=M/\Inv (jh X sc N z) [] σ0 H' s'/\tn i s'.heap/\(∀b∈fp,H' b=none)/\W i ys H') ?_ M #[0,[],H4,rfl,LA _,I4,st4,fr4,w0]
 rintro n s3 ⟨i,ys,H3,rfl,hiM,I3,st3,fr3,w3⟩
 rcases turn i ys H3 hiM w3 with⟨stop,qn⟩|⟨hlt,go,step⟩
 ·apply cD (T.done (jh X sc N z) rfl rfl rfl hc i [] s3 σ0 H3 (λ_ _=>False) I3 (stat fr3) st3 stop) λr s4 hZ=>?_
  obtain⟨hr,I4⟩:=hZ
  subst hr
  exact hR σ0 H3 s4 I4 qn
 ·apply cD (T.item (jh X sc N z) rfl rfl rfl hc i [] s3 σ0 H3 (λ_ _=>False) I3 (stat fr3) st3 go) λr s4 hZ=>?_
  obtain⟨u,hr,h4⟩:=hZ
  subst hr
  apply cD h4 λ_ s5 hZ=>?_
  obtain⟨x,H5,I5,r5,y5,st5,fr5⟩:=hZ
  have I5':=I5.pinned (stat fr5) (T.obj _ _ st5)
  apply cD (bg _ s5 σ0 H5 x u _ I5' r5 (step x H5 y5)) λ_ s6 hZ=>?_
  obtain⟨σ6,H6,I6,q6⟩:=hZ
  apply cD (bt _ s6 σ6 H6 _ I6 q6) λb s7 hZ=>?_
  obtain⟨H7,I7,q7⟩:=hZ
  have again:∀{ys':List V} {H8:Hp} {s8:Shared},Inv (jh X sc N z) ([]++og fp s5.heap) σ6 H8 s8->W (i+1) ys' H8->∃m,m<M-i/\∃i ys H',m=M-i/\i<=M/\Inv (jh X sc N z) [] σ0 H' s8/\tn i s8.heap/\(∀b∈fp,H' b=none)/\W i ys H':=λ{ys' H8 s8} I8 w8=>by
   apply#[M-(i+1),by lia,i+1,ys',H8,rfl,hlt,keep I8.kr,T.keep _ _ _ st5 λb hb o e=>(I8.pin (b,o) (Lp _ (Lp _ (hX hb e)))).1,λb hb=>?_,w8]
   obtain⟨o,e,d⟩:=T.obj _ _ st5 b hb
   exact(I8.pin (b,o) (Lp _ (Lp _ (hX hb e)))).2.1
  cases b with
  |false =>
   rw[Le (by decide)]
   rw[Le (by decide)]at q7
   exact again I7 q7
  |true =>
   rw[Ls rfl]
   rw[Ls rfl]at q7
   apply cD (be _ s7 σ6 H7 _ I7 q7) λyu s8 hZ=>?_
   obtain⟨y,H8,I8,r8,hD,hz,q8⟩:=hZ
   exact cD (bb _ s8 σ6 H8 (.ref D) [y] (.ref D) [yu] (λ_ H9=>H9=upd H8 D (.lst (ys++[y]))) I8 rfl (.cons r8 .nil) #[D,ys,y,rfl,rfl,hD,hz,rfl]) λ_ s9 #[_,H9,I9,_,e9]=>by
    subst e9
    exact again I9 q8
def cE{elt tg iter:Expr}{ifs:List Expr}{pos:Pos}{wi:TI}{g:BX->TG}{tt:BX->TT}{te:BX->TE}(hc:X.calm=true)(hi:PI X tg iter wi)(S:dC X N n ci sc)
  (hb:∀z:BX,PG (jh X sc N z) tg (g z)/\HH (jh X sc N z) ifs (tt z)/\PE (jh X sc N z) elt (te z))
  (hs:∀x,foldedSetIterable iter X.env x=pure x:=by intro _;rfl):PE X (.ListComp elt [#[tg,iter,ifs,0]] sc pos) (FR n ci wi g tt te):=by
 intro pins s σ H Q I h
 rw[eval_ListComp]
 apply Py (use:=none) rfl hs (oz (S.o7 I.ok)) S.kind S.loc (cD (hi pins s σ H _ I h) λv s1 h1=>cD h1 λitv s2 h2=>?_)
 obtain⟨it,fp,tn,J,H2,e,I2,T,st2,f2,rd⟩:=h2
 subst e
 apply Mj (wpAny_newFunctionEnv S.nocell (by intro y hy;simp at hy) (λh₁ hns₁ hsb₁=>?_) S.kind)
 dsimp only at hns₁ hsb₁ ⊢
 have hD:H2 s2.heap.objs.size=none:=I2.hok.fresh (La _)
 have I3:Inv X pins σ (upd H2 s2.heap.objs.size (.lst [])) { s2 with heap:=s2.heap.push { cls:=.type "list",data:=.seq ([]:List Value).toArray } }:=I2.GZ (t':=s2.toks) (ys:=[]) (its:=[]) .nil (LA _)
 have ob2:∀b∈fp,∃o,s2.heap.get? b=some o:=λb hb=>let #[o,e,_]:=T.obj _ _ st2 b hb;#[o,e]
 have neD:∀b∈fp,b≠s2.heap.objs.size:=λb hb=>let #[o,e]:=ob2 b hb;LB (Li e)
 have f3:∀b∈fp,iE X pins (upd H2 s2.heap.objs.size (.lst [])) b:=λb hb=>#[by rw[ai (neD b hb)];exact(f2 b hb).1,(f2 b hb).2]
 have ob3:∀b∈fp,∃o,(s2.heap.push { cls:=.type "list",data:=.seq ([]:List Value).toArray }).get? b=some o:=λb hb=>let #[o,e]:=ob2 b hb;#[o,K8 _ e]
 have k3:∀b o,(s2.heap.push { cls:=.type "list",data:=.seq ([]:List Value).toArray }).get? b=some o->h₁.get? b=some o:=λb o e =>
  hsb₁.extBut b o (LB (Li e)) (K8 _ e)
 have I4:Inv (jh X sc N #[_,{ s2 with heap:=s2.heap.push { cls:=.type "list",data:=.seq ([]:List Value).toArray } },upd H2 s2.heap.objs.size (.lst []),fp]) [] (tU n ci σ) (upd H2 s2.heap.objs.size (.lst []))
   { s2 with heap:=h₁,toks:=s2.toks+([]:List (Str×Value)).length }:=qi (s:={ s2 with heap:=s2.heap.push { cls:=.type "list",data:=.seq ([]:List Value).toArray } }) S I3 f3 ob3 k3 hns₁
 have st4:tn 0 h₁:=T.keep _ _ _ st2 λb hb o e=>k3 b o (K8 _ e)
 obtain⟨M,W,w0,turn⟩:=rd #[_,{ s2 with heap:=s2.heap.push { cls:=.type "list",data:=.seq ([]:List Value).toArray } },upd H2 s2.heap.objs.size (.lst []),fp] s2.heap.objs.size hD
 obtain⟨bg,bt,be⟩:=hb #[_,{ s2 with heap:=s2.heap.push { cls:=.type "list",data:=.seq ([]:List Value).toArray } },upd H2 s2.heap.objs.size (.lst []),fp]
 have ok3:=vi S I3 f3 ob3
 have stat:∀{H':Hp},(∀b∈fp,H' b=none)->∀b∈fp,iE (jh X sc N #[_,{ s2 with heap:=s2.heap.push { cls:=.type "list",data:=.seq ([]:List Value).toArray } },upd H2 s2.heap.objs.size (.lst []),fp]) [] H' b:=λhn b hb=>by
  obtain⟨_,f1,f2',_,f4,_⟩:=f3 b hb
  apply#[hn b hb,?_,ok3.exfs b hb,.inl hb,λx c e=>?_,λp hp=>absurd hp (by simp)]
  ·exact LB (let #[o,e]:=ob3 b hb;Li e)
  ·exact f4 x c (dh _ _ (S.o7 I3.ok) (by simp) x c e)
 have loop:codeAny (model X.prog X.w) X.A (.compLoop (.ListComp elt [#[tg,iter,ifs,0]] sc pos) 0 (.ref it) (.ref s2.heap.objs.size) (compEnvC sc (jo X.env sc.names []) (s2.heap.push { cls:=.type "list",data:=.seq ([]:List Value).toArray }).objs.size X.env))
   (compPost (model X.prog X.w) X.A X.xe none (EP X pins σ Q) (.ref s2.heap.objs.size) (s2.heap.push { cls:=.type "list",data:=.seq ([]:List Value).toArray }).objs.size) { s2 with heap:=h₁,toks:=s2.toks+([]:List (Str×Value)).length }:=by
  apply uy (W:=W) (M:=M) (σ0:=tU n ci σ) (Q:=Q) hc T bg bt be (λ{pins' σ' H' s'} J'=>?_) stat I4 st4 (λb hb=>(f3 b hb).1) w0 turn λσ' H' s' J' q=>?_
  ·exact tV S I3 f3 J'
  ·obtain⟨m',hn',_⟩:=J'.loc
   apply#[m',hn',λh' hs'=>?_]
   exact#[.ref s2.heap.objs.size,H',oR (s:={ s2 with heap:=s2.heap.push { cls:=.type "list",data:=.seq ([]:List Value).toArray } }) I3 f3 J' hs',rfl,q]
 exact codeAny_compStart_list loop (T.self _ 0 _ _ _ st4 loop)
end
structure JL(so:Scope)(N0 N:List Str)(n:Nat)(ci:List Nat)(sc:Scope):Prop where
 kind:sc.kind=.function
 nocell:∀y∈sc.names,y.2≠.cell
 loc:∀y∈sc.names,y.2=.local->sc.names.lookup y.1=some .local
 fr:∀y∈sc.names,y.2=.free->so.names.lookup y.1=some .cell\/so.names.lookup y.1=some .free
 len:N.length=n+ci.length
 caps:N.drop n=ci.map λi=>N0.getD i #[#[]]
 ins:∀i∈ci,i<N0.length
 uW:∀x∈N.drop n,sc.names.lookup x=some .free
def JL.of{X:Cx}{so sc:Scope}{N0 N:List Str}{n:Nat}{ci:List Nat}(h:JL so N0 N n ci sc)(e1:X.env.scope=so:=by rfl)(e2:X.N=N0:=by rfl):dC X N n ci sc where
 kind:=h.kind
 nocell:=h.nocell
 loc:=h.loc
 fr:=λy hy hf=>by rw[e1];exact h.fr y hy hf
 len:=h.len
 caps:=λj i e=>by
  have hm:i∈ci:=Lg e
  have hi:=h.ins i hm
  have q:(N.drop n)[j]?=some (N0.getD i #[#[]]):=by rw[h.caps,LD,e];rfl
  apply#[N0.getD i #[#[]],?_,?_,?_]
  ·rw[Pf]at q;exact q
  ·rw[e2,Lb,K7 hi];rfl
  ·exact h.uW _ (Lg q)
def oO{X:Cx}{so sc:Scope}{N0 N M:List Str}{n:Nat}{ci:List Nat}(S:aF N0 M so)(h:JL so N0 N n ci sc:=by exact#[rfl,by decide +kernel,by decide +kernel,by decide +kernel,rfl,rfl,by decide +kernel,by decide +kernel])(e1:X.env.scope=so:=by rfl)(e2:X.N=N0:=by rfl):dC X N n ci sc:=h.of e1 e2
def kJ(i:Nat){X:Cx}{sc:Scope}{N:List Str}{z:BX}{x:Str}{p:Pos}(hn:N.Nodup:=by decide +kernel)(hi:N[i]?=some x:=by rfl)(hx:Loc (jh X sc N z).env.scope x:=by exact Or.inl rfl)(hf:(jh X sc N z).fn x=true\/(jh X sc N z).env.scope.names.lookup x=some .local:=by first|exact .inl rfl|exact .inr rfl|assumption):PG (jh X sc N z) (.Name x p) (fi i):=yA (X:=jh X sc N z) (i:=i) hn hi hx hf
end L2
namespace UfSet
open PySem
def eZ(w:World):Bool:=w.params.followText "set-order"
abbrev fQ(w:World):List Str->List (Int×Value)->Prop:=Paired λk e=>e.1=hashStr w k/\∃tk,e.2=.str k tk
def dS(w:World)(h:Heap)(a:Addr)(ks:List Str):Prop :=
 ∃o es ep t ks',h.get? a=some o/\o.ExactSet/\o.data=.set es ep t/\fQ w ks' es.toList/\ks'.Perm ks/\ks.Nodup /\
  es.size<scanBound/\t.fits es.size=true/\(t.plain=true->es.size=0)/\t.led = !eZ w
theorem fQ.elems{prog:Program}{w:World}:∀{ks:List Str} {es:List (Int×Value)},fQ w ks es->ElemsOf (strKind prog w) es
 |_,_,.nil=>λe he=>by simp at he
 |_,_,.cons (a:=k) (b:=e) h t=>λx hx=>by
  rcases Lc.mp hx with rfl|hx
  ·obtain⟨h1,tk,h2⟩:=h
   apply#[#[k,?_,h1],?_]
   ·show Value.isStrOf k x.2=true
    rw[h2];simp[Value.isStrOf]
   ·rw[h2];rfl
  ·exact fQ.elems (prog:=prog) t x hx
theorem fQ.mem{w:World}{k:Str}:∀{ks:List Str} {es:List (Int×Value)},fQ w ks es->(k∈ks↔∃e∈es,Value.isStrOf k e.2=true)
 |_,_,.nil=>by simp
 |_,_,.cons (a:=j) (b:=e) h t=>by
  obtain⟨h1,tk,h2⟩:=h
  have ih:=fQ.mem (k:=k) t
  have hd:Value.isStrOf k e.2=true↔k=j:=by
   rw[h2]
   constructor
   ·intro q
    obtain⟨u,hu⟩:=Value.isStrOf_shape q
    injection hu with hx _
    exact hx.symm
   ·rintro rfl;simp[Value.isStrOf]
  rw[Lc,ih]
  constructor
  ·rintro(q|⟨x,hx,q⟩)
   ·exact#[e,LK,hd.mpr q]
   ·exact#[x,LJ _ hx,q]
  ·rintro⟨x,hx,q⟩
   rcases Lc.mp hx with rfl|hx
   ·exact .inl (hd.mp q)
   ·exact .inr #[x,hx,q]
def fQ.perm{w:World}{es es':List (Int×Value)}(p:List.Perm es' es):∀{ks:List Str},fQ w ks es->∃ks',fQ w ks' es'/\ks'.Perm ks:=by
 have back:∀{es es':List (Int×Value)},List.Perm es es'->∀{ks:List Str},fQ w ks es->∃ks',fQ w ks' es'/\ks'.Perm ks:=by
  intro es es' p
  induction p with
  |nil=>intro ks h;exact#[ks,h,.refl _]
  |cons x _ ih =>
   intro ks h
   cases h with
   |cons h t =>
    obtain⟨ks',h',q⟩:=ih t
    exact#[_::ks',.cons h h',q.cons _]
  |swap x y l =>
   intro ks h
   cases h with
   |cons h t =>
    cases t with
    |cons h2 t=>exact#[_,.cons h2 (.cons h t),.swap _ _ _]
  |trans _ _ ih1 ih2 =>
   intro ks h
   obtain⟨k1,h1,q1⟩:=ih1 h
   obtain⟨k2,h2,q2⟩:=ih2 h1
   exact#[k2,h2,q2.trans q1]
 intro ks h
 exact back p.symm h
theorem fQ.snoc{w:World}{k:Str}{tk:Tok}:∀{ks:List Str} {es:List (Int×Value)},fQ w ks es->fQ w (ks++[k]) (es++[(hashStr w k,Value.str k tk)])
 |_,_,.nil=>.cons #[rfl,tk,rfl] .nil
 |_,_,.cons h t=>.cons h (fQ.snoc t)
def fQ.len{w:World}{ks:List Str}{es:List (Int×Value)}(h:fQ w ks es):ks.length=es.length:=Lz h
def wx(t:SetTable)(es:Array (Int×Value))(h:Int)(x:Value):(layNew t es h x).2.1.led=t.led:=by
 unfold layNew
 split
 ·show(SetTable.orStandIn _ _).led=_
  unfold SetTable.orStandIn
  split <;> rfl
 ·rfl
def rN(t:SetTable)(es:Array (Int×Value))(h:Int)(x:Value):(layNew t es h x).2.1.plain=true->t.plain=true:=by
 unfold layNew
 split
 ·show(SetTable.orStandIn _ _).plain=true->_
  unfold SetTable.orStandIn
  split
  ·exact id
  ·intro q;cases q
 ·intro q;cases q
def rf(t:SetTable)(es:Array (Int×Value))(n:Nat):(relayAll t es n).2.1.led=t.led:=by
 unfold relayAll
 split
 ·rename_i t' order hr
  dsimp only
  split
  ·unfold SetTable.relaid SetTable.laid at hr
   simp only[Qw,PM]at hr
   obtain⟨ow,_,hr⟩:=hr
   cases hr
   rfl
  ·rfl
 ·rfl
def m5(t:SetTable)(es:Array (Int×Value))(n:Nat):(relayAll t es n).2.1.plain=true->t.plain=true:=by
 unfold relayAll
 split
 ·rename_i t' order hr
  dsimp only
  split
  ·unfold SetTable.relaid SetTable.laid at hr
   simp only[Qw,PM]at hr
   obtain⟨ow,_,hr⟩:=hr
   cases hr
   exact id
  ·intro q;cases q
 ·intro q;cases q
def AD{h:Heap}{a:Addr}{o:Obj}{es es':Array (Int×Value)}{ep:Nat}{t t':SetTable}(ho:h.get? a=some o)(hd:o.data=.set es ep t) :
  (h.update a (Obj.putSet es' t')).get? a=some { o with data:=.set es' (ep+1) t' }:=by
 have q:=MR (Obj.putSet es' t') ho (by rw[putSet_of es' t' hd];rfl)
 rw[putSet_of es' t' hd]at q
 exact q
def yt{g:Bool->Sem Unit}(hg:∀(b:Bool) (s₁:Shared) (Q':Unit->Shared->Prop),Q' () s₁->wpAny (model prog w) A (g b) Q' E s₁){a:Addr}{o:Obj}{es es1:Array (Int×Value)}{ep:Nat}{t t2:SetTable}
  {ks ks1:List Str} {dm:Bool} {R:Option Bool->Shared->Prop} (ho:s.heap.get? a=some o) (hex:o.ExactSet) (hd:o.data=.set es ep t) (he:fQ w ks1 es1.toList) (hp:ks1.Perm ks) (hn:ks.Nodup)
  (hb:es1.size<scanBound) (hf:t2.fits es1.size=true) (hpl:t2.plain=false) (hle:t2.led = !eZ w)
  (h:∀h',Heap.SameBut a s.heap h'->dS w h' a ks->R (some true) { s with heap:=h' }) :
  wpAny (model prog w) A (do
    storeSet a es1 t2
    if (!dm&&t2.tooFull)=true then do
      g (relayAll t2 es1 (SetTable.grown es1.size)).2.2
      storeSet a (relayAll t2 es1 (SetTable.grown es1.size)).1 (relayAll t2 es1 (SetTable.grown es1.size)).2.1
      pure (some true)
     else pure (some true)) R E s:=by
 apply K3 (wpAny_storeSet_of ho hd ?_ (OD hb))
 have ho1:=AD (es':=es1) (t':=t2) ho hd
 have sb1:=Mg s.heap a (Obj.putSet es1 t2)
 by_cases hc:(!dm&&t2.tooFull)=true
 ·rw[Ls hc]
  have q1:=relayAll_perm t2 es1 (SetTable.grown es1.size)
  have q2:=relayAll_fits t2 es1 (SetTable.grown es1.size)
  have q3:=rf t2 es1 (SetTable.grown es1.size)
  have q4:=m5 t2 es1 (SetTable.grown es1.size)
  generalize relayAll t2 es1 (SetTable.grown es1.size)=L at q1 q2 q3 q4 ⊢
  obtain⟨es2,t3,gave⟩:=L
  dsimp only at q1 q2 q3 q4 ⊢
  have zs:es2.size=es1.size:=by rw[<-MB,q1.length_eq,MB]
  apply K3 (hg _ _ _ ?_)
  apply K3 (wpAny_storeSet_of ho1 rfl ?_ (OD (by rw[zs];exact hb)))
  have ho2:=AD (es':=es2) (t':=t3) ho1 rfl
  obtain⟨ks2,e2,p2⟩:=he.perm q1
  apply K6 (h _ (sb1.trans (Mg _ a _)) #[_,es2,ep+1+1,t3,ks2,ho2,hex,rfl,e2,p2.trans hp,hn,by rw[zs];exact hb,q2,λz=>?_,q3.trans hle])
  rw[hpl]at q4
  exact absurd (q4 z) LI
 ·rw[Le hc]
  exact K6 (h _ sb1 #[_,es1,ep+1,t2,ks1,ho1,hex,rfl,he,hp,hn,hb,hf,λz=>(by rw[hpl]at z;cases z),hle])
def fu(ks:List Str)(k:Str):List Str:=if k∈ks then ks else ks++[k]
def ip{ks:List Str}{k:Str}(h:ks.Nodup):(fu ks k).Nodup:=by
 unfold fu
 split
 ·exact h
 ·rename_i q
  apply L1.mpr #[h,by simp,λa ha b hb=>?_]
  have:b=k:=by simpa using hb
  subst this
  rintro rfl
  exact q ha
def lM(ks:List Str)(k:Str):(fu ks k).length<=ks.length+1:=by
 unfold fu
 split
 ·lia
 ·simp
def vZ{a:Addr}{ks:List Str}{k:Str}{tk:Tok}{Q:Bool->Shared->Prop}(hS:dS w s.heap a ks)(hroom:ks.length+1<scanBound)
  (h:∀(h':Heap) (b:Bool),Heap.SameBut a s.heap h'->dS w h' a (fu ks k)->Q b { s with heap:=h' }):wpAny (model prog w) A (setAddHashed a (.str k tk) (hashStr w k)) Q E s:=by
 obtain⟨o,es,ep,t,ks',ho,hex,hd,he,hp,hn,hb,hf,hpl,hle⟩:=hS
 have hel:ElemsOf (strKind prog w) es.toList:=he.elems
 have hkey:(strKind prog w).is k (.str k tk)=true:=by simp[strKind,Value.isStrOf]
 have hsc:(Value.str k tk).scannable=true:=rfl
 have szl:es.size=ks.length:=by rw[<-hp.length_eq,he.len,MB]
 unfold setAddHashed setAddHashedIn
 apply Mn (K3 (Nv ho hd hf ?_))
 dsimp only
 rw[byScan_of hsc hb hel]
 simp only[↓reduceIte]
 unfold setAddByScan
 apply K3 ?_
 apply K3 (MV ?_)
 apply K3 (wpAny_setScan_of (knd:=strKind prog w) hkey ho hd hf hel ?_)
 cases hr:List.findIdx? (λe=>(strKind prog w).is k e.2) es.toList with
 |some j =>
  dsimp only
  obtain⟨hj,hpj,_⟩:=List.findIdx?_eq_some_iff_getElem.mp hr
  have hin:k∈ks:=hp.mem_iff.mp (he.mem.mpr #[es.toList[j],Oa hj,hpj])
  apply K6 (K6 ?_)
  have e:s={ s with heap:=s.heap }:=by cases s;rfl
  rw[e]
  apply h s.heap _ (Heap.SameBut.refl a s.heap) ?_
  unfold fu
  rw[Ls hin]
  exact#[o,es,ep,t,ks',ho,hex,hd,he,hp,hn,hb,hf,hpl,hle]
 |none =>
  dsimp only
  have hout:¬k∈ks:=λz=>by
   obtain⟨e,he',q⟩:=he.mem.mp (hp.mem_iff.mpr z)
   have:=List.findIdx?_eq_none_iff.mp hr e he'
   rw[show(strKind prog w).is k e.2=Value.isStrOf k e.2 from rfl,q]at this
   cases this
  have gw:∀(b:Bool) {s₁:Shared} {Q':Unit->Shared->Prop},Q' () s₁->wpAny (model prog w) A (match b with|true=>rule "set.scan.the-table-gave-way" | false=>pure ()) Q' E s₁:=λb s₁ Q' hq=>by
   cases b with
   |true=>exact MV hq
   |false=>exact K6 hq
  have q1:=layNew_perm t es (hashStr w k) (.str k tk)
  have q2:=layNew_fits t es (hashStr w k) (.str k tk)
  have q3:=wx t es (hashStr w k) (.str k tk)
  have q4:=rN t es (hashStr w k) (.str k tk)
  have hsame:(strKind prog w).hash k=hashStr w k:=rfl
  generalize layNew t es (hashStr w k) (.str k tk)=L at q1 q2 q3 q4 ⊢
  obtain⟨es1,t1,dm,gave⟩:=L
  dsimp only at q1 q2 q3 q4 ⊢
  rw[Nw]at q1
  obtain⟨ks1,e1,p1⟩:=(he.snoc (k:=k) (tk:=tk)).perm q1
  have p2:ks1.Perm (fu ks k):=by
   unfold fu
   rw[Le hout]
   exact p1.trans (hp.append_right _)
  have z1:es1.size=ks.length+1:=by rw[<-MB,<-e1.len,p1.length_eq,K5,hp.length_eq];rfl
  have b1:es1.size<scanBound:=by rw[z1];exact hroom
  apply K3 (gw _ ?_)
  by_cases hpt:t1.plain=true
  ·rw[Ls hpt]
   apply K3 ?_
   rw[hashByValue_scannable 8 hsc]
   apply K6 ?_
   apply yt (o:=o) (ks:=fu ks k) ?_ ho hex hd e1 p2 (ip hn) b1 ?_ ?_ ?_ ?_
   ·intro b s₁ Q' hq;exact gw b hq
   ·exact SetTable.fits_plain_off q2
   ·rfl
   ·exact q3.trans hle
   ·intro h' sb hS';dsimp only;exact wpAny_pure (h h' _ sb hS')
  ·rw[Le hpt]
   apply K3 (K6 ?_)
   simp only[↓reduceIte]
   apply yt (o:=o) (ks:=fu ks k) ?_ ho hex hd e1 p2 (ip hn) b1 q2 (by simpa using hpt) (q3.trans hle) ?_
   ·intro b s₁ Q' hq;exact gw b hq
   ·intro h' sb hS';dsimp only;exact wpAny_pure (h h' _ sb hS')
def dk:Slot "set_iterator" "__next__" "set_iterator.__next__" :=
 .of (owner:="set_iterator") (n:="__next__") (by rw[OS,NX];kernel_rfl) (by decide +kernel) (by decide +kernel) (by decide +kernel)
  (by first|exact .inl (by decide +kernel)|exact .inr (by decide +kernel)) (by rw[Qe];kernel_rfl)
def jV:Slot "set_iterator" "__iter__" "set_iterator.__iter__" :=
 .of (owner:="set_iterator") (n:="__iter__") (by rw[OS,NX];kernel_rfl) (by decide +kernel) (by decide +kernel) (by decide +kernel)
  (by first|exact .inl (by decide +kernel)|exact .inr (by decide +kernel)) (by rw[Qe];kernel_rfl)
def jr:entryFor table "set_iterator.__next__"=some Builtin.«set_iterator.__next__»:=entryFor_of_fast (by kernel_rfl)
def ph:entryFor table "set_iterator.__iter__"=some Builtin.«dict_keyiterator.__iter__» :=
 entryFor_alias (id' := "dict_keyiterator.__iter__") (by kernel_rfl) rfl (by decide +kernel) (by kernel_rfl)
def j4(a:Value):argsOk "set_iterator.__next__" #[[a],[]]:=by unfold argsOk;kernel_rfl
def rF(a:Value):argsOk "set_iterator.__iter__" #[[a],[]]:=by unfold argsOk;kernel_rfl
def sD:entryFor table "set.__iter__"=some Builtin.«frozenset.__iter__» :=
 entryFor_alias (id' := "frozenset.__iter__") (by kernel_rfl) rfl (by decide +kernel) (by kernel_rfl)
theorem jL{α:Type}:∀(xs:List α) (i:Nat) (h:i<xs.length),(xs[i]::xs.eraseIdx i).Perm xs
 |[],i,h=>absurd h (by simp)
 |x::xs,0,h=>.refl _
 |x::xs,i+1,h=>by
  have ih:=jL xs i (by simpa using h)
  show((xs[i]'(by simpa using h))::x::xs.eraseIdx i).Perm (x::xs)
  exact(List.Perm.swap _ _ _).trans (ih.cons x)
def eQ(a:Addr)(n ep:Nat)(first:Value)(i:Nat):Obj:={ cls:=.type "set_iterator",data:=.fields (List.toArray [first,.int i 0,.ref a,.int n 0,.int ep 0]) }
def vz{src:Source}{n:Nat}{Q:Nat->Shared->Prop}(hn:n≠0)(h:∀x d,x<n->Q x { s with drawn:=d }):wpAny (model prog w) A (choose src n) Q E s:=by
 intro Γ p _
 show Sem.wp _ Γ (.choose src n .pure) _ _ p s
 rw[Sem.wp_choose]
 apply#[hn,?_]
 simp only[Sem.wp_pure]
 exact h _ _ (Nat.mod_lt _ (Nat.pos_of_ne_zero hn))
theorem sX{α:Type}:∀(n:Nat) (xs:List α) (s:Shared) {Q:List α->Shared->Prop},xs.length=n->(∀ys d,ys.Perm xs->Q ys { s with drawn:=d })->wpAny (model prog w) A (drawOrder n xs) Q E s
 |0,xs,s,Q,hl,h=>by
  have:xs=[]:=NT hl
  subst this
  exact K6 (h [] s.drawn (.refl _))
 |n+1,[],s,Q,hl,h=>by simp at hl
 |n+1,x::xs,s,Q,hl,h=>by
  show wpAny _ _ (choose .order (x::xs).length >>= λi=>match (x::xs)[i]? with|some y=>(do return y::(<-drawOrder n ((x::xs).eraseIdx i)))|none=>unsupported "internal:drawOrder") _ _ s
  apply K3 (vz (by simp) λi d hi=>?_)
  have e:(x::xs)[i]?=some (x::xs)[i]:=K7 hi
  rw[e]
  dsimp only
  apply K3 (sX n _ _ (by rw[Ql,Ls hi];lia) λys d' p=>K6 ?_)
  exact h _ d' ((p.cons _).trans (jL _ _ hi))
def nv{it a:Addr}{n ep i:Nat}{first:Value}{x:Value}{Q:Option Value->Shared->Prop}(ho:s.heap.get? it=some (eQ a n ep first i))
  (h:wpAny (model prog w) A.in1 (Builtin.«set_iterator.__next__» #[[.ref it],[]]) (λfin s'=>fin=.done (.ret x)/\Q (some x) s') (λ_ _=>False) s):wpAny (model prog w) A (pyNext (.ref it)) Q E s:=by
 have hT:s.TypeIs (.ref it) "set_iterator":=#[_,ho,rfl]
 unfold pyNext
 apply K3 (Qr (NI (name:=Str.ofString "__next__") hT dk (MG dk hT jr ?_ (j4 _))))
 apply MO h (λfin s' hq=>?_) λ_ _ z=>z.elim
 obtain⟨rfl,hq⟩:=hq
 exact#[x,rfl,K6 hq]
def gh{h:Heap}{it a:Addr}{n ep i:Nat}{first:Value}{k:Nat}{x:Value}(ho:h.get? it=some (eQ a n ep first i)) :
  (h.update it (Obj.mapFields (·.setIfInBounds k x))).get? it=some { eQ a n ep first i with data:=.fields (((List.toArray [first,.int i 0,.ref a,.int n 0,.int ep 0]):Array Value).setIfInBounds k x) } :=
 MR _ ho rfl
def rL{it a:Addr}{n ep i:Nat}{first:Value}{Q:Option Value->Shared->Prop}(hh:A.handled=none)(ho:s.heap.get? it=some (eQ a n ep first i))
  (h:∀{Q' : Fin->Shared->Prop} {E' : Value->Shared->Prop},(∀h',Heap.SameBut it s.heap h'->wpAny (model prog w) A.in1 (do raiseNew (<-newExc (.type "StopIteration") [])) Q' E' { s with heap:=h' }) ->
   wpAny (model prog w) A.in1 (Builtin.«set_iterator.__next__» #[[.ref it],[]]) Q' E' s)
  (hQ:∀h',Heap.ExtBut it s.heap h'->Q none { s with heap:=h' }):wpAny (model prog w) A (pyNext (.ref it)) Q E s:=by
 have hT:s.TypeIs (.ref it) "set_iterator":=#[_,ho,rfl]
 unfold pyNext
 apply K3 (Qr (NI (name:=Str.ofString "__next__") hT dk (MG dk hT jr ?_ (j4 _))))
 apply h λh1 sb=>?_
 apply K3 ?_
 simp only[newExc,newTuple]
 apply K3 (Mj ?_ (by size_fits))
 apply K3 (m:=firstArgMember _ _) (wpAny_of_eq (a:=Value.none) (by first|rfl|(simp only[firstArgMember];rfl)) ?_)
 apply Mj ?_ (by size_fits)
 simp only[raiseNew]
 apply K3 (wpAny_handled ?_)
 have hh1:A.in1.handled=none:=hh
 rw[hh1]
 apply K3 (K6 (wpAny_throw ?_))
 apply K3 (ON (T:="StopIteration") (b:=true) #[_,Ly _ rfl,rfl] isSubtype_stop ?_)
 exact K6 (hQ _ ((sb.extBut.push _).push _))
section
variable {it a T:Addr}{o oT:Obj}{es:Array (Int×Value)}{ep i:Nat}{t:SetTable}{pl:List Nat}{c:Nat}
def vL{p:Nat}{hx:Int}{x:Value}{Q:Option Value->Shared->Prop}(ho:s.heap.get? it=some (eQ a es.size ep (.ref T) i))(ha:s.heap.get? a=some o)(hd:o.data=.set es ep t)(hf:t.fits es.size=true)
  (hT:s.heap.get? T=some oT) (hTd:oT.data=.seq (pl.map λ(j:Nat)=>Value.int j 0).toArray c) (hp:pl[i]?=some p) (hx:es[p]?=some (hx,x))
  (h:∀h',h'.get? it=some (eQ a es.size ep (.ref T) (i+1))->Heap.SameBut it s.heap h'->Q (some x) { s with heap:=h' }):wpAny (model prog w) A (pyNext (.ref it)) Q E s:=by
 apply nv (x:=x) ho ?_
 unfold Builtin.«set_iterator.__next__»
 show wpAny _ _ (fieldsOf (.ref it) >>= _) _ _ s
 apply K3 (NY ho rfl ?_)
 dsimp only
 apply K3 (M3 ha hd hf ?_)
 rw[Le (by simp)]
 show wpAny _ _ (seqItems? (.ref T) >>= _) _ _ s
 apply K3 (O8 hT hTd ?_)
 dsimp only
 have e1:((pl.map λ(j:Nat)=>Value.int j 0).toArray)[i]?=some (.int p 0):=by simp[hp]
 simp only[LW,e1]
 unfold setNextDrawn
 apply K3 (K3 (Nv ha hd hf ?_))
 dsimp only
 rw[Le (by simp)]
 simp only[hx]
 apply K6 ?_
 apply K3 (M8 ho rfl (by simp) (K6 #[rfl,h _ ?_ (Mg ..)]))
 rw[gh ho]
 simp[eQ,rawInt]
def zT{Q:Option Value->Shared->Prop}(hh:A.handled=none)(ho:s.heap.get? it=some (eQ a es.size ep (.ref T) i))(ha:s.heap.get? a=some o)(hd:o.data=.set es ep t)(hf:t.fits es.size=true)
  (hT:s.heap.get? T=some oT) (hTd:oT.data=.seq (pl.map λ(j:Nat)=>Value.int j 0).toArray c) (hp:pl[i]?=none)
  (h:∀h',Heap.ExtBut it s.heap h'->Q none { s with heap:=h' }):wpAny (model prog w) A (pyNext (.ref it)) Q E s:=by
 apply rL hh ho (λ{Q' E'} hq=>?_) h
 unfold Builtin.«set_iterator.__next__»
 show wpAny _ _ (fieldsOf (.ref it) >>= _) _ _ s
 apply K3 (NY ho rfl ?_)
 dsimp only
 apply K3 (M3 ha hd hf ?_)
 rw[Le (by simp)]
 show wpAny _ _ (seqItems? (.ref T) >>= _) _ _ s
 apply K3 (O8 hT hTd ?_)
 dsimp only
 have e1:((pl.map λ(j:Nat)=>Value.int j 0).toArray)[i]?=none:=by simpa using hp
 simp only[LW,e1]
 apply K3 (M8 ho rfl (by simp) ?_)
 apply K3 (M8 (gh ho) rfl (by simp) ?_)
 exact hq _ ((Mg ..).trans (Mg ..))
end
theorem xZ{α:Type}{next:Nat->Nat}:∀(n k:Nat) (left:List α) (out:Array α),left.length=n->∃ys:List α,ys.Perm left/\(pickOrder.go next n k left out).toList=out.toList++ys
 |0,k,left,out,hl=>by
  have:left=[]:=NT hl
  subst this
  exact#[[],.refl _,by simp[pickOrder.go]]
 |n+1,k,left,out,hl=>by
  have hlt:next k % left.length<left.length:=Nat.mod_lt _ (by lia)
  obtain⟨ys,q1,q2⟩:=xZ (next:=next) n (k+1) (left.eraseIdx (next k % left.length)) (out.push left[next k % left.length]) (by rw[Ql,Ls hlt];lia)
  apply#[left[next k % left.length]::ys,(q1.cons _).trans (jL _ _ hlt),?_]
  unfold pickOrder.go
  rw[K7 hlt]
  dsimp only
  rw[q2,Nw,Mr]
  rfl
def zm{α:Type}(next:Nat->Nat)(xs:Array α):(pickOrder next xs).toList.Perm xs.toList:=by
 obtain⟨ys,q1,q2⟩:=xZ (next:=next) xs.size 0 xs.toList #[] (by simp)
 unfold pickOrder
 rw[q2]
 simpa using q1
section
variable {it a:Addr}{o:Obj}{es:Array (Int×Value)}{ep i:Nat}{t:SetTable}
def ju{Q:Option (Value×Nat)->Shared->Prop}{sl g:Nat}(hb:eZ w=true)(ha:s.heap.get? a=some o)(hd:o.data=.set es ep t)(hf:t.fits es.size=true)
  (h:Q (((pickOrder (w.params.setOrder a ep) es)[g]?).map λe=>(e.2,sl)) s):wpAny (model prog w) A (setNext a sl g ep) Q E s:=by
 unfold setNext
 apply K3 (Nv ha hd hf ?_)
 dsimp only
 apply K3 ?_
 unfold setsByText
 apply K3 (ND (K6 ?_))
 have key:∀{α:Type} (x y:Sem α),(if (#[(model prog w).prog,(model prog w).w.params]:Setting).params.followText "set-order"=true then x else y)=x:=λx y=>Ls hb
 rw[key,Le (by simp)]
 apply K3 ?_
 unfold setWalk
 apply K3 (Nv ha hd hf ?_)
 dsimp only
 apply K3 ?_
 unfold setsByText
 apply K3 (ND (K6 ?_))
 rw[key]
 apply K3 (ND (K6 ?_))
 exact K6 h
def zD{hx:Int}{x:Value}{Q:Option Value->Shared->Prop}(hb:eZ w=true)(ho:s.heap.get? it=some (eQ a es.size ep (.int 0 0) i))(ha:s.heap.get? a=some o)(hd:o.data=.set es ep t)(hf:t.fits es.size=true)
  (hp:(pickOrder (w.params.setOrder a ep) es)[i]?=some (hx,x))
  (h:∀h',h'.get? it=some (eQ a es.size ep (.int 0 0) (i+1))->Heap.SameBut it s.heap h'->Q (some x) { s with heap:=h' }):wpAny (model prog w) A (pyNext (.ref it)) Q E s:=by
 apply nv (x:=x) ho ?_
 unfold Builtin.«set_iterator.__next__»
 show wpAny _ _ (fieldsOf (.ref it) >>= _) _ _ s
 apply K3 (NY ho rfl ?_)
 dsimp only
 apply K3 (M3 ha hd hf ?_)
 rw[Le (by simp)]
 apply K3 (ju (sl:=0) (g:=i) hb ha hd hf ?_)
 rw[LW,hp]
 dsimp only[Option.map]
 apply K3 (M8 ho rfl (by simp) ?_)
 apply K3 (M8 (gh ho) rfl (by simp) (K6 #[rfl,h _ ?_ ((Mg ..).trans (Mg ..))]))
 rw[MR _ (gh ho) rfl]
 simp[eQ,rawInt,Obj.mapFields]
def BB{Q:Option Value->Shared->Prop}(hh:A.handled=none)(hb:eZ w=true)(ho:s.heap.get? it=some (eQ a es.size ep (.int 0 0) i))(ha:s.heap.get? a=some o)(hd:o.data=.set es ep t)(hf:t.fits es.size=true)
  (hp:(pickOrder (w.params.setOrder a ep) es)[i]?=none)
  (h:∀h',Heap.ExtBut it s.heap h'->Q none { s with heap:=h' }):wpAny (model prog w) A (pyNext (.ref it)) Q E s:=by
 apply rL hh ho (λ{Q' E'} hq=>?_) h
 unfold Builtin.«set_iterator.__next__»
 show wpAny _ _ (fieldsOf (.ref it) >>= _) _ _ s
 apply K3 (NY ho rfl ?_)
 dsimp only
 apply K3 (M3 ha hd hf ?_)
 rw[Le (by simp)]
 apply K3 (ju (sl:=0) (g:=i) hb ha hd hf ?_)
 rw[LW,hp]
 dsimp only[Option.map]
 apply K3 (M8 ho rfl (by simp) ?_)
 exact hq _ (Mg ..)
end
section
variable {it a:Addr}{o:Obj}{es:Array (Int×Value)}{ep i sl:Nat}{t:SetTable}
def ku{Q:Option (Value×Nat)->Shared->Prop}{g:Nat}(hb:eZ w=false)(hl:t.led=true)(h1:es.size<=1)(ha:s.heap.get? a=some o)(hd:o.data=.set es ep t)(hf:t.fits es.size=true)
  (h:Q (match es[SetTable.below t.place sl]?,t.place[SetTable.below t.place sl]? with|some (_,x),some j=>some (x,j+1)|_,_=>none) s):wpAny (model prog w) A (setNext a sl g ep) Q E s:=by
 unfold setNext
 apply K3 (Nv ha hd hf ?_)
 dsimp only
 apply K3 ?_
 unfold setsByText
 apply K3 (ND (K6 ?_))
 have hb':w.params.followText "set-order"=false:=hb
 have h2:¬es.size > 1:=by lia
 simp only[model,hb',L5,MT]
 rw[Le (by show ¬((!t.plain&&decide (es.size > 1))=true);simp[h2])]
 apply K3 ?_
 show wpAny _ _ (if (!t.led && !es.isEmpty)=true then unsupported "set:maker-not-led" else pure ()) _ _ s
 rw[hl]
 exact K6 (K6 h)
def zI(hf:t.fits es.size=true)(h1:es.size=1):∃j,t.place = (List.toArray [j]):=by
 have q:t.place.size=1:=by
  have:=(LU.mp (show(t.place.size==es.size&&decide (t.fill<=t.mask))=true from hf)).1
  rw[h1]at this
  simpa using this
 generalize t.place=pl at q
 obtain⟨l⟩:=pl
 have q':l.length=1:=q
 match l,q' with
 |[j],_=>exact#[j,rfl]
def tP(j:Nat):SetTable.below (List.toArray [j]) 0=0:=by
 unfold SetTable.below
 simp[SetTable.below.go]
def wI(j:Nat):SetTable.below (List.toArray [j]) (j+1)=1:=by
 unfold SetTable.below
 simp[SetTable.below.go]
def Bi(t:SetTable)(n i sl:Nat):Prop:=(i=0/\sl=0)\/(i=1/\n=1/\∃j,t.place = (List.toArray [j])/\sl=j+1)
def Cg{hx:Int}{x:Value}{Q:Option Value->Shared->Prop}(hb:eZ w=false)(hl:t.led=true)(h1:es.size=1)(ho:s.heap.get? it=some (eQ a es.size ep (.int 0 0) 0))(ha:s.heap.get? a=some o)(hd:o.data=.set es ep t)(hf:t.fits es.size=true)
  (hp:es[0]?=some (hx,x))
  (h:∀h' sl,Bi t es.size 1 sl->h'.get? it=some (eQ a es.size ep (.int sl 0) 1)->Heap.SameBut it s.heap h'->Q (some x) { s with heap:=h' }):wpAny (model prog w) A (pyNext (.ref it)) Q E s:=by
 obtain⟨j,hj⟩:=zI hf h1
 apply nv (x:=x) ho ?_
 unfold Builtin.«set_iterator.__next__»
 show wpAny _ _ (fieldsOf (.ref it) >>= _) _ _ s
 apply K3 (NY ho rfl ?_)
 dsimp only
 apply K3 (M3 ha hd hf ?_)
 rw[Le (by simp)]
 apply K3 (ku (sl:=0) (g:=0) hb hl (by lia) ha hd hf ?_)
 rw[hj,tP,hp]
 show wpAny _ _ (setField (.ref it) 0 (rawInt ((j+1:Nat):Int)) >>= λ_=>setField (.ref it) 1 (rawInt (((0:Nat):Int)+1)) >>= λ_=>ret x) _ _ s
 apply K3 (M8 ho rfl (by simp) ?_)
 apply K3 (M8 (gh ho) rfl (by simp) (K6 #[rfl,h _ (j+1) (.inr #[rfl,h1,j,hj,rfl]) ?_ ((Mg ..).trans (Mg ..))]))
 rw[MR _ (gh ho) rfl]
 simp[eQ,rawInt,Obj.mapFields]
def Fc{Q:Option Value->Shared->Prop}(hh:A.handled=none)(hb:eZ w=false)(hl:t.led=true)(h1:es.size<=1)(hat:Bi t es.size i sl)(hi:es.size<=i)(ho:s.heap.get? it=some (eQ a es.size ep (.int sl 0) i))(ha:s.heap.get? a=some o)(hd:o.data=.set es ep t)
  (hf:t.fits es.size=true) (h:∀h',Heap.ExtBut it s.heap h'->Q none { s with heap:=h' }):wpAny (model prog w) A (pyNext (.ref it)) Q E s:=by
 apply rL hh ho (λ{Q' E'} hq=>?_) h
 unfold Builtin.«set_iterator.__next__»
 show wpAny _ _ (fieldsOf (.ref it) >>= _) _ _ s
 apply K3 (NY ho rfl ?_)
 dsimp only
 apply K3 (M3 ha hd hf ?_)
 rw[Le (by simp)]
 apply K3 (ku (sl:=sl) (g:=i) hb hl h1 ha hd hf ?_)
 have key:(match es[SetTable.below t.place sl]?,t.place[SetTable.below t.place sl]? with|some (_,x),some j=>some (x,j+1)|_,_=>none)=(none:Option (Value×Nat)):=by
  rcases hat with⟨rfl,rfl⟩|⟨rfl,hn,j,hj,rfl⟩
  ·have e0:es = #[]:=by
    have:es.size=0:=by lia
    exact Array.eq_empty_of_size_eq_zero this
   subst e0
   simp
  ·rw[hj,wI]
   simp
 rw[key]
 dsimp only
 apply K3 (M8 ho rfl (by simp) ?_)
 exact hq _ (Mg ..)
end
theorem fQ.get{w:World}:∀{ks:List Str} {es:List (Int×Value)} {i:Nat},fQ w ks es->i<es.length->∃hx k tk,es[i]?=some (hx,Value.str k tk)/\ks[i]?=some k
 |_,_,_,.nil,h=>absurd h (by simp)
 |_,_,0,.cons (a:=k) (b:=e) h t,_=>by
  obtain⟨h1,tk,h2⟩:=h
  obtain⟨e1,e2⟩:=e
  have h2:e2=Value.str k tk:=h2
  subst h2
  exact#[e1,k,tk,rfl,rfl]
 |_,_,i+1,.cons h t,hl=>by
  obtain⟨hx,k,tk,q1,q2⟩:=fQ.get (i:=i) t (by simpa using hl)
  exact#[hx,k,tk,by simpa using q1,by simpa using q2]
def At(ord:List Str)(i:Nat)(v:Value):Prop:=∃k tk,ord[i]?=some k/\v=Value.str k tk
def rH{it a:Addr}{n ep i:Nat}{first:Value}{Q:Value->Shared->Prop}(ho:s.heap.get? it=some (eQ a n ep first i))(h:Q (.ref it) s):wpAny (model prog w) A (pyIter (.ref it)) Q E s:=by
 have hT:s.TypeIs (.ref it) "set_iterator":=#[_,ho,rfl]
 apply wpAny_pyIter_slot hT jV (MG jV hT ph ?_ (rF _))
 show wpAny _ _ (ret (.ref it)) _ _ s
 exact K6 #[Z, "set_iterator",_,hT,dk.lookup,h]
def ub{it a T:Addr}{o oT:Obj}{es:Array (Int×Value)}{ep c:Nat}{t:SetTable}{pl:List Nat}{ks ord:List Str}(hh:A.handled=none)(ha:a≠it)(hTi:T≠it)(hd:o.data=.set es ep t)(hf:t.fits es.size=true)(he:fQ w ks es.toList)
  (hTd:oT.data=.seq (pl.map λ(j:Nat)=>Value.int j 0).toArray c) (hpl:∀(i p:Nat),pl[i]?=some p->p<es.size/\ord[i]?=ks[p]?) (hlen:pl.length=ord.length) :
  Walks prog w A it [it,a,T] [it] ord.length (At ord) (λi h=>h.get? it=some (eQ a es.size ep (.ref T) i)/\h.get? a=some o/\h.get? T=some oT) where
 sub:=λb hb=>by simp at hb;simp[hb]
 frame:=λi h h' st k=>#[k it (by simp) _ st.1,k a (by simp) _ st.2.1,k T (by simp) _ st.2.2]
 item:=λi s Q E hi st hQ=>by
  obtain⟨s1,s2,s3⟩:=st
  have hip:i<pl.length:=by lia
  have hp:pl[i]?=some pl[i]:=K7 hip
  obtain⟨hlt,hord⟩:=hpl i _ hp
  obtain⟨hx,k,tk,q1,q2⟩:=he.get (i:=pl[i]) (by simpa using hlt)
  apply vL s1 s2 hd hf s3 hTd hp (by rw[<-MC];exact q1) λh' st' sb=>?_
  exact hQ _ h' s.toks #[k,tk,hord.trans q2,rfl] #[st',sb.extBut _ _ ha s2,sb.extBut _ _ hTi s3] λb o hb e=>sb.extBut b o (λz=>hb (by simp[z])) e
 done:=λs Q E st hQ=>by
  obtain⟨s1,s2,s3⟩:=st
  exact zT hh s1 s2 hd hf s3 hTd (Ma (by lia)) λh' eb=>hQ h' s.toks λb o hb e=>eb b o (λz=>hb (by simp[z])) e
 self:=λ_ _ _ _ st hQ=>rH st.1 hQ
def wA{it a:Addr}{o:Obj}{es:Array (Int×Value)}{ep:Nat}{t:SetTable}{ord:List Str}(hh:A.handled=none)(hb:eZ w=true)(ha:a≠it)(hd:o.data=.set es ep t)(hf:t.fits es.size=true)
  (he:fQ w ord (pickOrder (w.params.setOrder a ep) es).toList) :
  Walks prog w A it [it,a] [it] ord.length (At ord) (λi h=>h.get? it=some (eQ a es.size ep (.int 0 0) i)/\h.get? a=some o) where
 sub:=λb hb=>by simp at hb;simp[hb]
 frame:=λi h h' st k=>#[k it (by simp) _ st.1,k a (by simp) _ st.2]
 item:=λi s Q E hi st hQ=>by
  obtain⟨s1,s2⟩:=st
  obtain⟨hx,k,tk,q1,q2⟩:=he.get (i:=i) (by rw[<-he.len];exact hi)
  apply zD hb s1 s2 hd hf (by rw[<-MC];exact q1) λh' st' sb=>?_
  exact hQ _ h' s.toks #[k,tk,q2,rfl] #[st',sb.extBut _ _ ha s2] λb o hb e=>sb.extBut b o (λz=>hb (by simp[z])) e
 done:=λs Q E st hQ=>by
  obtain⟨s1,s2⟩:=st
  apply BB hh hb s1 s2 hd hf ?_ λh' eb=>hQ h' s.toks λb o hb e=>eb b o (λz=>hb (by simp[z])) e
  rw[<-MC]
  exact Ma (by rw[<-he.len];exact La _)
 self:=λ_ _ _ _ st hQ=>rH st.1 hQ
def yW{it a:Addr}{o:Obj}{es:Array (Int×Value)}{ep:Nat}{t:SetTable}{ord:List Str}(hh:A.handled=none)(hb:eZ w=false)(hl:t.led=true)(h1:es.size<=1)(ha:a≠it)(hd:o.data=.set es ep t)(hf:t.fits es.size=true)
  (he:fQ w ord es.toList) :
  Walks prog w A it [it,a] [it] ord.length (At ord) (λi h=>(∃sl,Bi t es.size i sl/\h.get? it=some (eQ a es.size ep (.int sl 0) i))/\h.get? a=some o) where
 sub:=λb hb=>by simp at hb;simp[hb]
 frame:=λi h h' st k=>by
  obtain⟨⟨sl,q1,q2⟩,q3⟩:=st
  exact#[#[sl,q1,k it (by simp) _ q2],k a (by simp) _ q3]
 item:=λi s Q E hi st hQ=>by
  obtain⟨⟨sl,q1,q2⟩,q3⟩:=st
  have hlen:ord.length=es.size:=by(have:=he.len);(have el:es.toList.length=es.size:=by simp);lia
  have h0:es.size=1:=by lia
  rcases q1 with⟨rfl,rfl⟩|⟨rfl,_⟩
  ·obtain⟨hx,k,tk,e1,e2⟩:=he.get (i:=0) (by simp;lia)
   apply Cg hb hl h0 q2 q3 hd hf (by rw[<-MC];exact e1) λh' sl' oa st' sb=>?_
   exact hQ _ h' s.toks #[k,tk,e2,rfl] #[#[sl',oa,st'],sb.extBut _ _ ha q3] λb o hb e=>sb.extBut b o (λz=>hb (by simp[z])) e
  ·lia
 done:=λs Q E st hQ=>by
  obtain⟨⟨sl,q1,q2⟩,q3⟩:=st
  have hlen:ord.length=es.size:=by(have:=he.len);(have el:es.toList.length=es.size:=by simp);lia
  exact Fc hh hb hl h1 q1 (by lia) q2 q3 hd hf λh' eb=>hQ h' s.toks λb o hb e=>eb b o (λz=>hb (by simp[z])) e
 self:=λ_ _ _ _ st hQ=>by
  obtain⟨⟨sl,q1,q2⟩,q3⟩:=st
  exact rH q2 hQ
def Cc{a:Addr}{ks:List Str}{Q:Value->Shared->Prop}(hS:dS w s.heap a ks)
  (h:∀(I:Addr) (h' : Heap) (d:Drawn) (ord:List Str) (fp:List Addr) (St:Nat->Heap->Prop),ord.Perm ks->(∀A' : Around,A'.handled = none->Walks prog w A' I fp [I] ord.length (At ord) St)->St 0 h'->I ∈ fp->s.heap.objs.size<=I ->
   (∀b o,s.heap.get? b=some o->h'.get? b=some o)->(∀b∈fp,b<h'.objs.size/\(b=a\/s.heap.objs.size<=b))->Q (.ref I) { s with heap:=h',drawn:=d }) :
  wpAny (model prog w) A (pyIter (.ref a)) Q E s:=by
 obtain⟨o,es,ep,t,ks',ho,hex,hd,he,hp,hn,hb,hf,hpl,hle⟩:=hS
 have hT:s.TypeIs (.ref a) "set":=#[_,ho,hex.1]
 have alt:a<s.heap.objs.size:=Li ho
 apply wpAny_pyIter_slot hT Qf (MG Qf hT sD ?_ (PySem.F.args_set_iter_1 _))
 show wpAny _ _ (Builtin.Frozenset.sizeOf a >>= _) _ _ s
 apply K3 ?_
 unfold Builtin.Frozenset.sizeOf
 apply K3 (M3 ho hd hf (K6 ?_))
 apply K3 ?_
 unfold setDrawn
 apply K3 (Nv ho hd hf ?_)
 dsimp only
 apply K3 ?_
 unfold setsByText
 apply K3 (ND (K6 (K6 ?_)))
 have key:(!(#[(model prog w).prog,(model prog w).w.params]:Setting).params.followText "set-order" && (!t.plain&&decide (es.size > 1)))=(!eZ w&&(!t.plain&&decide (es.size > 1))):=rfl
 show wpAny _ _ (do
  let first <-if (!(#[(model prog w).prog,(model prog w).w.params]:Setting).params.followText "set-order" && (!t.plain&&decide (es.size > 1)))=true then newTuple ((<-drawOrder es.size (List.range es.size)).map λ(i:Nat)=>rawInt i) else pure (rawInt 0)
  ret (<-newFields "set_iterator" [first,rawInt 0,.ref a,rawInt es.size,rawInt (<-setEpoch a)])) _ _ s
 rw[key]
 by_cases hdr:(!eZ w&&(!t.plain&&decide (es.size > 1)))=true
 ·rw[Ls hdr]
  have zs:es.size<=sizeLine:=OD hb
  apply K3 (sX es.size (List.range es.size) s (by simp) λpl d hpp=>?_)
  have hl:pl.length=es.size:=by rw[hpp.length_eq];simp
  apply K3 (Mj ?_ (by show(pl.map λ(i:Nat)=>rawInt i).toArray.size<=sizeLine;simp;lia))
  apply K3 (wpAny_setEpoch_of (o:=o) (es:=es) (t:=t) (ep:=ep) (K8 _ ho) hd hf ?_)
  apply K3 (Mj (K6 #[Z, "set_iterator",_,#[_,Ly _ rfl,rfl],dk.lookup,?_]) (by size_fits))
  dsimp only
  have e1:(s.heap.push { cls:=.type "tuple",data:=.seq (pl.map λ(i:Nat)=>rawInt i).toArray }).objs.size=s.heap.objs.size+1:=by rw[MJ]
  have f:∀p,p<es.size->∃k,ks'[p]?=some k:=λp hp'=>by
   obtain⟨_,k,_,_,q⟩:=he.get (i:=p) (by simpa using hp')
   exact#[k,q]
  apply h _ _ d (pl.map λp=>ks'.getD p #[#[]]) [_,a,s.heap.objs.size] _ ?_ (λA' hh'=>ub (T:=s.heap.objs.size) (oT:={ cls:=.type "tuple",data:=.seq (pl.map λ(i:Nat)=>rawInt i).toArray }) (pl:=pl) hh' ?_ ?_ hd hf he rfl (λi p hip=>?_) (by simp)) #[Ly _ rfl,K8 _ (K8 _ ho),K8 _ (Ly _ rfl)] (by simp) (by rw[e1];lia) (λb ob e=>K8 _ (K8 _ e)) λb hb'=>?_
  ·have q:=hpp.map (λp=>ks'.getD p ⟨#[]⟩)
   have e2:(List.range es.size).map (λp=>ks'.getD p #[#[]])=ks':=by
    have hk:ks'.length=es.size:=by rw[he.len];simp
    rw[<-hk]
    apply List.ext_getElem (by simp) λi h1 h2=>?_
    simp[Lb,K7 h2]
   rw[e2]at q
   exact q.trans hp
  ·rw[e1];exact LB (L3 alt)
  ·rw[e1];exact LB (MS _)
  ·have hm:p∈List.range es.size:=hpp.mem_iff.mp (Lg hip)
   have hlt:p<es.size:=by simpa using hm
   apply#[hlt,?_]
   obtain⟨k,hk⟩:=f p hlt
   rw[LD,hip,hk]
   simp[Lb,hk]
  ·simp only[Lc,LR,Mt]at hb'
   rw[MJ]
   rcases hb' with rfl|rfl|rfl
   ·exact#[MS _,.inr (by rw[e1];exact Mq _)]
   ·exact#[by rw[e1];exact L3 (L3 alt),.inl rfl]
   ·exact#[by rw[e1];exact L3 (MS _),.inr (La _)]
 ·rw[Le hdr]
  apply K3 (K6 ?_)
  apply K3 (wpAny_setEpoch_of (o:=o) (es:=es) (t:=t) (ep:=ep) ho hd hf ?_)
  apply K3 (Mj (K6 #[Z, "set_iterator",_,#[_,Ly _ rfl,rfl],dk.lookup,?_]) (by size_fits))
  have old:∀b ob,s.heap.get? b=some ob->(s.heap.push { cls:=.type "set_iterator",data:=.fields [rawInt 0,rawInt 0,Value.ref a,rawInt (es.size:Int),rawInt (ep:Int)].toArray }).get? b=some ob:=λb ob e=>K8 _ e
  have own:∀b∈[s.heap.objs.size,a],b<(s.heap.push { cls:=.type "set_iterator",data:=.fields [rawInt 0,rawInt 0,Value.ref a,rawInt (es.size:Int),rawInt (ep:Int)].toArray }).objs.size/\(b=a\/s.heap.objs.size<=b):=λb hb'=>by
   simp only[Lc,LR,Mt]at hb'
   rw[MJ]
   rcases hb' with rfl|rfl
   ·exact#[MS _,.inr (La _)]
   ·exact#[L3 alt,.inl rfl]
  cases hbt:eZ w with
  |true =>
   obtain⟨ord,q1,q2⟩:=he.perm (zm (w.params.setOrder a ep) es)
   exact h _ _ s.drawn ord [s.heap.objs.size,a] _ (q2.trans hp) (λA' hh'=>wA hh' hbt (LB alt) hd hf q1) #[Ly _ rfl,K8 _ ho] (by simp) (La _) old own
  |false =>
   have h1:es.size<=1:=by
    rw[hbt]at hdr
    cases hpt:t.plain with
    |true=>have:=hpl hpt;lia
    |false =>
     rw[hpt]at hdr
     by_cases hz:es.size > 1
     ·exact absurd (by simp[hz]) hdr
     ·lia
   rw[hbt]at hle
   exact h _ _ s.drawn ks' [s.heap.objs.size,a] _ hp (λA' hh'=>yW hh' hbt hle h1 (LB alt) hd hf he) #[#[0,.inl #[rfl,rfl],Ly _ rfl],K8 _ ho] (by simp) (La _) old own
def AU:typeLookup (.type "set") "__len__"=pure (some (.builtin "set.__len__")):=by rw[OS,NX];kernel_rfl
def Dc:isSubtype (.type "set") (.type "set")=pure true:=by rw[Qe];kernel_rfl
def yM:splitId "set.__len__"=some ("set","__len__"):=by decide +kernel
def oW{wr:List Addr}:∀{s s':Shared},Moved wr (λa b=>b=a) s s'->s'={ s with heap:=s'.heap,toks:=s'.toks }
 |#[h,g,d,t,o],#[h',g',d',t',o'],hm=>by
  have e1:g'=g:=hm.gens
  have e2:d'=d:=hm.drawn
  have e3:o'=o:=hm.os
  subst e1 e2 e3
  rfl
def CZ{r:Addr}{Q:Bool->Shared->Prop}(hT:s.TypeIs (.ref r) "set")(h:Q false s):wpAny (model prog w) A (Builtin.List.listLengthHint (.ref r)) Q E s:=by
 unfold Builtin.List.listLengthHint
 apply K3 (NQ hT AU ?_)
 dsimp only
 rw[yM]
 dsimp only
 apply K3 (ON (T:="set") (b:=true) hT Dc ?_)
 apply PV (λz=>absurd z (by decide)) (λ_=>?_)
 apply PV (λ_=>?_) (λz=>absurd (by decide +kernel) z)
 apply K3 (NB hT ?_)
 exact K6 h
def lY{r:Addr}{T:String}{OK:Heap->Prop}{R:Nat->(Nat->Value->Prop)->Prop}{Q:List Value->Shared->Prop}(hh:A.handled=none)(hok:OK s.heap)
  (keep:∀h h':Heap,OK h->(∀b o,h.get? b=some o->h'.get? b=some o)->OK h') (hty:∀s':Shared,OK s'.heap->s'.TypeIs (.ref r) T) (hlt:∀h,OK h->r<h.objs.size)
  (nl:(Value.type T==Value.type "list")=false) (nt:(Value.type T==Value.type "tuple")=false)
  (hint:∀(A':Around) (E':Value->Shared->Prop) (s':Shared) (Q':Bool->Shared->Prop),OK s'.heap->Q' false s'->wpAny (model prog w) A' (Builtin.List.listLengthHint (.ref r)) Q' E' s')
  (iter:∀(A' : Around) (E' : Value->Shared->Prop) (s' : Shared) (Q' : Value->Shared->Prop),OK s'.heap->(∀(I:Addr) (h' : Heap) (d:Drawn) (n:Nat) (P:Nat->Value->Prop) (fp:List Addr) (St:Nat->Heap->Prop),R n P->n<=sizeLine ->
   (∀A2:Around,A2.handled=none->Walks prog w A2 I fp [I] n P St)->St 0 h'->s'.heap.objs.size<=I->(∀b o,s'.heap.get? b=some o->h'.get? b=some o)->(∀b∈fp,b=r\/s'.heap.objs.size<=b)->Q' (.ref I) { s' with heap:=h',drawn:=d }) ->
   wpAny (model prog w) A' (pyIter (.ref r)) Q' E' s')
  (h:∀(h':Heap) (tk:Nat) (d:Drawn) (n:Nat) (P:Nat->Value->Prop) (vs:List Value),R n P->vs.length=n->(∀(j:Nat) v,vs[j]?=some v->P j v)->(∀b o,s.heap.get? b=some o->h'.get? b=some o)->s.heap.objs.size<=h'.objs.size->Q vs { s with heap:=h',toks:=tk,drawn:=d }) :
  wpAny (model prog w) A (collect (.ref r)) Q E s:=by
 unfold collect
 apply K3 (wpAny_runValue (Nb PySem.F.entry_proto_collect ?_))
 rw[MY PySem.F.plain_proto_collect _]
 show wpAny _ A.in1 (newList [] >>= λl=>again (.builtin "list.__iadd__" #[[l,.ref r],[]])) _ _ s
 apply K3 (Mj ?_)
 apply K6 #[NL PN _,Nb PySem.F.entry_list_iadd ?_]
 rw[MY PN _]
 generalize hs1:(s.heap.push { cls:=.type "list",data:=.seq ([]:List Value).toArray })=h1
 have S1:h1.get? s.heap.objs.size=some { cls:=.type "list",data:=.seq #[] }:=by rw[<-hs1];exact Ly _ rfl
 have k1:∀b ob,s.heap.get? b=some ob->h1.get? b=some ob:=λb ob e=>by rw[<-hs1];exact K8 _ e
 have z1:h1.objs.size=s.heap.objs.size+1:=by rw[<-hs1,MJ]
 have alt:r<s.heap.objs.size:=hlt _ hok
 have ok1:OK h1:=keep _ _ hok k1
 show wpAny _ A.in1 (Builtin.List.listExtendWith (.ref s.heap.objs.size) (.ref r) (.ref s.heap.objs.size)) _ _ { s with heap:=h1 }
 unfold Builtin.List.listExtendWith
 apply K3 (NB (T:=T) (hty { s with heap:=h1 } ok1) ?_)
 have e1:Builtin.List.listSameRef (.ref s.heap.objs.size) (.ref r)=false:=by simp[Builtin.List.listSameRef,M4 alt]
 simp only[e1,nl,nt,NK,L5,MT]
 apply K3 (iter _ _ { s with heap:=h1 } _ ok1 λI h2 d n P fp St hR zo W st hIz k2 hfp=>?_)
 have S2:=k2 _ _ S1
 apply K3 (Mn (hint _ _ _ _ (keep _ _ ok1 k2) ?_))
 have nfp:s.heap.objs.size∉fp:=λhm=>by
  rcases hfp _ hm with z|z
  ·exact absurd z (M4 alt)
  ·have z':h1.objs.size<=s.heap.objs.size:=z
   rw[z1]at z'
   exact absurd z' (Nat.not_succ_le_self _)
 have key:∀(h3:Heap) (c tk:Nat),St 0 h3->(∀b ob,b≠s.heap.objs.size->h2.get? b=some ob->h3.get? b=some ob)->h3.get? s.heap.objs.size=some { cls:=.type "list",data:=.seq #[] c } ->
   codeAny (model prog w) A (.builtin "list.extend.loop" #[[.ref s.heap.objs.size,.ref I,.ref s.heap.objs.size],[]])
    (λr s'=>match r with|.ok (.ret v)=>wpAny (model prog w) A (match v with|.ref b=>(load b >>= λob=>(match ob.data with|.seq xs _=>pure xs.toList|_=>unsupported "internal:collect"))|_=>unsupported "internal:collect") Q E s'|.ok _=>False|.error e=>E e s') { s with heap:=h3,toks:=tk,drawn:=d }:=by
  intro h3 c tk st3 k3 S3
  apply codeAny_extend_loopS (W A.in1 hh).toS zo s.heap.objs.size nfp _ n 0 _ #[] c rfl (LA _) st3 S3 (ItemsOf.nil _) λs' acc c' hm S' hacc=>?_
  dsimp only
  apply K3 (wpAny_load S' (K6 ?_))
  rw[oW hm]
  apply h s'.heap s'.toks d n P acc.toList hR (by rw[<-hacc.1];simp) (λj v e=>hacc.2 j v (by rw[<-MC];exact e)) (λb ob e=>?_) (Pu (Li S'))
  have nb:b≠s.heap.objs.size:=LB (Li e)
  apply hm.heap b ob (λhmem=>?_) (k3 b ob nb (k2 b ob (k1 b ob e)))
  rcases Lc.mp hmem with z|z
  ·exact nb z
  ·have z':b=I:=by simpa using z
   subst z'
   have z2:h1.objs.size<=b:=hIz
   rw[z1]at z2
   exact absurd (LF (Li e) (Nat.le_of_succ_le z2)) (Me _)
 apply PV (λ_=>?_) (λ_=>K6 #[NL Pq _,key _ 0 _ st (λb ob _ e=>e) S2])
 apply K3 (MV ?_)
 apply K3 ?_
 show wpAny _ _ (updateSeq s.heap.objs.size (·.push .none) >>= λ_=>updateSeq s.heap.objs.size (·.pop)) _ _ _
 apply K3 (wpAny_updateSeq S2 rfl ?_)
 have S3:=MR (Obj.mapSeq (·.push Value.none)) S2 rfl
 apply wpAny_updateSeq (hz:=by seq_fits) S3 rfl ?_
 have S4:=MR (Obj.mapSeq (·.pop)) S3 rfl
 have oth:∀b ob,b≠s.heap.objs.size->h2.get? b=some ob->((h2.update s.heap.objs.size (Obj.mapSeq (·.push Value.none))).update s.heap.objs.size (Obj.mapSeq (·.pop))).get? b=some ob:=λb ob nb e =>
  (MK _ _ (LO nb)).trans ((MK _ _ (LO nb)).trans e)
 exact K6 #[NL Pq _,key _ _ _ ((W A.in1 hh).frame 0 _ _ st λb hb' ob e=>oth b ob (λz=>nfp (z ▸ hb')) e) oth S4]
def uf{a:Addr}{ks:List Str}{Q:List Value->Shared->Prop}(hh:A.handled=none)(hS:dS w s.heap a ks)
  (h:∀(h':Heap) (tk:Nat) (d:Drawn) (ord:List Str) (vs:List Value),ord.Perm ks->vs.length=ord.length->(∀(j:Nat) v,vs[j]?=some v->At ord j v)->(∀b o,s.heap.get? b=some o->h'.get? b=some o)->s.heap.objs.size<=h'.objs.size->Q vs { s with heap:=h',toks:=tk,drawn:=d }) :
  wpAny (model prog w) A (collect (.ref a)) Q E s:=by
 have kp:∀h h':Heap,dS w h a ks->(∀b o,h.get? b=some o->h'.get? b=some o)->dS w h' a ks:=λh1 h2 x k=>by
  obtain⟨o,es,ep,t,ks',ho,r⟩:=x
  exact#[o,es,ep,t,ks',k _ _ ho,r]
 have ty:∀s':Shared,dS w s'.heap a ks->s'.TypeIs (.ref a) "set":=λs' x=>by
  obtain⟨o,es,ep,t,ks',ho,hex,_⟩:=x
  exact#[o,ho,hex.1]
 have zs:ks.length<=sizeLine:=by
  obtain⟨o,es,ep,t,ks',ho,hex,hd,he,hp,hn,hb,_⟩:=hS
  rw[<-hp.length_eq,he.len]
  have el:es.toList.length=es.size:=by simp
  rw[el]
  exact OD hb
 apply lY (T:="set") (OK:=λh=>dS w h a ks) (R:=λn P=>∃ord:List Str,ord.Perm ks/\n=ord.length/\P=At ord) hh hS kp ty (λh1 x=>?_) (by decide) (by decide) (λA' E' s' Q' x q=>CZ (ty s' x) q) (λA' E' s' Q' x q=>?_) ?_
 ·obtain⟨o,_,_,_,_,ho,_⟩:=x
  exact Li ho
 ·exact Cc x λI h' d ord fp St hp W st hI hIz k2 hfp=>q I h' d ord.length (At ord) fp St #[ord,hp,rfl,rfl] (by rw[hp.length_eq];exact zs) W st hIz k2 λb hb=>(hfp b hb).2
 ·rintro h' tk d n P vs ⟨ord,hp,rfl,rfl⟩ hl hat hk hz
  exact h h' tk d ord vs hp hl hat hk hz
end UfSet
namespace UfSrt
open PySem PySem.Spec PyProof.Rows
def le(a b:Str):Prop:=a.cps.toList<=b.cps.toList
def leB(a b:Str):Bool:=decide (a.cps.toList<=b.cps.toList)
def leB_iff{a b:Str}:leB a b=true↔le a b:=by simp[leB,le]
def EU{a b:Str}(h:a.cps.toList=b.cps.toList):a=b:=by
 obtain⟨x⟩:=a
 obtain⟨y⟩:=b
 have:x=y:=Array.toList_inj.mp h
 rw[this]
def EW{a b:Str}(h1:le a b)(h2:le b a):a=b:=EU (List.le_antisymm h1 h2)
def Fs{a b c:Str}(h1:le a b)(h2:le b c):le a c:=List.le_trans h1 h2
def Hj(a b:Str):le a b\/le b a:=List.le_total _ _
def aL(xs:List Str):List Str:=xs.mergeSort leB
def dy(xs:List Str):(aL xs).Perm xs:=Qx _ _
def vg(xs:List Str):(aL xs).Pairwise le:=by
 have h:=PQ (le:=leB) (λa b c h1 h2=>leB_iff.mpr (Fs (leB_iff.mp h1) (leB_iff.mp h2))) (λa b=>by
  rcases Hj a b with h|h
  ·rw[leB_iff.mpr h];rfl
  ·rw[leB_iff.mpr h,Bool.or_true]) xs
 exact h.imp λh=>leB_iff.mp h
def pw_unique{xs ys:List Str}(h1:xs.Pairwise le)(h2:ys.Pairwise le)(p:xs.Perm ys):xs=ys :=
 Ou (λa b _ _=>EW) h1 h2 p
def Ct{xs ys:List Str}(h:xs.Pairwise le)(p:xs.Perm ys):xs=aL ys:=pw_unique h (vg ys) (p.trans (dy ys).symm)
def kM{xs ys:List Str}(p:xs.Perm ys):aL xs=aL ys:=Ct (vg xs) ((dy xs).trans p)
def cQ{xs:List Str}{x:Str}:x∈aL xs↔x∈xs:=(dy xs).mem_iff
def cP(xs:List Str):(aL xs).length=xs.length:=(dy xs).length_eq
def zM{xs:List Str}:(aL xs).Nodup↔xs.Nodup:=(dy xs).nodup_iff
theorem pJ:∀{p:Str} {l:List Str},risingS p l=true->(p::l).Pairwise le
 |p,[],_=>by simp
 |p,x::r,h=>by
  have h':(!ltCps x.cps.toList p.cps.toList&&risingS x r)=true:=h
  obtain⟨h1,h2⟩:=LU.mp h'
  have ih:=pJ h2
  have hpx:le p x:=by
   rw[ltCps_eq]at h1
   exact List.not_lt.mp (by simpa using h1)
  apply Ov.mpr #[λb hb=>?_,ih]
  rcases Lc.mp hb with rfl|hb
  ·exact hpx
  ·exact Fs hpx ((Ov.mp ih).1 b hb)
def yV:∀{l:List Str},sortedS l=true->l.Pairwise le
 |[],_=>.nil
 |x::r,h=>pJ h
end UfSrt
namespace UfSort
open PySem PySem.Spec PyProof.Rows UfSrt
theorem gZ:∀{vs:List Value} {ss:List Str},StrsAre vs ss->vs.length=ss.length
 |_,_,.nil=>rfl
 |_,_,.cons _ _ h=>by rw[LN,LN,gZ h]
structure Left(h h':Heap)(D:Addr)(ss:List Str):Prop where
 keep:∀b o,h.get? b=some o->h'.get? b=some o
 new:h.objs.size<=D
 at':∃vs n,h'.get? D=some { cls:=.type "list",data:=.seq (List.toArray vs) n }/\StrsAre vs (aL ss)
def lh{r:Value}{ss:List Str}{Q:Value->Shared->Prop}
  (hc:∀{Q':List Value->Shared->Prop},(∀h' tk d vs ss',(∀b o,s.heap.get? b=some o->h'.get? b=some o)->s.heap.objs.size<=h'.objs.size->StrsAre vs ss'->ss'.Perm ss->Q' vs { s with heap:=h',toks:=tk,drawn:=d })->wpAny (model prog w) A.in1 (collect r) Q' E s)
  (h64:ss.length<64) (h:∀h' tk d D,Left s.heap h' D ss->Q (.ref D) { s with heap:=h',toks:=tk,drawn:=d }):wpAny (model prog w) A (call (.builtin "sorted") [r]) Q E s:=by
 apply Oi kind_sorted plain_sorted entry_sorted (args_sorted1 _) ?_
 unfold Builtin.«sorted»
 apply K3 (m:=checkCount "sorted" 1 1 _) (K6 ?_)
 apply K3 (hc λh1 tk d vs ss1 k1 z1 hS hp=>?_)
 have hl:vs.length=ss.length:=by rw[gZ hS,hp.length_eq]
 apply K3 (Pm ?_ (by rw[L7];lia))
 have hoL:(h1.push (seqObj "list" vs.toArray 0)).get? h1.objs.size=some (seqObj "list" vs.toArray 0):=Ly _ rfl
 apply K3 (Mn (MG slot_list_sort #[_,hoL,rfl] entry_list_sort (list_sort_treeK strKind_oneLt hoL hS.keysOf (λv₁ v₂ rest e=>keyKind_strs (by rw[<-e];exact hS)) (by lia) λst' a1 a2=>#[Z,?_]) (args_list_sort _)))
 obtain⟨ss',q1,q2,q3⟩:=sorted_out_str hS a1 a2
 obtain⟨e,he⟩:=sortedHeap_at (h:=h1.push (seqObj "list" vs.toArray 0)) (a:=h1.objs.size) (vs:=vs) (n:=0) (out:=(arrOf st').map (·.2)) hoL
 apply K6 #[Z,h _ tk d _ #[λb o hb=>?_,?_,((arrOf st').map (·.2)).toList,e,by rw[OT];exact he,?_]]
 ·have hb1:=k1 b o hb
  rw[sortedHeap_old (LB (Li hb1)) (by rw[Ob];exact L3 (Li hb1))]
  exact K8 _ hb1
 ·exact z1
 ·have:ss'=aL ss:=Ct (yV q3) (q2.trans hp)
  rw[<-this]
  exact q1
theorem xW{ord:List Str}:∀{vs:List Value} {j:Nat},vs.length+j=ord.length->(∀(i:Nat) v,vs[i]?=some v->UfSet.At ord (j+i) v)->StrsAre vs (ord.drop j)
 |[],j,hl,_=>by
  rw[Ni (by simp at hl;lia)]
  exact .nil
 |v::vs,j,hl,h=>by
  obtain⟨k,tk,e,hv⟩:=h 0 v rfl
  subst hv
  have hj:j<ord.length:=by simp at hl;lia
  have ej:ord[j]=k:=by
   rw[Qz,K7 hj]at e
   exact LS e
  rw[Oj hj,ej]
  exact .cons k tk (xW (j:=j+1) (by simp at hl;lia) λi v e=>by
   have:=h (i+1) v (by simpa using e)
   rw[show j+1+i=j+(i+1) by lia]
   exact this)
def wj{a:Addr}{ks:List Str}{Q:Value->Shared->Prop}(hh:A.handled=none)(hS:UfSet.dS w s.heap a ks)(h64:ks.length<64)
  (h:∀h' tk d D,Left s.heap h' D ks->Q (.ref D) { s with heap:=h',toks:=tk,drawn:=d }):wpAny (model prog w) A (call (.builtin "sorted") [.ref a]) Q E s :=
 lh (λ{Q'} hq=>UfSet.uf (A:=A.in1) hh hS λh' tk d ord vs hp hl hat hk hz=>hq h' tk d vs ord hk hz (by
  have:=xW (ord:=ord) (vs:=vs) (j:=0) (by lia) (λi v e=>by rw[Nk];exact hat i v e)
  simpa using this) hp) h64 h
def tL{l:Addr}{vs:List Value}{ss:List Str}{Q:Value->Shared->Prop}(hl:s.heap.IsList l vs.toArray)(hS:StrsAre vs ss)(h64:ss.length<64)
  (h:∀h' tk d D,Left s.heap h' D ss->Q (.ref D) { s with heap:=h',toks:=tk,drawn:=d }):wpAny (model prog w) A (call (.builtin "sorted") [.ref l]) Q E s :=
 lh (λ{Q'} hq=>collect_list (A:=A.in1) hl (hq _ s.toks s.drawn vs ss (λb o e=>by
  rw[MK _ _ (M4 (Li e))]
  exact K8 _ e) (by rw[Nh,Ob];exact Mq _) hS (.refl _)) (by rw[L7,gZ hS];lia)) h64 h
end UfSort
namespace UfSet
open PySem PyProof.Rows
def dd(xs:List Str):List Str:=xs.foldl fu []
def Cb{ks:List Str}{k x:Str}:x∈fu ks k↔x∈ks\/x=k:=by
 unfold fu
 split
 ·rename_i h
  constructor
  ·exact .inl
  ·rintro(q|rfl)
   ·exact q
   ·exact h
 ·simp
theorem sE{x:Str}:∀{xs acc:List Str},x∈xs.foldl fu acc↔x∈acc\/x∈xs
 |[],acc=>by simp
 |y::xs,acc=>by
  rw[MP,sE,Cb,Lc,or_assoc]
theorem ox:∀{xs acc:List Str},acc.Nodup->(xs.foldl fu acc).Nodup
 |[],_,h=>h
 |y::xs,acc,h=>ox (xs:=xs) (ip h)
theorem uE:∀{xs acc:List Str},(xs.foldl fu acc).length<=acc.length+xs.length
 |[],acc=>by simp
 |y::xs,acc=>by
  have h1:=uE (xs:=xs) (acc:=fu acc y)
  have h2:=lM acc y
  rw[MP,LN]
  lia
def sh{xs:List Str}{x:Str}:x∈dd xs↔x∈xs:=by unfold dd;rw[sE];simp
def m6(xs:List Str):(dd xs).Nodup:=ox .nil
theorem jq:∀{xs acc:List Str},(acc++xs).Nodup->xs.foldl fu acc=acc++xs
 |[],acc,_=>by simp
 |y::xs,acc,h=>by
  have hy:¬y∈acc:=λz=>by
   rw[L1]at h
   exact h.2.2 y z y LK rfl
  rw[List.foldl_cons,show fu acc y=acc++[y] by unfold fu;rw[if_neg hy],jq (by rw[List.append_assoc];exact h),List.append_assoc]
  rfl
def uC{xs:List Str}(h:xs.Nodup):dd xs=xs:=by unfold dd;rw[jq (by simpa using h)];rfl
theorem pL:∀{xs acc:List Str},acc.Nodup->(xs.foldl fu acc).length=acc.length+xs.length->(acc++xs).Nodup
 |[],acc,h,_=>by simpa using h
 |y::xs,acc,h,hl=>by
  rw[MP,LN]at hl
  by_cases hy:y∈acc
  ·rw[show fu acc y=acc by unfold fu;rw[if_pos hy]]at hl
   have:=uE (xs:=xs) (acc:=acc)
   lia
  ·have e:fu acc y=acc++[y]:=by unfold fu;rw[if_neg hy]
   rw[e]at hl
   have q:=pL (xs:=xs) (acc:=acc++[y]) (by rw[<-e];exact ip h) (by rw[K5,Np];lia)
   rw[Mr]at q
   exact q
def ve{xs:List Str}:(dd xs).length=xs.length↔xs.Nodup:=by
 constructor
 ·intro h
  have:=pL (xs:=xs) (acc:=[]) .nil (by rw[NO,Nk];exact h)
  simpa using this
 ·intro h
  rw[uC h]
section
variable {prog:Program}{w:World}{A:Around}{R:Result->Shared->Prop}{I:Addr}{fp wr:List Addr}{G:Array GenState->Array GenState->Prop}{St:Nat->Shared->Prop}
def dS.keeps{w:World}{h h':Heap}{a:Addr}{ks:List Str}(x:dS w h a ks)(k:∀o,h.get? a=some o->h'.get? a=some o):dS w h' a ks:=by
 obtain⟨o,es,ep,t,ks',ho,r⟩:=x
 exact#[o,es,ep,t,ks',k _ ho,r]
def BN{xs:List Str}(W:WalksS prog w A.in1 I fp wr G xs.length (At xs) St)(S:Addr)(hSf:S∉fp)(hb:xs.length+1<scanBound):∀(k i:Nat) (s:Shared) (acc:List Str),xs.length-i=k->i<=xs.length->St i s->dS w s.heap S acc->acc.length<=i ->
  (∀s',Moved (S::wr) G s s'->dS w s'.heap S ((xs.drop i).foldl fu acc)->R (.ok (.ret .none)) s')->codeAny (model prog w) A (.builtin "set.update.loop" #[[.ref S,.ref I],[]]) R s:=by
 have nSw:S∉wr:=λz=>hSf (W.sub _ z)
 have sub:∀b∈wr,b∈S::wr:=λb z=>LJ _ z
 intro k
 induction k with
 |zero =>
  intro i s acc hk hi st hS ha hR
  have e:i=xs.length:=by lia
  subst e
  apply Nb Ow ?_
  rw[MY Nl _]
  show wpAny _ A.in1 (pyNext (.ref I) >>= _) _ _ s
  apply K3 (W.done s _ _ st λs' hm=>?_)
  show wpAny _ A.in1 (ret Value.none) _ _ s'
  apply K6 (hR s' (hm.mono sub) ?_)
  rw[Ni (La _)]
  exact hS.keeps λo ho=>hm.heap S _ nSw ho
 |succ k ih =>
  intro i s acc hk hi st hS ha hR
  have hlt:i<xs.length:=by lia
  apply Nb Ow ?_
  rw[MY Nl _]
  show wpAny _ A.in1 (pyNext (.ref I) >>= _) _ _ s
  apply K3 (W.item i s _ _ hlt st λv s' hP st' hm=>?_)
  obtain⟨x,tk,ex,rfl⟩:=hP
  have hS':dS w s'.heap S acc:=hS.keeps λo ho=>hm.heap S _ nSw ho
  show wpAny _ A.in1 (holding [Value.str x tk] (setAdd S (.str x tk)) >>= _) _ _ s'
  apply K3 (Mn ?_)
  unfold setAdd
  apply Mn ?_
  apply K3 ((strKind prog w).pyHash (k:=x) (by simp[PySem.strKind,Value.isStrOf]) ?_)
  apply vZ (s:={ s' with toks:=s'.toks+1 }) hS' (by lia) λh' b sb hS2=>?_
  have hd:xs.drop i=x::xs.drop (i+1):=by
   rw[Oj hlt]
   rw[K7 hlt]at ex
   rw[LS ex]
  apply K6 #[NL Nl _,ih (i+1) _ (fu acc x) (by lia) hlt (W.frame _ s' _ _ st' (Mq _) λb hb' o e=>?_) hS2 (by have:=lM acc x;lia) λs'' hm2 hS3=>?_]
  ·rw[sb.2 b (λz:b=S=>hSf (by rw[<-z];exact hb'))];exact e
  ·apply hR s'' (Moved.trans W.gtrans ((hm.mono sub).then_heap (Mq _) λb o hb' e=>?_) hm2) ?_
   ·rw[sb.2 b (λz:b=S=>hb' (by rw[z];exact LK))];exact e
   ·rw[hd,MP]
    exact hS3
end
abbrev dJ(w:World):Obj:={ cls:=.type "set",dict:=none,data:=.set #[] 0 (.fresh 0 0 (!eZ w)) }
def yR{w:World}{h:Heap}{a:Addr}(ho:h.get? a=some (dJ w)):dS w h a [] :=
 #[_,#[],0,_,[],ho,#[rfl,rfl,rfl],rfl,.nil,.refl _,.nil,by show 0<scanBound;unfold scanBound;lia,by rfl,λ_=>rfl,rfl]
theorem gZ:∀{vs:List Value} {ss:List Str},StrsAre vs ss->vs.length=ss.length
 |_,_,.nil=>rfl
 |_,_,.cons _ _ h=>by rw[LN,LN,gZ h]
theorem ua:∀{vs:List Value} {ss:List Str} {i:Nat} {v:Value},StrsAre vs ss->vs[i]?=some v->At ss i v
 |_,_,_,_,.nil,e=>by simp at e
 |_,_,0,v,.cons x t h,e=>by
  have:Value.str x t=v:=by simpa using e
  exact#[x,t,rfl,this.symm]
 |_,_,i+1,_,.cons x t h,e=>by
  obtain⟨k,tk,q1,q2⟩:=ua (i:=i) h (by simpa using e)
  exact#[k,tk,by simpa using q1,q2]
def _root_.PySem.Walks.imp{prog:Program}{w:World}{A:Around}{I:Addr}{fp wr:List Addr}{n:Nat}{P P':Nat->Value->Prop}{St:Nat->Heap->Prop}(W:Walks prog w A I fp wr n P St)(h:∀i v,P i v->P' i v):Walks prog w A I fp wr n P' St where
 sub:=W.sub
 frame:=W.frame
 item:=λi s Q E hi st hQ=>W.item i s Q E hi st λv h' tk hP=>hQ v h' tk (h i v hP)
 done:=W.done
 self:=W.self
def BG(x:Value){Q:Value->Shared->Prop}(hq:Q (.ref s.heap.objs.size) { s with heap:=s.heap.push (dJ w) }) :
  codeAny (model prog w) A (.call (.builtin "set.__new__") #[[.type "set",x],[]]) (wants Q E) s:=by
 apply codeAny_of_tree ?_
 show wpAny _ A.in1 (checkBuiltinCall "set.__new__" #[[.type "set",x],[]] >>= λ_=>again (.builtin "set.__new__" #[[.type "set",x],[]])) _ _ s
 apply K3 (wpAny_of_eq (PySem.F.newCall_set_1 x) (K6 #[NL Qg _,Nb PySem.F.entry_set_new ?_]))
 rw[MY Qg _]
 unfold Builtin.«set.__new__» Builtin.Frozenset.newClass
 have f1:=sub_set_self
 obtain⟨hp,g,d,tk,os⟩:=s
 dsimp only
 wp_walk
 apply ND (K6 ?_)
 dsimp only
 simp only[newObj]
 apply K3 (wpAny_alloc (K6 ?_))
 exact K6 hq
def tE{l:Addr}{its:List Value}{xs:List Str}{Q:Value->Shared->Prop}(hh:A.handled=none)(hl:s.heap.IsList l its.toArray)(hx:StrsAre its xs)(hb:xs.length+1<scanBound)
  (h:∀(h':Heap) (tk:Nat),dS w h' s.heap.objs.size (dd xs)->(∀b o,s.heap.get? b=some o->h'.get? b=some o)->Q (.ref s.heap.objs.size) { s with heap:=h',toks:=tk }) :
  wpAny (model prog w) A (call (.type "set") [.ref l]) Q E s:=by
 obtain⟨c,tl,g1⟩:=MU.mro
 have g2:=MU.made
 have g3:=MU.sub
 apply wpAny_call (codeAny_of_tree ?_)
 show wpAny _ _ (callAny (.type "set") _) _ _ _
 apply K6 #[Code.quiet_builtin _ (by decide +kernel),Nb PySem.F.entry_type_call ?_]
 rw[Around.under_plain (weight_type_call_type "set" [.ref l] []) rfl]
 have g4:=MU.notType
 have g5:=MU.canCreate
 have g6:=PySem.F.typeCall_set_1 (.ref l)
 repeat (any_goals (first|assumption|wp_step))
 apply Oq (BG (.ref l) (E:=E) (Q:=λobj s₁=>obj=.ref s.heap.objs.size/\s₁={ s with heap:=s.heap.push (dJ w) }) #[rfl,rfl]) λr s₁ hr=>?_
 cases r with
 |error e=>exact hr
 |ok fl =>
  cases fl with
  |ret obj =>
   obtain⟨rfl,rfl⟩:=hr
   have o1:(s.heap.push (dJ w)).get? s.heap.objs.size=some (dJ w):=Ly _ rfl
   have T1:Shared.TypeIs { s with heap:=s.heap.push (dJ w) } (.ref s.heap.objs.size) "set":=#[_,o1,rfl]
   have g7:=MU.init.lookup
   have g8:=MU.init.bind (.ref s.heap.objs.size)
   repeat (any_goals (first|assumption|wp_step))
   apply Oq (codeAny_call_builtin (R:=wants (λr s₂=>r=.none/\∃h' tk,s₂={ s with heap:=h',toks:=tk }/\dS w h' s.heap.objs.size (dd xs)/\(∀b o,s.heap.get? b=some o->h'.get? b=some o)) E) MU.init.plain PySem.F.entry_set_init (check_set_init_1 T1 ?_)) λr₂ s₂ hr₂=>?_
   ·obtain⟨ol,hol,hcl,nl,hdl⟩:=hl
    obtain⟨ocls,odict,odata,oslots⟩:=ol
    simp only at hcl hdl
    subst hcl;subst hdl
    have hol':(s.heap.push (dJ w)).get? l=some { cls:=.type "list",dict:=odict,data:=.seq its.toArray nl,slots:=oslots }:=K8 _ hol
    have n1:=PySem.F.sub_list_set
    have n2:=PySem.F.sub_list_frozenset
    have n3:(Value.type "list" == Value.type "dict")=false:=by decide
    have l1:(s.heap.push (dJ w)).IsList l its.toArray:=#[_,hol',rfl,nl,rfl]
    unfold Builtin.«set.__init__» noKeywords Builtin.Frozenset.updateFrom
    generalize hPI:pyIter=PI
    wp_walk
    subst hPI
    apply NU l1 ?_
    apply K3 (wpAny_runValue ?_)
    have lt:l<s.heap.objs.size:=Li hol
    have h3:A.in1.in1.in1.handled=none:=by simp[hh]
    have neI:l≠(s.heap.push (dJ w)).objs.size:=by rw[MJ];exact LB (L3 lt)
    have nf:s.heap.objs.size∉[(s.heap.push (dJ w)).objs.size,l]:=by
     rw[MJ]
     simp only[Lc,LR,Mt,Pg]
     exact#[LB (MS _),M4 lt]
    have hat:∀(i:Nat) (v:Value),its.toArray[i]?=some v->At xs i v:=λi v e=>by
     have e':its[i]?=some v:=by simpa using e
     exact ua hx e'
    have hsz:its.toArray.size=xs.length:=by rw[Lu];exact gZ hx
    have W0:=(Walks.list (prog:=prog) (w:=w) h3 (s.heap.push (dJ w)).objs.size l neI its.toArray).imp hat
    rw[hsz]at W0
    apply BN W0.toS s.heap.objs.size nf hb xs.length 0 _ [] (by lia) (LA _) #[#[_,Ly _ rfl,rfl,rfl],(l1.push _)] (yR (K8 _ o1)) (La _) ?_
    intro s' hm hS'
    rw[OB]at hS'
    rw[oW hm]
    show wpAny _ _ _ _ _ _
    apply K6 ?_
    show wpAny _ _ (ret Value.none) _ _ _
    apply K6 #[rfl,s'.heap,s'.toks,rfl,hS',λb o e=>?_]
    have lb:=Li e
    apply hm.heap b o (λz=>?_) (K8 _ (K8 _ e))
    simp only[Lc,LR,Mt]at z
    rcases z with z|z
    ·exact absurd z (LB lb)
    ·rw[MJ]at z
     exact absurd z (LB (L3 lb))
   ·cases r₂ with
    |error e=>exact hr₂
    |ok fl₂ =>
     cases fl₂ with
     |ret r =>
      obtain⟨rfl,h',tk,rfl,q1,q2⟩:=hr₂
      repeat (any_goals (first|assumption|wp_step))
      exact h _ _ q1 q2
     |_=>exact hr₂.elim
  |_=>exact hr.elim
end UfSet
namespace L2
open PySem PySem.Spec PyProof.Rows UfSrt
section
variable {X:Cx}{pins:List (Addr×Obj)}{σ:St}{H:Hp}{s:Shared}
def Inv.draw(I:Inv X pins σ H s)(d:Drawn):Inv X pins σ H { s with drawn:=d } :=
 #[I.ok,I.os,I.bare,I.base,I.loc,I.cell,I.free,I.freeC,I.pin,I.hok,I.len]
def aE(ss:List Str):List V:=ss.map V.str
theorem qZ:∀{ss:List Str} {us:List Value},Vals (aE ss) us->StrsAre us ss
 |[],_,.nil=>.nil
 |x::ss,_,.cons r t=>by
  obtain⟨tk,rfl⟩:=r
  exact .cons x tk (qZ t)
theorem yr:∀{ss:List Str} {us:List Value},StrsAre us ss->Vals (aE ss) us
 |_,_,.nil=>.nil
 |_,_,.cons x tk h=>.cons #[tk,rfl] (yr h)
def ar(ss:List Str):(aE ss).length=ss.length:=K4 _
def mY(w:World)(a:Addr)(ks:List Str):HO:=.ext λh=>UfSet.dS w h a ks
def Hh{P:Program}{w:World}{H':Hp}{h:Heap}{a:Addr}{ks:List Str}(x:UfSet.dS w h a ks):cw P w H' h a (mY w a ks):=by
 apply#[x,?_,λh1 h2 p k=>p.keeps k]
 obtain⟨o,_,_,_,_,e,_⟩:=x
 exact#[o,e]
def Bt{a:Addr}{ks:List Str}(I:Inv X pins σ H s)(e:H a=some (mY X.w a ks)):UfSet.dS X.w s.heap a ks:=(I.hok a _ e).1
def GJ(K:PySem.W.Frag)(w:World):List V->Hp->VK->Prop:=λxs H Q=>∃l ss,xs=[.ref l]/\aH K H l (aE ss)/\ss.length<=1000/\∀p,H p=none->Q (.ref p) (upd H p (mY w p (UfSet.dd ss)))
def nR(hc:X.calm=true):fR X (.type "set") (GJ X.K X.w):=by
 intro pins s σ H xs us Q I r h
 obtain⟨l,ss,rfl,hl,hz,q⟩:=h
 obtain⟨u,rfl,ru⟩:=vals1 r
 cases ru
 obtain⟨its,rv,pl,_⟩:=I.list hl
 have hS:=qZ rv
 have hf:H s.heap.objs.size=none:=I.hok.fresh (La _)
 apply UfSet.tE (I.ok.hd hc) pl.isList hS (by show ss.length+1<4096;lia) λh' tk hset hk=>?_
 exact#[.ref s.heap.objs.size,_,I.laid (t':=tk) hk (La _) (Hh hset),rfl,q _ hf]
def zx:fR X (.builtin "len") (λxs H Q=>∃a ks,xs=[V.ref a]/\H a=some (mY X.w a ks)/\Q (.int ks.length) H):=by
 intro pins s σ H xs us Q I r h
 obtain⟨a,ks,rfl,ha,q⟩:=h
 obtain⟨u,rfl,ru⟩:=vals1 r
 cases ru
 obtain⟨o,es,ep,t,ks',ho,hex,hd,he,hp,hn,hb,hf,_⟩:=Bt I ha
 have el:es.size=ks.length:=by rw[<-hp.length_eq,he.len];simp
 have hb':es.size<4096:=hb
 apply call_len_set ho hex hd hf (by lia) #[.int ks.length,H,I.tok _,#[_,by rw[el]],q]
def oo{h':Heap}{tk:Nat}{d:Drawn}{D:Addr}{ss:List Str}(I:Inv X pins σ H s)(L:UfSort.Left s.heap h' D ss)(hz:ss.length<=1000):Inv X pins σ (upd H D (.lst (aE (aL ss)))) { s with heap:=h',toks:=tk,drawn:=d }:=by
 obtain⟨vs,n,e,hS⟩:=L.at'
 have hl:(aE (aL ss)).length<=sizeLine:=by
  rw[ar,cP,L7]
  lia
 exact(I.laid (o:=.lst (aE (aL ss))) (t':=tk) L.keep L.new (show cw X.prog X.w _ h' D (.lst (aE (aL ss))) from#[hl,vs,n,yr hS,e])).draw d
def FW(K:PySem.W.Frag):List V->Hp->VK->Prop:=λxs H Q=>∃l ss,xs=[.ref l]/\aH K H l (aE ss)/\ss.length<64/\∀p,H p=none->Q (.ref p) (upd H p (.lst (aE (aL ss))))
def cu:fR X (.builtin "sorted") (FW X.K):=by
 intro pins s σ H xs us Q I r h
 obtain⟨l,ss,rfl,hl,hz,q⟩:=h
 obtain⟨u,rfl,ru⟩:=vals1 r
 cases ru
 obtain⟨its,rv,pl,_⟩:=I.list hl
 apply UfSort.tL pl.isList (qZ rv) hz λh' tk d D L=>?_
 exact#[.ref D,_,oo I L (by lia),rfl,q _ (I.hok.fresh L.new)]
def Gr(w:World):List V->Hp->VK->Prop:=λxs H Q=>∃a ks,xs=[.ref a]/\H a=some (mY w a ks)/\ks.length<64/\∀p,H p=none->Q (.ref p) (upd H p (.lst (aE (aL ks))))
def nD(hc:X.calm=true):fR X (.builtin "sorted") (Gr X.w):=by
 intro pins s σ H xs us Q I r h
 obtain⟨a,ks,rfl,ha,hz,q⟩:=h
 obtain⟨u,rfl,ru⟩:=vals1 r
 cases ru
 apply UfSort.wj (I.ok.hd hc) (Bt I ha) hz λh' tk d D L=>?_
 exact#[.ref D,_,oo I L (by lia),rfl,q _ (I.hok.fresh L.new)]
theorem CO:∀{bs:List Bool} {us:List Value} {i:Nat} {v:Value},Vals (bs.map V.bl) us->us[i]?=some v->v=.bool (bs.getD i true)/\i<bs.length
 |[],_,_,_,.nil,e=>by simp at e
 |b::bs,_,0,v,.cons r t,e=>by
  simp at e
  subst e
  exact#[r,by simp]
 |b::bs,_,i+1,v,.cons r t,e=>by
  obtain⟨h1,h2⟩:=CO (i:=i) t (by simpa using e)
  exact#[by simpa using h1,by simpa using h2]
def all_range(bs:List Bool):(List.range bs.length).all (λi=>bs.getD i true)=bs.all id:=by
 induction bs with
 |nil=>rfl
 |cons b bs ih =>
  rw[LN,Qa,OL,NZ,OL]
  have e:(List.range bs.length).all ((λi=>(b::bs).getD i true) ∘ Nat.succ)=(List.range bs.length).all (λi=>bs.getD i true):=by
   congr 1
  rw[e,ih]
  rfl
def any_range(bs:List Bool):(List.range bs.length).any (λi=>bs.getD i true)=bs.any id:=by
 induction bs with
 |nil=>rfl
 |cons b bs ih =>
  rw[LN,Qa,Nd,OU,Nd]
  have e:(List.range bs.length).any ((λi=>(b::bs).getD i true) ∘ Nat.succ)=(List.range bs.length).any (λi=>bs.getD i true):=by
   congr 1
  rw[e,ih]
  rfl
def ni{A:Around}{l:Addr}{bs:List Bool}{its:List Value}(hh:A.handled=none)(rv:Vals (bs.map V.bl) its)(I:Addr)(hne:l≠I) :
  Walks X.prog X.w A I [I,l] [I] bs.length (λi v=>v=.bool (bs.getD i true)) (λi h=>h.IsListIter I l i/\h.IsList l its.toArray):=by
 have el:its.toArray.size=bs.length:=by
  have:=rv.length
  rw[K4]at this
  simp[this]
 have W:=(Walks.list (prog:=X.prog) (w:=X.w) hh I l hne its.toArray).imp (P':=λi v=>v=.bool (bs.getD i true)) λi v e=>(CO rv (by simpa using e)).1
 rw[el]at W
 exact W
def Jy(K:PySem.W.Frag):List V->Hp->VK->Prop:=λxs H Q=>∃(l:Addr) (bs:List Bool),xs=[.ref l]/\aH K H l (bs.map V.bl)/\Q (.bl (bs.all id)) H
def Kj(K:PySem.W.Frag):List V->Hp->VK->Prop:=λxs H Q=>∃(l:Addr) (bs:List Bool),xs=[.ref l]/\aH K H l (bs.map V.bl)/\Q (.bl (bs.any id)) H
def gY(hc:X.calm=true):fR X (.builtin "all") (Jy X.K):=by
 intro pins s σ H xs us Q I r h
 obtain⟨l,bs,rfl,hl,q⟩:=h
 obtain⟨u,rfl,ru⟩:=vals1 r
 cases ru
 obtain⟨its,rv,pl,_⟩:=I.list hl
 have hh:X.A.in1.handled=none:=I.ok.hd hc
 have lt:l<s.heap.objs.size:=let #[o,_,e,_]:=pl;Li e
 apply call_all_walk (NU pl.isList #[_,_,_,_,_,_,λi=>bs.getD i true,rfl,ni hh rv _ (LB lt),#[#[_,Ly _ rfl,rfl,rfl],pl.isList.push _],λi v s Q E hv hQ=>?_,λh' tk hk=>?_])
 ·subst hv
  exact Mf hQ
 ·rw[all_range]
  apply#[.bl (bs.all id),H,I.kept (t':=tk) λb o e=>hk b o (λz=>?_) (K8 _ e),rfl,q]
  have z':b=s.heap.objs.size:=by simpa using z
  exact absurd (Li e) (by rw[z'];exact Me _)
def oe(hc:X.calm=true):fR X (.builtin "any") (Kj X.K):=by
 intro pins s σ H xs us Q I r h
 obtain⟨l,bs,rfl,hl,q⟩:=h
 obtain⟨u,rfl,ru⟩:=vals1 r
 cases ru
 obtain⟨its,rv,pl,_⟩:=I.list hl
 have hh:X.A.in1.handled=none:=I.ok.hd hc
 have lt:l<s.heap.objs.size:=let #[o,_,e,_]:=pl;Li e
 apply call_any_walk (NU pl.isList #[_,_,_,_,_,_,λi=>bs.getD i true,rfl,ni hh rv _ (LB lt),#[#[_,Ly _ rfl,rfl,rfl],pl.isList.push _],λi v s Q E hv hQ=>?_,λh' tk hk=>?_])
 ·subst hv
  exact Mf hQ
 ·rw[any_range]
  apply#[.bl (bs.any id),H,I.kept (t':=tk) λb o e=>hk b o (λz=>?_) (K8 _ e),rfl,q]
  have z':b=s.heap.objs.size:=by simpa using z
  exact absurd (Li e) (by rw[z'];exact Me _)
def sign(c:Nat):V:=.str #[(List.toArray [c])]
def Ii(x:Str):It:=#[λi _=>i<x.cps.size,λi H v H'=>H'=H/\∃c,x.cps[i]?=some c/\v=sign c,λi _=>i=x.cps.size]
end
def sN{P:Program}{w:World}{K:PySem.W.Frag}{tg:Expr}{x:Str}{it:Addr}{St:Nat->Heap->Prop}(W:∀A':Around,A'.handled=none->Walks P w A' it [it] [it] x.cps.size (SignAt x) St)
  (ho:∀i h,St i h->∃o nm vs,h.get? it=some o/\o.cls=.type nm/\o.data=.fields vs/\["enumerate","zip","dict_itemiterator","dict_reverseitemiterator","odict_iterator","itertools.zip_longest","itertools.pairwise"].contains nm=false)
  (hs:∀(A:Around) (i:Nat) (s:Shared) (Q:Value->Shared->Prop) (E:Value->Shared->Prop),St i s.heap->Q (.ref it) s->wpAny (model P w) A (pyIter (.ref it)) Q E s):Turn P w K tg (Ii x) [it] it St where
 mem:=by simp
 obj:=λi h st b hb=>by
  have e:b=it:=by simpa using hb
  subst e
  obtain⟨o,nm,vs,e,_,d,_⟩:=ho i h st
  exact#[o,e,λv z=>by rw[d]at z;cases z]
 keep:=λi h h' st k=>(W #[none,0,none,none,1] rfl).frame i h h' st λb hb o e=>k b hb o e
 item:=by
  intro X hP hw hK hc i pins s σ H E I hf st hg
  subst hP hw hK
  obtain⟨f0,f1,f2,f3,f4,f5⟩:=hf it (by simp)
  apply(W X.A (I.ok.hd hc)).item i s _ _ hg st λv h' tk hP st' kk=>?_
  obtain⟨c,u,hx,rfl⟩:=hP
  have I1:Inv X pins σ H { s with heap:=h',toks:=tk }:=I.turned (λb o hb e=>kk b o (by simpa using hb) e) f0 f1 f3 f4 f5
  obtain⟨o,nm,vs,e,c1,d,hn⟩:=ho _ _ st'
  exact#[Z,xb (s:={ s with heap:=h',toks:=tk }) e c1 d hn #[sign c,H,I1,#[u,rfl],#[rfl,c,hx,rfl],st',λb hb=>(hf b hb).1]]
 done:=by
  intro X hP hw hK hc i pins s σ H E I hf st hg
  subst hP hw hK
  obtain⟨f0,f1,f2,f3,f4,f5⟩:=hf it (by simp)
  have e:i=x.cps.size:=hg
  subst e
  exact(W X.A (I.ok.hd hc)).done s _ _ st λh' tk kk=>#[rfl,I.turned (λb o hb e=>kk b o (by simpa using hb) e) f0 f1 f3 f4 f5]
 self:=hs
section
variable {X:Cx}{tg:Expr}
def KW(tl:TE):TI:=λσ H R=>tl σ H λv H1=>∃x,v=.str x/\R (Ii x) H1
def He{l:Expr}{tl:TE}(hl:PE X l tl):PI X tg l (KW tl):=by
 intro pins s σ H R I h
 apply cD (hl pins s σ H _ I h) λv s1 hZ=>?_
 obtain⟨y,H1,I1,r1,q1⟩:=hZ
 obtain⟨x,e,q⟩:=q1
 subst e
 obtain⟨t,rfl⟩:=r1
 have fp:∀b∈[s1.heap.objs.size],iE X pins H1 b:=λb hb=>by
  have e:b=s1.heap.objs.size:=by simpa using hb
  subst e
  exact I1.zd (La _) (I1.hok.fresh (La _))
 cases ha:x.cps.all (· < 128) with
 |false =>
  apply wpAny_pyIter_wide ha ?_
  apply#[s1.heap.objs.size,[s1.heap.objs.size],λi h=>h.IsStrIter s1.heap.objs.size "str_iterator" x t i,Ii x,H1,rfl,I1.kept (t':=s1.toks) λb o e=>K8 _ e,sN (λA' hA=>Walks.strWide hA _ x t) (λi h st=>?_) (λA i s Q E st hq=>wpAny_pyIter_striter_wide st hq),#[_,Ly _ rfl,rfl,rfl],fp,q]
  obtain⟨o,e1,e2,e3⟩:=st
  exact#[o,_,_,e1,e2,e3,by decide]
 |true =>
  apply wpAny_pyIter_ascii ha ?_
  apply#[s1.heap.objs.size,[s1.heap.objs.size],λi h=>h.IsStrIter s1.heap.objs.size "str_ascii_iterator" x t i,Ii x,H1,rfl,I1.kept (t':=s1.toks) λb o e=>K8 _ e,sN (λA' hA=>Walks.strAscii hA _ x t) (λi h st=>?_) (λA i s Q E st hq=>wpAny_pyIter_striter_ascii st hq),#[_,Ly _ rfl,rfl,rfl],fp,q]
  obtain⟨o,e1,e2,e3⟩:=st
  exact#[o,_,_,e1,e2,e3,by decide]
end
section
variable {K:PySem.W.Frag}{n:Nat}{ci:List Nat}{g:TG}{tt:TT}{te:TE}{σ:St}{H:Hp}{D:Addr}{Q:VK}
def cv{a:Addr}{xs:List V}(Pv:Nat->List V->Hp->Prop)(h0:Pv 0 [] (upd H D (.lst [])))(hl:∀i ys H,i<=xs.length->Pv i ys H->aH K H a xs)
  (hs:∀i x ys H,xs[i]?=some x->Pv i ys H->g x (tU n ci σ) H λσ2 H2=>tt σ2 H2 λb H3=>if b=true then te σ2 H3 λy H4=>H4 D=some (.lst ys)/\ys.length<sizeLine/\Pv (i+1) (ys++[y]) (upd H4 D (.lst (ys++[y]))) else Pv (i+1) ys H3)
  (hd:∀ys H,Pv xs.length ys H->Q (.ref D) H) :
  iM n ci (Hy K a) g tt te σ H D Q:=by
 unfold iM
 apply#[xs.length,Pv,h0,λi ys H hi p=>?_]
 have q:=hl i ys H hi p
 by_cases hlt:i<xs.length
 ·apply .inr ⟨hlt,⟨xs,xs[i],q,by simp[hlt]⟩,λx H' y=>?_⟩
  obtain⟨e,y⟩:=y
  subst e
  exact hs i x ys _ (y xs q) p
 ·have e:i=xs.length:=by lia
  subst e
  exact .inl #[#[xs,q,La _],hd ys H p]
def oF{a:Addr}{xs:List V}(Pv:Nat->List V->Hp->Prop)(h0:Pv 0 [] (upd H D (.lst [])))(hl:∀i ys H,i<=xs.length->Pv i ys H->cz K H a xs)
  (hs:∀i x ys H,xs[i]?=some x->Pv i ys H->g x (tU n ci σ) H λσ2 H2=>tt σ2 H2 λb H3=>if b=true then te σ2 H3 λy H4=>H4 D=some (.lst ys)/\ys.length<sizeLine/\Pv (i+1) (ys++[y]) (upd H4 D (.lst (ys++[y]))) else Pv (i+1) ys H3)
  (hd:∀ys H,Pv xs.length ys H->Q (.ref D) H) :
  iM n ci (Hx K a) g tt te σ H D Q:=by
 unfold iM
 apply#[xs.length,Pv,h0,λi ys H hi p=>?_]
 have q:=hl i ys H hi p
 by_cases hlt:i<xs.length
 ·apply .inr ⟨hlt,⟨xs,xs[i],q,by simp[hlt]⟩,λx H' y=>?_⟩
  obtain⟨e,y⟩:=y
  subst e
  exact hs i x ys _ (y xs q) p
 ·have e:i=xs.length:=by lia
  subst e
  exact .inl #[#[xs,q,La _],hd ys H p]
def BL{x:Str}(Pv:Nat->List V->Hp->Prop)(h0:Pv 0 [] (upd H D (.lst [])))
  (hs:∀i c ys H,x.cps[i]?=some c->Pv i ys H->g (sign c) (tU n ci σ) H λσ2 H2=>tt σ2 H2 λb H3=>if b=true then te σ2 H3 λy H4=>H4 D=some (.lst ys)/\ys.length<sizeLine/\Pv (i+1) (ys++[y]) (upd H4 D (.lst (ys++[y]))) else Pv (i+1) ys H3)
  (hd:∀ys H,Pv x.cps.size ys H->Q (.ref D) H) :
  iM n ci (Ii x) g tt te σ H D Q:=by
 unfold iM
 apply#[x.cps.size,Pv,h0,λi ys H hi p=>?_]
 by_cases hlt:i<x.cps.size
 ·apply .inr ⟨hlt,hlt,λv H' y=>?_⟩
  obtain⟨e,c,hc,rfl⟩:=y
  subst e
  exact hs i c ys _ hc p
 ·have e:i=x.cps.size:=by lia
  subst e
  exact .inl #[rfl,hd ys H p]
end
open PySem.W
def qM{κ:Type}[DecidableEq κ]{knd:KeyKind prog w κ}{d:Addr}{kvs:List (κ×Value)}{ep:Nat}{Q:List Value->Shared->Prop}(hh:A.handled=none)(lo:(d==sysModules)=false)(hd:s.heap.DictAt knd d kvs ep)(hz:kvs.length<=sizeLine)
  (h:∀(h':Heap) (tk:Nat) (dr:Drawn) (vs:List Value),vs.length=kvs.length->(∀(j:Nat) v,vs[j]?=some v->∃k x,kvs[j]?=some (k,x)/\knd.is k v=true)->(∀b o,s.heap.get? b=some o->h'.get? b=some o)->s.heap.objs.size<=h'.objs.size->Q vs { s with heap:=h',toks:=tk,drawn:=dr }) :
  wpAny (model prog w) A (collect (.ref d)) Q E s:=by
 apply UfSet.lY (T:="dict") (OK:=λh=>h.DictAt knd d kvs ep) (R:=λn P=>n=kvs.length/\P=λi v=>∃k x,kvs[i]?=some (k,x)/\knd.is k v=true) hh hd (λh1 h2 x k=>x.at' λo e=>k _ _ e) (λs' x=>x.dictOf.typeIs) (λh1 x=>x.lt_size) (by decide) (by decide)
  (λA' E' s' Q' x q=>kdl_hint_dict x.dictOf.typeIs q) (λA' E' s' Q' x q=>?_) ?_
 ·apply wpAny_pyIter_dict lo x ?_
  exact q s'.heap.objs.size _ s'.drawn kvs.length _ [s'.heap.objs.size,d] _ #[rfl,rfl] hz (λA2 h2=>Walks.dictKeys h2 _ d (LB x.lt_size) kvs ep) #[#[_,Ly _ rfl,rfl,rfl],x.push _] (La _) (λb o e=>K8 _ e) λb hb=>by
   simp only[Lc,LR,Mt]at hb
   rcases hb with rfl|rfl
   ·exact .inr (La _)
   ·exact .inl rfl
 ·rintro h' tk dr n P vs ⟨rfl,rfl⟩ hl hat hk hz'
  exact h h' tk dr vs hl hat hk hz'
theorem xw:∀{ks:List Str} {vs:List Value},vs.length=ks.length->(∀(j:Nat) v,vs[j]?=some v->∃k tk,ks[j]?=some k/\v=Value.str k tk)->StrsAre vs ks
 |[],[],_,_=>.nil
 |k::ks,v::vs,hl,h=>by
  obtain⟨k',tk,e,rfl⟩:=h 0 v rfl
  have:k'=k:=by simpa using e.symm
  subst this
  exact .cons k' tk (xw (by simpa using hl) λj u hu=>by
   obtain⟨q,t,e1,e2⟩:=h (j+1) u (by simpa using hu)
   exact#[q,t,by simpa using e1,e2])
section
variable {X:Cx}
def F3:List V->Hp->VK->Prop:=λxs H Q=>∃(a:Addr) (kvs:List (Key×V)) (ks:List Str),xs=[.ref a]/\Rd H a (.dK kvs)/\kvs.map (·.1)=ks.map Sum.inr/\ks.length<64/\∀p,H p=none->Q (.ref p) (upd H p (.lst (aE (aL ks))))
def wm{P:Program}{w:World}{kvs:List (Key×V)}{vs:List (Key×Value)}{ks:List Str}{us:List Value}(r:KV kvs vs)(hk:kvs.map (·.1)=ks.map Sum.inr)(hl:us.length=vs.length)
  (hat:∀(j:Nat) v,us[j]?=some v->∃k x,vs[j]?=some (k,x)/\(aV P w).is k v=true):StrsAre us ks:=by
 have e1:vs.map (·.1)=ks.map Sum.inr:=by rw[<-r.keys];exact hk
 have l1:vs.length=ks.length:=by have:=L6 List.length e1;simpa using this
 apply xw (by lia) λj v e=>?_
 obtain⟨k,x,e2,hi⟩:=hat j v e
 have e3:(vs.map (·.1))[j]?=some k:=by rw[LD,e2];rfl
 rw[e1,LD]at e3
 cases e4:ks[j]? with
 |none=>rw[e4]at e3;cases e3
 |some y =>
  rw[e4]at e3
  cases e3
  rw[nJ]at hi
  rcases cA hi with⟨i,t,z,_⟩|⟨y',t,z,z2⟩
  ·cases z
  ·cases z
   exact#[y,t,rfl,z2]
def vp(hc:X.calm=true):fR X (.builtin "sorted") F3:=by
 intro pins s σ H xs us Q I r h
 obtain⟨a,kvs,ks,rfl,ha,hk,hz,q⟩:=h
 obtain⟨u,rfl,ru⟩:=vals1 r
 cases ru
 obtain⟨zk,lo,vs,rel,hd⟩:=pY I.hok ha
 obtain⟨ep,hat⟩:=hd.dictAt
 have hlen:vs.length<=sizeLine:=by rw[<-rel.length];exact zk
 apply UfSort.lh (ss:=ks) (λ{Q'} hq=>qM (A:=X.A.in1) (knd:=aV X.prog X.w) (I.ok.hd hc) lo hat hlen λh' tk dr us' hl hat' hk' hz'=>hq h' tk dr us' ks hk' hz' (wm rel hk hl hat') (.refl _)) hz λh' tk d D L=>?_
 exact#[.ref D,_,oo I L (by lia),rfl,q _ (I.hok.fresh L.new)]
end
section
variable {X:Cx}
def Dw(tk tv:TE):TE:=λσ H Q=>∀p,H p=none->tk σ (upd H p (.dT [])) λx H1=>tv σ H1 λy H2=>H2 p=some (.dT [])/\∃ks b,x=.ref b/\H2 b=some (.tup (ks.map kV))/\Q (.ref p) (upd H2 p (.dT [(ks,y)]))
def yS{k v:Expr}{pos:Pos}{tk tv:TE}(hu:X.A.units+1<cLine)(hk:PE X k tk)(hv:PE X v tv):PE X (.Dict [some k] [v] pos) (Dw tk tv):=by
 intro pins s σ H Q I q
 have hn:=I.hok.fresh (La s.heap.objs.size)
 have I1:=I.laid (a:=s.heap.objs.size) (o:=.dT []) (h':=s.heap.push { cls:=.type "dict",data:=.dict #[] }) (t':=s.toks) (λ_ _ q=>K8 _ q) (La _) (CS s.heap I.big)
 apply wpAny_Dict_any rfl rfl (by simp) (by show 1<=15;decide) (pairTrees_cons_walk (cD (hk pins _ σ _ _ I1 (q _ hn)) λu s1 #[x,H1,J1,rx,q1]=>cD (hv pins s1 σ H1 _ J1 q1) λw2 s2 #[y,H2,J2,ry,e,ks,b,ex,eb,q2]=>pairTrees_nil_walk ?_))
 subst ex
 obtain rfl:u=Value.ref b:=rx
 unfold storeAll
 rw[Na]
 obtain⟨z,hd,xs,rel,dd⟩:=Fz J2.hok e
 cases rel
 apply K3 (K3 (wpAny_dictSet_heap (knd:=tupleKind (aV X.prog X.w)) (hsz:=by simp) (by have:=hu;show X.A.units<cLine;lia) (m9 J2.hok eb) dd λh' dd' hs=>K6 ?_))
 show wpAny _ _ (forIn [] PUnit.unit _) _ _ _
 rw[Pa]
 apply K6 ?_
 obtain⟨o,es,ep,hq,h2,h3,h4,_,h5⟩:=dd'
 apply#[.ref s.heap.objs.size,_,ki J2 (by rw[e];exact True.intro) hs #[o,hq] (ob:=.dT [(ks,y)]) #[by show 1<=sizeLine;rw[L7];decide,hd,_,?_,o,es,ep,hq,h2,h3,h4,h5],rfl,q2]
 apply .cons #[rfl,?_,ry] .nil
 rw[ai (aX eb e (λz=>nomatch z))]
 exact eb
def ne_nil:gW X (compareOp .NotEq) (λx y H Q=>∃a b xs,x=.ref a/\y=.ref b/\X.A.units<cLine/\aH X.K H a xs/\aH X.K H b []/\Q (.bl (!xs.isEmpty)) H):=by
 intro pins s σ H x y v u Q I rx ry h
 obtain⟨a,b,xs,rfl,rfl,hu,ha,hb,q⟩:=h
 cases rx
 cases ry
 obtain⟨its,r1,p1,_⟩:=I.list ha
 obtain⟨its2,r2,p2,_⟩:=I.list hb
 cases r2
 cases r1 with
 |nil=>exact PySem.SeqAt.RcNeAt.lists (e:=λ_=>true) p1.isList p2.isList rfl hu (λj h1 _=>absurd h1 (by simp)) X.prog X.w X.xe _ #[.bl false,H,I,rfl,q]
 |cons _ _=>exact PySem.SeqAt.RcNeAt.lists_lengths p1.isList p2.isList (by simp) hu X.prog X.w X.xe _ #[.bl true,H,I,rfl,q]
def eq_nil:gW X (compareOp .Eq) (λx y H Q=>∃a b xs,x=.ref a/\y=.ref b/\X.A.units<cLine/\aH X.K H a xs/\aH X.K H b []/\Q (.bl xs.isEmpty) H):=by
 intro pins s σ H x y v u Q I rx ry h
 obtain⟨a,b,xs,rfl,rfl,hu,ha,hb,q⟩:=h
 cases rx
 cases ry
 obtain⟨its,r1,p1,_⟩:=I.list ha
 obtain⟨its2,r2,p2,_⟩:=I.list hb
 cases r2
 cases r1 with
 |nil=>exact PySem.SeqAt.RcAt.lists (e:=λ_=>true) p1.isList p2.isList rfl hu (λj h1 _=>absurd h1 (by simp)) X.prog X.w X.xe _ #[.bl true,H,I,rfl,q]
 |cons _ _=>exact PySem.SeqAt.RcAt.lists_lengths p1.isList p2.isList (by simp) hu X.prog X.w X.xe _ #[.bl false,H,I,rfl,q]
def uR(x:Str)(n:Nat):Str:=#[(List.replicate n x.cps).foldl (· ++ ·) #[]]
def Bq(x:Str):uR x 1=x:=by
 unfold uR
 simp[List.replicate,List.foldl]
def JM:V->Option Int->Option Int->Hp->VK->Prop:=λx lo hi H Q=>∃z:Str,x=.str z/\z.length<=sizeLine/\Q (.str (Txt.slice z lo hi)) H
def wK:HN X JM:=by
 intro pins s σ H x v vl vu lo hi sl Q I rx hs pl pu h
 obtain⟨z,rfl,hz,q⟩:=h
 obtain⟨t,rfl⟩:=rx
 apply#["str",_,PySem.F.slot_str_getitem.lookup,Qk _ _ _,?_]
 cases pl with
 |none =>
  cases pu with
  |none=>exact NJ (l:=none) (u:=none) (st:=none) hs rfl (OV #[LM (Pz z _ _) hz,λt' k=>#[.str _,H,I.tok k,#[_,rfl],q]])
  |int j uj=>exact NJ (l:=none) (u:=some (j,uj)) (st:=none) hs rfl (OV #[LM (Pz z _ _) hz,λt' k=>#[.str _,H,I.tok k,#[_,rfl],q]])
 |int i ui =>
  cases pu with
  |none=>exact NJ (l:=some (i,ui)) (u:=none) (st:=none) hs rfl (OV #[LM (Pz z _ _) hz,λt' k=>#[.str _,H,I.tok k,#[_,rfl],q]])
  |int j uj=>exact NJ (l:=some (i,ui)) (u:=some (j,uj)) (st:=none) hs rfl (OV #[LM (Pz z _ _) hz,λt' k=>#[.str _,H,I.tok k,#[_,rfl],q]])
end
end L2
namespace UfB
open PySem
def jj(x y:Nat):Builtin.bitAnd (x:Int) (y:Int)=((x &&& y:Nat):Int):=by
 unfold Builtin.bitAnd
 rw[Lk (Oo x),Lk (Oo y)]
 simp
def gL(x y:Nat):Builtin.bitOr (x:Int) (y:Int)=((x ||| y:Nat):Int):=by
 unfold Builtin.bitOr Builtin.bitAnd
 have h1:decide (0<=Builtin.bitNot (x:Int))=false:=decide_eq_false (by unfold Builtin.bitNot;lia)
 have h2:decide (0<=Builtin.bitNot (y:Int))=false:=decide_eq_false (by unfold Builtin.bitNot;lia)
 rw[h1,h2]
 have e1:(Builtin.bitNot (Builtin.bitNot (x:Int))).toNat=x:=by unfold Builtin.bitNot;lia
 have e2:(Builtin.bitNot (Builtin.bitNot (y:Int))).toNat=y:=by unfold Builtin.bitNot;lia
 show Builtin.bitNot (Builtin.bitNot _)=_
 rw[e1,e2]
 unfold Builtin.bitNot
 lia
def C5(x y:Nat)(h:x &&& y=y)(h2:x ||| y=x):Builtin.bitXor (x:Int) (y:Int)=(x:Int)-(y:Int):=by
 unfold Builtin.bitXor
 rw[gL,jj,h,h2]
def Dr(r:Nat)(h:0<r):Builtin.bitAnd (r:Int) (-(r:Int))=((r:Int)-((r &&& (r-1):Nat):Int)):=by
 unfold Builtin.bitAnd
 rw[Lk (Oo r),Lq (show ¬0<=-(r:Int) by lia)]
 have e:(Builtin.bitNot (-(r:Int))).toNat=r-1:=by unfold Builtin.bitNot;lia
 show(r:Int)-((_ &&& _:Nat):Int)=_
 rw[e,LW]
def Aw:∀r:Nat,0<r->∃k m,r=2 ^ k*(2*m+1):=λr=>by
 induction r using Nat.strongRecOn with
 |_ r ih =>
  intro h
  by_cases hp:r % 2=1
  ·exact#[0,r / 2,by lia]
  ·obtain⟨k,m,e⟩:=ih (r / 2) (by lia) (by lia)
   apply#[k+1,m,?_]
   rw[Nat.pow_succ,Nat.mul_comm (2 ^ k) 2,Qs,<-e]
   lia
def qU(m j:Nat):(2*m+1).testBit j=(if j=0 then true else m.testBit (j-1)):=by
 cases j with
 |zero=>simp
 |succ j=>simp[Nat.testBit_succ];congr 1;lia
def uv(m j:Nat):(2*m).testBit j=(if j=0 then false else m.testBit (j-1)):=by
 cases j with
 |zero=>simp
 |succ j=>simp[Nat.testBit_succ]
structure HC(r k:Nat):Prop where
 bit:r.testBit k=true
 low:∀j<k,r.testBit j=false
 clear:r &&& (r-1)=r-2 ^ k
 le:2 ^ k<=r
 rest:∀i,(r-2 ^ k).testBit i=(r.testBit i&&decide (i≠k))
def Aa(r:Nat)(h:0<r):∃k,HC r k:=by
 obtain⟨k,m,e⟩:=Aw r h
 have hk:0<2 ^ k:=PX k
 have er:r=2 ^ k*(2*m)+2 ^ k:=by rw[e,Nat.mul_add,Qb]
 have b1:∀j,r.testBit j=if j<k then false else(2*m+1).testBit (j-k):=λj=>by
  have:=N5 (2*m+1) hk j
  rw[Qz,<-e]at this
  rw[this]
  simp
 have b2:∀j,(r-2 ^ k).testBit j=if j<k then false else(2*m).testBit (j-k):=λj=>by
  have e2:r-2 ^ k=2 ^ k*(2*m):=by lia
  have:=N5 (2*m) hk j
  rw[Qz,<-e2]at this
  rw[this]
  simp
 have b3:∀j,(r-1).testBit j=if j<k then true else(2*m).testBit (j-k):=λj=>by
  have e3:r-1=2 ^ k*(2*m)+(2 ^ k-1):=by lia
  rw[e3,N5 (2*m) (by lia) j]
  split
  ·rename_i hj
   rw[N8]
   simp[hj]
  ·rfl
 apply#[k,?_,λj hj=>?_,?_,by lia,λi=>?_]
 ·rw[b1,Le (Me k),NF,qU,Ls rfl]
 ·rw[b1,Ls hj]
 ·apply Ny λj=>?_
  rw[Nc,b1,b2,b3]
  by_cases hj:j<k
  ·simp[hj]
  ·rw[Le hj,Le hj,Le hj,qU,uv]
   split <;> simp
 ·rw[b1,b2]
  by_cases hi:i<k
  ·simp[hi]
  ·rw[Le hi,Le hi,qU,uv]
   by_cases e:i=k
   ·subst e
    simp
   ·have:¬i-k=0:=by lia
    simp[this,e]
def HC.or{r k:Nat}(h:HC r k):r ||| 2 ^ k=r:=Ny λj=>by
 rw[M9,NG]
 by_cases e:k=j
 ·subst e
  simp[h.bit]
 ·simp[e]
def HC.and{r k:Nat}(h:HC r k):r &&& 2 ^ k=2 ^ k:=Ny λj=>by
 rw[Nc,NG]
 by_cases e:k=j
 ·subst e
  simp[h.bit]
 ·simp[e]
def mem(b:Nat):List Nat:=(List.range 256).filter λi=>b.testBit i
def mem_iff{b i:Nat}(h:b<2 ^ 256):i∈mem b↔b.testBit i=true:=by
 unfold mem
 rw[L4,M7]
 apply#[λz=>z.2,λz=>#[?_,z]]
 apply OO λhi=>?_
 rw[MM (LF h (LX (by decide) hi))]at z
 cases z
def A9:mem 0=[]:=by
 unfold mem
 apply OJ.mpr λi _=>?_
 simp
def EO{r k:Nat}(h:HC r k)(hr:r<2 ^ 256):mem r=k::mem (r-2 ^ k):=by
 have hk:k<256:=(Nat.pow_lt_pow_iff_right (by decide:1<2)).mp (L8 h.le hr)
 unfold mem
 have e:List.range 256=List.range k++(k::(List.range (256-k-1)).map λi=>k+1+i):=by
  have e1:(256:Nat)=k+(1+(256-k-1)):=by lia
  conv=>lhs;rw[e1,List.range_add,List.range_add]
  simp[LY,Function.comp_def,Nat.add_assoc]
 rw[e,My,My,PB,PB]
 have f1:(List.range k).filter (λi=>r.testBit i)=[]:=OJ.mpr λi hi=>by
  rw[h.low i (M7.mp hi)]
  simp
 have f2:(List.range k).filter (λi=>(r-2 ^ k).testBit i)=[]:=OJ.mpr λi hi=>by
  rw[h.rest,h.low i (M7.mp hi)]
  simp
 rw[f1,f2,h.bit,h.rest,h.bit]
 simp only[PY,Od]
 simp
 apply List.filter_congr λi hi=>?_
 obtain⟨j,_,rfl⟩:=LQ.mp hi
 rw[h.rest,Lk (show k+1+j≠k by lia),Qt]
def En(b:Nat):(mem b).length<=256:=by
 unfold mem
 apply LM (MD _ _) ?_
 rw[QC]
 exact La _
def Cv(k:Nat):Builtin.Int.intBits ((2 ^ k:Nat):Int)=k+1:=by
 unfold Builtin.Int.intBits
 have h:0<2 ^ k:=PX k
 have e:(((2 ^ k:Nat):Int)==0)=false:=MA.mpr (by lia)
 rw[e,Int.natAbs_natCast,Nat.log2_two_pow]
 rfl
end UfB
local macro_rules|`(tactic|ac_rfl)=>`(tactic|try dsimp only[L2.bZ,L2.Cx.dY,L2.Cx.cg])
namespace Uf
open PySem L2 UfSrt
def top (i:Nat):Stmt:=PySem.Challenge.pw_unfoldnet_k21_webs_by_hand.main.body.getD i (.Pass ⟨0,0,0,0⟩)
abbrev fC:Stmt:=top 28
abbrev jd:Stmt:=top 35
abbrev j5:Stmt:=top 36
abbrev ka:Stmt:=top 37
abbrev rE:Stmt:=top 38
def qk:bootBuiltins "all"=some (.builtin "all"):=by decide +kernel
def AZ:bootBuiltins "any"=some (.builtin "any"):=by decide +kernel
def cY:bootBuiltins "len"=some (.builtin "len"):=by decide +kernel
def BE:bootBuiltins "set"=some (.type "set"):=by decide +kernel
def dW:bootBuiltins "list"=some (.type "list"):=by decide +kernel
def eA:bootBuiltins "tuple"=some (.type "tuple"):=by decide +kernel
def Il:bootBuiltins "str"=some (.type "str"):=by decide +kernel
def cf:bootBuiltins "sorted"=some (.builtin "sorted"):=by decide +kernel
def qC:bootBuiltins "isinstance"=some (.builtin "isinstance"):=by decide +kernel
def Fd:Str:="abcdefghijklmnopqrstuvwxyz"
def isNm(x:Str):Bool:=decide (1<=x.length)&&(decide (x.length<=8)&&x.cps.toList.all λc=>decide (c∈Fd.cps.toList))
structure Txt(K:PySem.W.Frag)(mg:Str->Option Value):Prop where
 all:mg "all"=none
 len:mg "len"=none
 set:mg "set"=none
 lst:mg "list"=none
 tup:mg "tuple"=none
 str:mg "str"=none
 aL:mg "sorted"=none
 isi:mg "isinstance"=none
 letters:∃tk,mg "LETTERS"=some (.str Fd tk)
 longest:∃tk,mg "LONGEST_NAME"=some (.int 8 tk)
 mostP:∃tk,mg "MOST_PLACES"=some (.int 12 tk)
 mostM:∃tk,mg "MOST_MOVES"=some (.int 12 tk)
 leastT:∃tk,mg "LEAST_TAKEN"=some (.int 1 tk)
 mostT:∃tk,mg "MOST_TAKEN"=some (.int 4 tk)
 mostG:∃tk,mg "MOST_GIVEN"=some (.int 4 tk)
def ao{H:Hp}{D:Addr}{o:HO}(h:H D=none):au H (upd H D o):=λb u e=>by
 rw[ai (aq e h)]
 exact e
def aJ{H H2:Hp}{D:Addr}{o:HO}(s:au H H2)(h:H D=none):au H (upd H2 D o):=λb u e=>by
 rw[ai (aq e h)]
 exact s b u e
def fL{H:Hp}{D:Addr}(h:H D=none)(o:HO):∃H',upd H D o=H'/\au H H'/\H' D=some o:=#[Z,ao h,ae]
def ay{α:Type}{l:List α}{i:Nat}{a:α}(h:l[i]?=some a):l.take (i+1)=l.take i++[a]:=by
 rw[OE,h]
 rfl
def nd_of{X:Cx}{N:List Str}(h:N.Nodup)(e:X.N=N:=by rfl):X.N.Nodup:=by rw[e];exact h
section
variable {X:Cx}
def gS:fR X (.builtin "isinstance") (λxs H Q=>∃x c t b,xs=[x,.ty c]/\iw X.K H x t/\PySem.W.kitOne X.K t (.type c)=some b/\Q (.bl b) H):=by
 intro pins s σ H xs us Q I r h
 obtain⟨x,c,t,b,rfl,ty,e,q⟩:=h
 obtain⟨u,v,rfl,ru,rv⟩:=vals2 r
 cases rv
 exact zF I ru ty e λtk=>#[.bl b,H,I.tok tk,rfl,q]
end
def oE:Sp:=λvs H Q _=>∃x:Str,vs=[.str x]/\x.length<=1000/\∀H',au H H'->Q (.bl (isNm x)) H'
def sP:aF ["thing"] ["thing"] (av fC):=ff
def qu{f:Addr}{fd:FuncData}(F:dN K "is_name" "is_name" fC f fd)(T:Txt K mg):bf P w K mg base cZ 1 f fd ["thing"] oE:=by
 apply F.oK sP λcdv A outer s H vs Q E hr h=>?_
 ·obtain⟨x,rfl,hz,k⟩:=h
  obtain⟨tl,hl⟩:=T.letters
  obtain⟨tn,hn⟩:=T.longest
  apply#[_,ag (bK (PW.pt (pw_or (cF (ck (aA gS rfl T.isi qC (aa (pv 0) (aa (jb (v:=.ty "str") rfl T.str Il rfl) af)))))
    (pw_or1 (cF (sR m8 m8 aj (aA bB rfl T.len cY (aa (pv 0) af)) (ix (v:=.int 8) rfl hn #[tn,rfl]))))))
    (ak (aK iz)) aM)
   (ak (aK (aA (gY rfl) rfl T.all qk (aa (cE (N:=["sign"]) (n:=1) (ci:=[]) rfl (He (pv 0)) (oO sP)
    (λz=>#[kJ 0,cR,dP zK (pv 0) (ix (v:=.str Fd) rfl hl #[tl,rfl]) (by with_unfolding_all rfl)])) af)))),?_]
  ac_rfl
  apply#[Z,_, "str",_,true,rfl,iw.str x,(by rfl),true,rfl,?_]
  apply bz ?_
  have hs:x.length<=sizeLine:=by rw[L7];lia
  apply#[Z,_,x.length,rfl,#[hs,rfl],1,Z,rfl,Z,?_]
  by_cases h1:1<=x.length
  ·rw[Lk (show(1:Int)<=(x.length:Int) by lia)]
   apply cy ?_
   apply#[_,Z,rfl,Z,?_]
   by_cases h8:x.length<=8
   ·rw[Lk (show(x.length:Int)<=8 by lia)]
    apply bz ?_
    apply#[Z,x,rfl,λz D hD=>BL (λi ys H2=>ys=(x.cps.toList.take i).map (λc=>V.bl (decide (c∈Fd.cps.toList)))/\H2 D=some (.lst ys)/\au H H2) #[rfl,ae,ao hD] ?_ ?_]
    ·rintro i c ys H2 hc ⟨rfl,hys,sm⟩
     apply#[Z,#[(List.toArray [c])],Fd,rfl,rfl,hys,?_,?_,ae,aJ sm hD]
     ·rw[K4,Lf,MB]
      have:x.cps.size<=8:=h8
      rw[L7]
      lia
     ·rw[ay (by rw[MC];exact hc),Ll,PySem.StrLaws.found_one]
      rfl
    ·rintro ys H2 ⟨rfl,hys,sm⟩
     apply#[D,x.cps.toList.map λc=>decide (c∈Fd.cps.toList),rfl,aH.of ?_,?_]
     ·rw[hys]
      rw[MN (by simp),LY]
      rfl
     ·have e:isNm x=(x.cps.toList.map λc=>decide (c∈Fd.cps.toList)).all id:=by
       unfold isNm
       rw[Lk h1,Lk h8,NZ]
       rfl
      rw[<-e]
      exact k H2 sm
   ·rw[Lq (show ¬(x.length:Int)<=8 by lia)]
    apply cy ?_
    have e:isNm x=false:=by unfold isNm;rw[decide_eq_false h8];simp
    rw[<-e]
    exact k H (au.refl H)
  ·rw[Lq (show ¬(1:Int)<=(x.length:Int) by lia)]
   apply bz #[Z,?_]
   apply cy ?_
   have e:isNm x=false:=by unfold isNm;rw[decide_eq_false h1];simp
   rw[<-e]
   exact k H (au.refl H)
end Uf
namespace L2
open PySem PySem.Spec PyProof.Rows
section
variable {X:Cx}
def IS:V->List V->Hp->VK->Prop:=λx vs H Q=>∃i:Int,x=.int i/\vs=[]/\Q (.int ((Builtin.Int.intBits i:Nat):Int)) H
def Dq:Ia X "int.bit_length" IS:=by
 intro pins s σ H x vs v us Q I rx rv h
 obtain⟨i,rfl,rfl,q⟩:=h
 have hus:=rv.zero
 subst hus
 obtain⟨t,rfl⟩:=(show ∃t,v=Value.int i t from rx)
 exact call_int_bit_length #[.int _,H,I.tok _,#[_,rfl],q]
end
end L2
namespace Uf
open PySem L2 UfSrt UfB
abbrev Bu:Stmt:=top 2
abbrev EK:Stmt:=top 3
abbrev kh:Stmt:=top 4
def nat(k:Nat):V:=.int (k:Int)
def nats(ks:List Nat):List V:=ks.map nat
def Aq:Sp:=λvs H Q _=>∃n:Nat,vs=[nat n]/\n<256/\Q (nat (2 ^ n)) H
def IQ:aF ["number"] ["number"] (av Bu):=ff
def Fi(n:Nat):(1:Int)*2 ^ ((n:Int)).toNat=((2 ^ n:Nat):Int):=by
 rw[QD,LW]
 exact PyProof.Rows.two_pow_cast n
def GR{f:Addr}{fd:FuncData}(F:dN K "bit" "bit" Bu f fd):bf P w K mg base cZ 1 f fd ["number"] Aq:=by
 apply F.oK IQ λcdv A outer s H vs Q E hr h=>?_
 ·obtain⟨n,rfl,hn,k⟩:=h
  apply#[_,ak (aK (aw kK aj (pv 0))),?_]
  ac_rfl
  apply#[Z,_,Z,rfl,#[by lia,by lia,by decide],?_]
  have e:=Fi n
  show Q (V.int ((1:Int)*2 ^ ((n:Int)).toNat)) H
  rw[e]
  exact k
def pR:Sp:=λvs H Q _=>∃b:Nat,vs=[nat b]/\b<2 ^ 256/\∀H' q,au H H'->H q=none->H' q=some (.lst (nats (mem b)))->Q (.ref q) H'
def iZ:aF ["bits","numbers","lowest"] ["bits"] (av kh):=ff
inductive MbI(H:Hp)(r:Addr)(b0:Nat)(m:Nat)(σ:St)(H2:Hp):Prop
 |mk (b:Nat) (ks:List Nat) (v2:Option V) (q0:σ=[some (nat b),some (.ref r),v2]) (q1:au H H2) (q2:H2 r=some (.lst (nats ks))) (q3:ks++mem b=mem b0) (q4:b<2 ^ 256) (q5:m=b)
def vN{f:Addr}{fd:FuncData}(F:dN K "members" "members" kh f fd):bf P w K mg base cZ 1 f fd ["bits"] pR:=by
 apply F.oK iZ λcdv A outer s H vs Q E hr h=>?_
 ·obtain⟨b0,rfl,hb0,kk⟩:=h
  have hsl:=LG
  apply#[_,ag (cM 1 iZ (bu af))
   (ag (oN LC (uH (pv 0) (λ_=>rfl))
    (ag (cM 2 iZ (aw gr (pv 0) (IX GC (pv 0))))
    (ag (a9 (df Lr Lv Lw bb (pv 1) (aa (aw iN (vm PySem.F.plainAttrs_int PySem.F.slot_int_bit_length PySem.F.type_int_bit_length Dq (pv 2)) aj) af)))
    (ak (cM 0 iZ (aw Hr (pv 0) (pv 2)))))))
   (ak (aK (pv 1)))),?_]
  ac_rfl
  apply#[LA _,λr nr=>?_]
  have s1:au H (upd H r (.lst [])):=ao nr
  apply#[MbI H r b0,#[_,b0,[],none,rfl,s1,ae,rfl,hb0,rfl],?_]
  rintro b σ H2 ⟨_,ks,v2,rfl,sm,h2,e,hb,rfl⟩
  have lm:(ks++mem b).length<=256:=by rw[e];exact En b0
  rw[K5]at lm
  by_cases hz:b=0
  ·subst hz
   rw[A9,NN]at e
   apply#[Z,false,rfl,?_]
   apply bz ?_
   apply#[Z,kk _ r sm nr ?_]
   rw[h2,e]
  ·obtain⟨k,lo⟩:=Aa b (by lia)
   have hk:0<2 ^ k:=PX k
   have ml:=EO lo hb
   have ea:Builtin.bitAnd (b:Int) (-(b:Int))=((2 ^ k:Nat):Int):=by
    rw[Dr b (by lia),lo.clear]
    have:=lo.le
    lia
   have ex:Builtin.bitXor (b:Int) ((2 ^ k:Nat):Int)=((b-2 ^ k:Nat):Int):=by
    rw[C5 b (2 ^ k) lo.and lo.or]
    have:=lo.le
    lia
   apply#[Z,true,?_,?_]
   ·show true=((b:Int) != 0)
    symm
    rw[OC]
    lia
   apply cy ?_
   apply#[λσ' H'=>∃m',m'<b/\MbI H r b0 m' σ' H',λσ' H' h=>h,?_]
   apply#[Z,Z,Z,_,Z,rfl,?_]
   dsimp only[fi]
   rw[ea]
   apply#[Z,.inl #[rfl,_,aH.of h2],Z,rfl,Z,rfl,_,Z,rfl,r,_,Z,rfl,h2,(by unfold nats;rw[List.length_map];lia),?_]
   dsimp only[fi]
   rw[Cv]
   apply#[Z,Z,_,Z,rfl,?_]
   dsimp only[fi]
   rw[ex]
   apply#[b-2 ^ k,by lia,b-2 ^ k,ks++[k],Z,aJ sm nr,?_,?_,by lia,rfl]
   ·rw[ae]
    unfold nats nat
    rw[Ll]
    congr 3
    show [V.int (((k+1:Nat):Int)-1)]=[V.int (k:Int)]
    congr 2
    lia
   ·rw[Mr,List.singleton_append,<-ml]
    exact e
end Uf
namespace PySem
def j7:typeLookup (.type "list") "keys"=pure none:=by rw[OS,NX];kernel_rfl
def sf{prog:Program}{w:World}{A:Around}{E:Value->Shared->Prop}{s:Shared}{a:Addr}{o:Obj}{xs:Array Value}{k:Nat}{Q:Option Value->Shared->Prop}
  (hx:s.heap.get? a=some o) (hc:o.cls=.type "list") (hdat:o.data=.seq xs k) (hd:o.dict=none) (hA:A.handled=none)
  (h:∀h' tk,(∀b o,s.heap.get? b=some o->h'.get? b=some o)->Q none { s with heap:=h',toks:=tk }) :
  wpAny (model prog w) A (getAttr? (.ref a) "keys") Q E s:=by
 obtain⟨c,dct,dat,sl⟩:=o
 simp only at hc hdat hd
 subst hc hdat hd
 obtain⟨hp,g,d,tk,os⟩:=s
 have hT:∀tk',(#[hp,g,d,tk',os]:Shared).TypeIs (.ref a) "list":=λ_=>#[_,hx,rfl]
 have f1:=sub_AttributeError
 have f3:=Ox.lookup
 have f4:=Ox.bind (.ref a)
 have f5:=am_list_getattr_none
 unfold getAttr? getAttrBy? getAttrBy
 repeat (any_goals (first|assumption|exact hT _|((with_reducible show wpAny _ _ (call (Value.builtin "list.__getattribute__") _ _) _ _ _);apply Pp Ox (hT _) am_entry_list_getattribute (F.args_list_getattribute_2 _ _) (meets_getattribute_miss_list a xs k sl "keys" _ j7 (by decide +kernel)) #[hx,hA,λh' tk' e hx'=>?_])|wp_step))
 obtain⟨t',u',he⟩:=hx'.there
 show wpAny _ _ (getattributeRaised _ _ _ _ _ _ _) _ _ _
 unfold getattributeRaised
 repeat (any_goals (first|assumption|wp_step))
 all_goals exact h _ _ hx'.1
end PySem
namespace UfDp
open PySem PySem.Spec PyProof.Rows L2 UfSet
def eX:entryFor table "dict.update.loop"=some Builtin.«dict.update.loop»:=entryFor_of_tree (by kernel_rfl)
def cK:plainId "dict.update.loop"=true:=by decide +kernel
def putAll(acc:List (Key×Value))(ps:List (Str×Value)):List (Key×Value):=ps.foldl (λa p=>stored a (Sum.inr p.1) p.2) acc
def q9(h:Heap)(ps:List (Str×Value))(i:Nat)(v:Value):Prop:=∃q x t u,v=.ref q/\ps[i]?=some (x,u)/\IsTup h q (List.toArray [.str x t,u])
section
variable {prog:Program}{w:World}{A:Around}{R:Result->Shared->Prop}{I:Addr}{fp wr:List Addr}{G:Array GenState->Array GenState->Prop}{St:Nat->Shared->Prop}
def pair_items{E:Value->Shared->Prop}{s:Shared}{q:Addr}{a b:Value}{Q:List Value->Shared->Prop}(ht:IsTup s.heap q (List.toArray [a,b]))(h:Q [a,b] s):wpAny (model prog w) A (Builtin.Dict.pairItems (.ref q)) Q E s:=by
 obtain⟨o,ho,hc,n,hd⟩:=ht
 unfold Builtin.Dict.pairItems
 apply K3 (NB (T:="tuple") #[o,ho,hc] ?_)
 rw[Ls (by decide)]
 unfold seqItems?
 apply K3 (K3 (wpAny_load ho ?_))
 rw[hd]
 exact K6 (K6 h)
def zf{h0:Heap}{ps:List (Str×Value)}(W:WalksS prog w A.in1 I fp wr G ps.length (q9 h0 ps) St)(D:Addr)(hDf:D∉fp)(h0D:h0.get? D=none)(h0w:∀b∈wr,h0.get? b=none)(hb:ps.length<=1000) :
  ∀(k i:Nat) (t:Tok) (s:Shared) (acc:List (Key×Value)),ps.length-i=k->i<=ps.length->St i s->s.heap.DictOf (aV prog w) D acc->acc.length<=i->(∀b o,h0.get? b=some o->s.heap.get? b=some o) ->
  (∀s',Moved (D::wr) G s s'->s'.heap.DictOf (aV prog w) D (putAll acc (ps.drop i))->R (.ok (.ret .none)) s')->codeAny (model prog w) A (.builtin "dict.update.loop" #[[.ref D,.ref I,.int i t,.none],[]]) R s:=by
 have nSw:D∉wr:=λz=>hDf (W.sub _ z)
 have sub:∀b∈wr,b∈D::wr:=λb z=>LJ _ z
 intro k
 induction k with
 |zero =>
  intro i t s acc hk hi st hS ha h0s hR
  have e:i=ps.length:=by lia
  subst e
  apply Nb eX ?_
  rw[MY cK _]
  show wpAny _ A.in1 (pyNext (.ref I) >>= _) _ _ s
  apply K3 (W.done s _ _ st λs' hm=>?_)
  show wpAny _ A.in1 (Builtin.Dict.addKeywords D [] >>= λ_=>ret Value.none) _ _ s'
  apply K3 (K6 (K6 (hR s' (hm.mono sub) ?_)))
  rw[Ni (La _)]
  obtain⟨o,es,ep,ho,r⟩:=hS
  exact#[o,es,ep,hm.heap D _ nSw ho,r]
 |succ k ih =>
  intro i t s acc hk hi st hS ha h0s hR
  have hlt:i<ps.length:=by lia
  apply Nb eX ?_
  rw[MY cK _]
  show wpAny _ A.in1 (pyNext (.ref I) >>= _) _ _ s
  apply K3 (W.item i s _ _ hlt st λv s' hP st' hm=>?_)
  obtain⟨q,x,tx,u,rfl,ex,ht⟩:=hP
  have h0s':∀b o,h0.get? b=some o->s'.heap.get? b=some o:=λb o e=>hm.heap b o (λz=>by rw[h0w b z]at e;cases e) (h0s b o e)
  have hS':s'.heap.DictOf (aV prog w) D acc:=by
   obtain⟨o,es,ep,ho,r⟩:=hS
   exact#[o,es,ep,hm.heap D _ nSw ho,r]
  have ht':IsTup s'.heap q (List.toArray [.str x tx,u]):=by
   obtain⟨o,ho,r⟩:=ht
   exact#[o,h0s' _ _ ho,r]
  show wpAny _ A.in1 (holding [Value.ref q] _ >>= _) _ _ s'
  apply K3 (Mn (K3 ?_))
  apply wpAny_tryCatch (pair_items ht' ?_)
  show wpAny _ A.in1 (holding [Value.str x tx,u] (dictSet D (.str x tx) u)) _ _ s'
  apply Mn (wpAny_dictSet_pairs (knd:=aV prog w) (k:=Sum.inr x) (by show kH (Sum.inr x) (Value.str x tx)=true;simp[kH,Value.isStrOf]) hS' (λh' hd' hs'=>?_) (by rw[L7];lia))
  have hd:ps.drop i=(x,u)::ps.drop (i+1):=by
   rw[Oj hlt]
   rw[K7 hlt]at ex
   rw[LS ex]
  apply K6 #[NL cK _,ih (i+1) _ _ (stored acc (Sum.inr x) u) (by lia) hlt (W.frame _ s' _ _ st' (Mq _) λb hb' o e=>?_) hd' (by have:=stored_length_le acc (Sum.inr x:Key) u;lia) (λb o e=>?_) λs'' hm2 hS3=>?_]
  ·rw[hs'.2 b (λz:b=D=>hDf (by rw[<-z];exact hb'))];exact e
  ·rw[hs'.2 b (λz:b=D=>by rw[z,h0D]at e;cases e)];exact h0s' b o e
  ·apply hR s'' (Moved.trans W.gtrans ((hm.mono sub).then_heap (Mq _) λb o hb' e=>?_) hm2) ?_
   ·rw[hs'.2 b (λz:b=D=>hb' (by rw[z];exact LK))];exact e
   ·rw[hd]
    exact hS3
def pD{E:Value->Shared->Prop}{s:Shared}{l:Addr}{its:List Value}{ps:List (Str×Value)}{Q:Value->Shared->Prop}(hh:A.handled=none)(hl:∃n,s.heap.get? l=some { cls:=.type "list",data:=.seq its.toArray n })(hlen:its.length=ps.length)
  (hx:∀(i:Nat) (v:Value),its[i]?=some v->q9 s.heap ps i v) (hb:ps.length<=1000)
  (h:∀(h':Heap) (tk:Nat),h'.DictOf (aV prog w) s.heap.objs.size (putAll [] ps)->(∀b o,s.heap.get? b=some o->h'.get? b=some o)->Q (.ref s.heap.objs.size) { s with heap:=h',toks:=tk }) :
  wpAny (model prog w) A (call (.type "dict") [.ref l]) Q E s:=by
 obtain⟨nl,hol⟩:=hl
 apply callType_codes (Q₁:=λobj s₁=>obj=.ref s.heap.objs.size/\s₁={ s with heap:=s.heap.push { cls:=.type "dict",data:=.dict #[] } }) F.kt_called_dict (F.kt_typeCall_dict_1 _) F.entry_dict_init (kt_code_dict_new _ #[rfl,rfl]) ?_
 rintro obj s₁ ⟨rfl,rfl⟩
 have hnew:(s.heap.push { cls:=.type "dict",data:=.dict #[] }).DictOf (aV prog w) s.heap.objs.size []:=Heap.DictOf.new s.heap
 have hol':(s.heap.push { cls:=.type "dict",data:=.dict #[] }).get? l=some { cls:=.type "list",data:=.seq its.toArray nl }:=K8 _ hol
 apply#[hnew.typeIs,F.args_dict_init_2 _ _,?_]
 unfold Builtin.«dict.__init__»
 apply K3 ?_
 unfold Builtin.Dict.selfAndRest
 apply K3 (wpAny_notOrdered_dict hnew.typeIs ?_)
 show wpAny _ _ (pure (s.heap.objs.size,[Value.ref l])) _ _ _
 apply K6 ?_
 show wpAny _ _ (Builtin.Dict.updateFrom "dict.__init__" s.heap.objs.size (.ref l) [] .none) _ _ _
 unfold Builtin.Dict.updateFrom
 apply K3 (NB (T:="list") #[_,hol',rfl] ?_)
 rw[Ls (by decide)]
 apply K3 (sf hol' rfl rfl rfl (by simp[hh]) λh1 tk1 k1=>?_)
 rw[Ls (by decide)]
 apply K3 (MV ?_)
 have lt:l<s.heap.objs.size:=Li hol
 have z1:s.heap.objs.size+1<=h1.objs.size:=Nat.succ_le_of_lt (Li (k1 _ _ (Ly s.heap (o:={ cls:=.type "dict",data:=.dict #[] }) rfl)))
 have l1:h1.IsList l its.toArray:=#[_,k1 _ _ hol',rfl,nl,rfl]
 apply K3 (NU l1 ?_)
 have neI:l≠h1.objs.size:=LB (LF (L3 lt) z1)
 have nf:s.heap.objs.size∉[h1.objs.size,l]:=by
  simp only[Lc,LR,Mt,Pg]
  exact#[LB z1,M4 lt]
 have h3:A.in1.in1.handled=none:=by simp[hh]
 have hat:∀(i:Nat) (v:Value),its.toArray[i]?=some v->q9 s.heap ps i v:=λi v e=>hx i v (by simpa using e)
 have W0:=(Walks.list (prog:=prog) (w:=w) h3 h1.objs.size l neI its.toArray).imp hat
 have hsz:its.toArray.size=ps.length:=by rw[Lu];exact hlen
 rw[hsz]at W0
 have keep:∀b o,s.heap.get? b=some o->h1.get? b=some o:=λb o e=>k1 _ _ (K8 _ e)
 have ds:h1.DictOf (aV prog w) s.heap.objs.size []:=by
  obtain⟨o,es,ep,ho,r⟩:=hnew
  exact#[o,es,ep,k1 _ _ ho,r]
 apply K6 #[NL cK _,zf W0.toS s.heap.objs.size nf (OQ (La _)) (λb hb'=>?_) hb ps.length 0 _ _ [] (by lia) (LA _) #[#[_,Ly _ rfl,rfl,rfl],(l1.push _)] (ds.push _) (La _) (λb o e=>K8 _ (keep b o e)) λs' hm hS'=>?_]
 ·have e:b=h1.objs.size:=by simpa using hb'
  rw[e]
  exact OQ (LM (Mq _) z1)
 ·rw[OB]at hS'
  rw[oW hm]
  apply#[rfl,h _ _ hS' λb o e=>?_]
  have lb:=Li e
  apply hm.heap b o (λz=>?_) (K8 _ (keep b o e))
  simp only[Lc,LR,Mt]at z
  rcases z with z|z
  ·exact absurd z (LB lb)
  ·exact absurd z (LB (LF (L3 lb) z1))
end
end UfDp
namespace L2
open PySem PySem.Spec PyProof.Rows
section
variable {X:Cx}{N:List Str}{n:Nat}{ci:List Nat}{sc:Scope}
def sg{elt tg iter:Expr}{ifs:List Expr}{pos cpos py:Pos}{y:Str}{j:Nat}{wi:TI}{g:BX->TG}{tt:BX->TT}{te:BX->TE}(hc:X.calm=true)(hN:X.N.Nodup)(hj:X.N[j]?=some y)(hy:X.env.scope.names.lookup y=some .local)(hi:PI X tg iter wi)(S:dC X N n ci sc)
  (hb:∀z:BX,PG (jh X sc N z) tg (g z)/\HH (jh X sc N z) ifs (tt z)/\PE (jh X sc N z) elt (te z)) (hsw:swapsWith (.ListComp elt [#[tg,iter,ifs,0]] sc cpos) (some (.Name y py)) pos.line X.env=pure true:=by rfl)
  (hs:∀x,foldedSetIterable iter X.env x=pure x:=by intro _;rfl):PS X (.Assign [.Name y py] (.ListComp elt [#[tg,iter,ifs,0]] sc cpos) pos) (zS (FR n ci wi g tt te) (fi j)):=by
 intro pins s σ H D0 I h
 rw[exec_Assign_Name_used _ _ _ _ hsw]
 apply K3 (Qp (K3 ?_))
 show wpAny _ X.A (do let _ <-comprehension (.ListComp elt [#[tg,iter,ifs,0]] sc cpos) sc X.env _ (newList []) false (eval iter X.env) (some (assign (.Name y py) X.env))) _ _ s
 apply K3 (MO (Py (use:=some (assign (.Name y py) X.env)) (Q:=λ_ s'=>SP X pins D0 .next s') (E:=X.xe) rfl hs (oz (S.o7 I.ok)) S.kind S.loc (cD (hi pins s σ H _ I h) λv s1 h1=>cD h1 λitv s2 h2=>?_)) (λ_ s' hq=>K6 (K6 hq)) λ_ _ e=>e)
 obtain⟨it,fp,tn,J,H2,e,I2,T,st2,f2,rd⟩:=h2
 subst e
 apply Mj (wpAny_newFunctionEnv S.nocell (by intro y hy;simp at hy) (λh₁ hns₁ hsb₁=>?_) S.kind)
 dsimp only at hns₁ hsb₁ ⊢
 have hD:H2 s2.heap.objs.size=none:=I2.hok.fresh (La _)
 have I3:Inv X pins σ (upd H2 s2.heap.objs.size (.lst [])) { s2 with heap:=s2.heap.push { cls:=.type "list",data:=.seq ([]:List Value).toArray } }:=I2.GZ (t':=s2.toks) (ys:=[]) (its:=[]) .nil (LA _)
 have ob2:∀b∈fp,∃o,s2.heap.get? b=some o:=λb hb=>let #[o,e,_]:=T.obj _ _ st2 b hb;#[o,e]
 have neD:∀b∈fp,b≠s2.heap.objs.size:=λb hb=>let #[o,e]:=ob2 b hb;LB (Li e)
 have f3:∀b∈fp,iE X pins (upd H2 s2.heap.objs.size (.lst [])) b:=λb hb=>#[by rw[ai (neD b hb)];exact(f2 b hb).1,(f2 b hb).2]
 have ob3:∀b∈fp,∃o,(s2.heap.push { cls:=.type "list",data:=.seq ([]:List Value).toArray }).get? b=some o:=λb hb=>let #[o,e]:=ob2 b hb;#[o,K8 _ e]
 have k3:∀b o,(s2.heap.push { cls:=.type "list",data:=.seq ([]:List Value).toArray }).get? b=some o->h₁.get? b=some o:=λb o e =>
  hsb₁.extBut b o (LB (Li e)) (K8 _ e)
 have I4:Inv (jh X sc N #[_,{ s2 with heap:=s2.heap.push { cls:=.type "list",data:=.seq ([]:List Value).toArray } },upd H2 s2.heap.objs.size (.lst []),fp]) [] (tU n ci σ) (upd H2 s2.heap.objs.size (.lst []))
   { s2 with heap:=h₁,toks:=s2.toks+([]:List (Str×Value)).length }:=qi (s:={ s2 with heap:=s2.heap.push { cls:=.type "list",data:=.seq ([]:List Value).toArray } }) S I3 f3 ob3 k3 hns₁
 have st4:tn 0 h₁:=T.keep _ _ _ st2 λb hb o e=>k3 b o (K8 _ e)
 obtain⟨M,W,w0,turn⟩:=rd #[_,{ s2 with heap:=s2.heap.push { cls:=.type "list",data:=.seq ([]:List Value).toArray } },upd H2 s2.heap.objs.size (.lst []),fp] s2.heap.objs.size hD
 obtain⟨bg,bt,be⟩:=hb #[_,{ s2 with heap:=s2.heap.push { cls:=.type "list",data:=.seq ([]:List Value).toArray } },upd H2 s2.heap.objs.size (.lst []),fp]
 have ok3:=vi S I3 f3 ob3
 have stat:∀{H':Hp},(∀b∈fp,H' b=none)->∀b∈fp,iE (jh X sc N #[_,{ s2 with heap:=s2.heap.push { cls:=.type "list",data:=.seq ([]:List Value).toArray } },upd H2 s2.heap.objs.size (.lst []),fp]) [] H' b:=λhn b hb=>by
  obtain⟨_,f1,f2',_,f4,_⟩:=f3 b hb
  apply#[hn b hb,?_,ok3.exfs b hb,.inl hb,λx c e=>?_,λp hp=>absurd hp (by simp)]
  ·exact LB (let #[o,e]:=ob3 b hb;Li e)
  ·exact f4 x c (dh _ _ (S.o7 I3.ok) (by simp) x c e)
 have loop:codeAny (model X.prog X.w) X.A (.compLoop (.ListComp elt [#[tg,iter,ifs,0]] sc cpos) 0 (.ref it) (.ref s2.heap.objs.size) (compEnvC sc (jo X.env sc.names []) (s2.heap.push { cls:=.type "list",data:=.seq ([]:List Value).toArray }).objs.size X.env))
   (compPost (model X.prog X.w) X.A X.xe (some (assign (.Name y py) X.env)) (λ_ s'=>SP X pins D0 .next s') (.ref s2.heap.objs.size) (s2.heap.push { cls:=.type "list",data:=.seq ([]:List Value).toArray }).objs.size) { s2 with heap:=h₁,toks:=s2.toks+([]:List (Str×Value)).length }:=by
  apply uy (W:=W) (M:=M) (σ0:=tU n ci σ) (Q:=λv H'=>D0.nx (σ.set j (some v)) H') hc T bg bt be (λ{pins' σ' H' s'} J'=>?_) stat I4 st4 (λb hb=>(f3 b hb).1) w0 turn λσ' H' s' J' q=>?_
  ·exact tV S I3 f3 J'
  ·obtain⟨m',hn',_⟩:=id J'.loc
   have J2:Inv X pins σ H' s':=oR (s:={ s2 with heap:=s2.heap.push { cls:=.type "list",data:=.seq ([]:List Value).toArray } }) I3 f3 J' (Heap.SameBut.refl _ _)
   show wpAny _ _ (assign (.Name y py) X.env (.ref s2.heap.objs.size)) _ _ s'
   apply wpAny_assign_Name (qx (v:=.ref s2.heap.objs.size) J2 hN hj (.inl hy) rfl (λs3 J3 #[a,sb,ha]=>?_) (.inr hy))
   have cC:∀x c,X.env.cells.lookup x=some c->c≠(s2.heap.push { cls:=.type "list",data:=.seq ([]:List Value).toArray }).objs.size:=λx c e z=>by
    obtain⟨v,q1⟩:=I3.cell x c e
    have:=q1.lt
    rw[z]at this
    exact absurd this (Me _)
   have lC:X.env.locals≠(s2.heap.push { cls:=.type "list",data:=.seq ([]:List Value).toArray }).objs.size:=λz=>by
    have q1:=I3.lt
    rw[z]at q1
    exact absurd q1 (Me _)
   have aC:a≠(s2.heap.push { cls:=.type "list",data:=.seq ([]:List Value).toArray }).objs.size:=by
    rcases ha with rfl|ha
    ·exact lC
    ·exact cC _ _ ha
   apply#[m',hn'.sameBut sb (LO aC),λh' hs'=>#[_,H',J3.turned (t':=s3.toks) (λb o hb e=>(hs'.2 b hb).trans e) J'.free lC.symm (.inr (LM I3.sz (La _))) cC (λp hp z=>?_),q]]
   have q1:=(I3.pin p hp).1
   rw[z]at q1
   exact absurd (Li q1) (Me _)
 exact codeAny_compStart_list loop (T.self _ 0 _ _ _ st4 loop)
end
open UfSrt
theorem lV{α β:Type}{F:α->β->Prop}:∀{l:List α} {m:List β} {i:Nat} {b:β},Paired F l m->m[i]?=some b->∃a,l[i]?=some a/\F a b
 |_,_,_,_,.nil,e=>by simp at e
 |_,_,0,_,.cons r _,e=>by
  simp at e
  subst e
  exact#[Z,r]
 |_,_,i+1,_,.cons _ t,e=>by
  obtain⟨a,h1,h2⟩:=lV (i:=i) t (by simpa using e)
  exact#[a,by simpa using h1,h2]
def Jq{P:Program}{w:World}{k:Key}{v:Value}(h:(aV P w).is k v=true):RelV (kV k) v:=by
 rw[nJ]at h
 rcases cA h with⟨i,t,z,z2⟩|⟨y,t,z,z2⟩
 ·subst z z2
  exact#[t,rfl]
 ·subst z z2
  exact#[t,rfl]
section
variable {X:Cx}{pins:List (Addr×Obj)}{σ:St}{H:Hp}{s:Shared}
def Inv.Jw{a:Addr}{kvs:List (Key×V)}(I:Inv X pins σ H s)(e:H a=some (.dK kvs)):∃o,Inv X pins σ (upd H a (.frz o (.dK kvs))) s:=by
 obtain⟨z,y,vs,rel,o,es,ep,ho,r⟩:=yF I.hok e
 apply#[o,?_]
 have u:Un X.fs [] H (upd H a (.frz o (.dK kvs))) s.heap s.heap:=by
  apply#[λb ob q _ _ _=>q,λb ob q _ _ _=>#[ob.slots,q],λb ob q n _=>?_,λb ob q _=>#[ob,q],λb xs q=>?_,λb ob v q=>?_,λb ps q=>#[#[],?_]]
  ·rw[ai (λz=>by rw[z,e]at n;cases n)];exact n
  ·rw[ai (aX q e (λz=>nomatch z))];exact q
  ·rw[ai (aX q e (λz=>nomatch z))];exact q
  ·rw[ai (aX q e (λz=>nomatch z)),q];simp
 apply I.un (h':=s.heap) (t':=s.toks) u λb v e'=>?_
 by_cases hb:b=a
 ·subst hb
  rw[ae]at e'
  cases e'
  exact#[ho,show cw X.prog X.w H s.heap b (.dK kvs) from I.hok b _ e]
 ·rw[ai hb]at e'
  exact(I.hok b v e').pz (λc v _ q=>q) (λc q=>by rw[ai (aX q e (λz=>nomatch z))];exact q) λc xs q=>by rw[ai (aX q e (λz=>nomatch z))];exact q
def Bj{a:Addr}{o:Obj}{kvs:List (Key×V)}{es:Array DictEntry}{ep:Nat}(I:Inv X pins σ H s)(e:H a=some (.frz o (.dK kvs)))(hd:o.data=.dict es ep) :
  ∃vs,KV kvs vs/\s.heap.DictAt (aV X.prog X.w) a vs ep/\(a==sysModules)=false/\kvs.length<=sizeLine:=by
 obtain⟨ho,z,y,vs,rel,dd⟩:=(show cw X.prog X.w H s.heap a (.frz o (.dK kvs)) from I.hok a _ e)
 obtain⟨ep',hat⟩:=dd.dictAt
 obtain⟨o',es',ho',hc',hd',hr⟩:=id hat
 rw[ho]at ho'
 cases ho'
 rw[hd]at hd'
 cases hd'
 exact#[vs,rel,hat,y,z]
end
section
variable {X:Cx}{tg:Expr}
end
section
variable {n:Nat}{ci:List Nat}{g:TG}{tt:TT}{te:TE}{σ:St}{H:Hp}{D:Addr}{Q:VK}
end
open UfDp
abbrev kj(H:Hp):List (Str×V)->List Addr->Prop:=Paired λp q=>H q=some (.tup [.str p.1,p.2])
def keyed(ps:List (Str×V)):List (Key×V):=ps.map λp=>(Sum.inr p.1,p.2)
section
variable {X:Cx}{pins:List (Addr×Obj)}{σ:St}{H:Hp}{s:Shared}
def two_vals{x:Str}{v:V}{its:List Value}(r:Vals [.str x,v] its):∃t u,its=[.str x t,u]/\RelV v u:=by
 cases r with
 |cons r1 r =>
  cases r with
  |cons r2 r =>
   cases r
   obtain⟨t,rfl⟩:=(show ∃t,_=Value.str x t from r1)
   exact#[t,Z,r2]
theorem pairs_at(I:Inv X pins σ H s):∀{ps:List (Str×V)} {qs:List Addr},kj H ps qs->∃vs:List (Str×Value),Paired (λ(p:Str×V) (v:Str×Value)=>p.1=v.1/\RelV p.2 v.2) ps vs/\qs.length=vs.length/\∀(i:Nat) (q:Addr),qs[i]?=some q->q9 s.heap vs i (.ref q)
 |_,_,.nil=>#[[],.nil,rfl,λi q h=>by simp at h]
 |p::ps,q::qs,.cons h t=>by
  obtain⟨vs,pv,ln,hp⟩:=pairs_at I t
  obtain⟨_,its,rv,it⟩:cw X.prog X.w H s.heap q (.tup [.str p.1,p.2]):=I.hok q _ h
  obtain⟨tx,u,rfl,ru⟩:=two_vals rv
  apply#[(p.1,u)::vs,.cons #[rfl,ru] pv,by simp[ln],λi q' hi=>?_]
  cases i with
  |zero =>
   have e:q=q':=by simpa using hi
   exact#[q',p.1,tx,u,rfl,rfl,by rw[<-e];exact it]
  |succ i =>
   obtain⟨q2,x,t2,u2,e1,e2,e3⟩:=hp i q' (by simpa using hi)
   exact#[q2,x,t2,u2,e1,by simpa using e2,e3]
theorem xJ:∀{ps:List (Str×V)} {vs:List (Str×Value)} {kvs:List (Key×V)} {acc:List (Key×Value)},Paired (λ(p:Str×V) (v:Str×Value)=>p.1=v.1/\RelV p.2 v.2) ps vs->KV kvs acc->(ps.map (·.1)).Nodup->(∀p∈ps,dE kvs (Sum.inr p.1:Key)=none)->KV (kvs++keyed ps) (putAll acc vs)
 |_,_,kvs,acc,.nil,r,_,_=>by
  show KV (kvs++[]) acc
  rw[NN]
  exact r
 |p::ps,v::vs,kvs,acc,.cons h t,r,hn,hv=>by
  obtain⟨n1,n2⟩:=Mo.mp (show(p.1::ps.map (·.1)).Nodup from hn)
  obtain⟨e1,e2⟩:=h
  have r2:=KV.put r (Sum.inr p.1:Key) e2
  rw[gj _ (hv p LK)]at r2
  have:=xJ (kvs:=kvs++[(Sum.inr p.1,p.2)]) t r2 n2 (λp' hp'=>?_)
  ·rw[Mr]at this
   show KV _ (putAll (stored acc (Sum.inr v.1) v.2) vs)
   rw[<-e1]
   exact this
  ·have h1:=hv p' (LJ _ hp')
   have ne:¬p.1=p'.1:=λz=>n1 (by rw[z];exact LQ.mpr #[p',hp',rfl])
   rw[qE (Sum.inr p.1:Key) (Sum.inr p'.1) p.2 kvs (hv p LK),Le (λz=>ne (NR z).symm)]
   exact h1
end
section
variable {X:Cx}
def GV:List V->Hp->VK->Prop:=λvs H Q=>∃l qs ps,vs=[.ref l]/\H l=some (.lst (qs.map V.ref))/\kj H ps qs/\ps.length<=1000/\(ps.map (·.1)).Nodup/\∀d,H d=none->Q (.ref d) (upd H d (.dK (keyed ps)))
theorem pK:∀{qs:List Addr} {its:List Value},Vals (qs.map V.ref) its->its=qs.map Value.ref
 |[],_,.nil=>rfl
 |q::qs,_,.cons r t=>by
  have e:=(show _=Value.ref q from r)
  rw[e,pK t]
  rfl
def vC(hc:X.calm=true):fR X (.type "dict") GV:=by
 intro pins s σ H xs us Q I r h
 obtain⟨l,qs,ps,rfl,hl,hp,hz,hn,q⟩:=h
 obtain⟨u,rfl,ru⟩:=vals1 r
 cases ru
 obtain⟨_,its,n,rv,hlen,eo⟩:=I.uQ hl
 have ei:=pK rv
 obtain⟨vs,pv,ln,hat⟩:=pairs_at I hp
 have lp:ps.length=vs.length:=Lz pv
 have hf:H s.heap.objs.size=none:=I.hok.fresh (La _)
 apply pD (ps:=vs) (I.ok.hd hc) #[n,eo] (by rw[ei,K4];exact ln) (λi v hv=>?_) (by lia) λh' tk hd hk=>?_
 ·rw[ei,LD]at hv
  obtain⟨q',e1,e2⟩:=NS.mp hv
  rw[<-e2]
  exact hat i q' e1
 ·have kv:KV (keyed ps) (putAll [] vs):=xJ (kvs:=[]) pv .nil hn λp _=>rfl
  apply#[.ref s.heap.objs.size,_,I.laid (t':=tk) (o:=.dK (keyed ps)) hk (Nat.le_refl _) #[by unfold keyed;rw[List.length_map,sizeLine_eq];lia,?_,_,kv,hd],rfl,q _ hf]
  have:=I.big
  exact MA.mpr (M4 this)
end
end L2
namespace Uf
open PySem L2 UfB
structure qB where
 sp:List (Str×Option Nat)
 tk:List Nat
 be:List Nat
 pl:List (Str×Nat)
def gv:Option Nat->V
 |none=>.non
 |some n=>nat n
def fY(bs:List Nat)(j n:Nat):List Nat:=bs.set j (bs.getD j 0 ||| 2 ^ n)
def bL(bs js:List Nat)(n:Nat):List Nat:=js.foldl (λa j=>fY a j n) bs
def kA(pl:List (Str×Nat))(x:Str)(n:Nat):List (Str×Nat):=pl.map λp=>if p.1=x then(p.1,p.2 ||| 2 ^ n) else p
def gJ(g:Option Nat)(p:qB×Nat)(x:Str):qB×Nat :=
 (#[p.1.sp++[(x,g)],p.1.tk++[0],bL (p.1.be++[p.2]) (mem p.2) p.1.sp.length,kA p.1.pl x p.1.sp.length],p.2 ||| 2 ^ p.1.sp.length)
def bx(g:Option Nat)(p:qB×Nat)(xs:List Str):qB×Nat:=xs.foldl (gJ g) p
theorem de:∀(js bs:List Nat) (n:Nat),(bL bs js n).length=bs.length
 |[],bs,n=>rfl
 |j::js,bs,n=>by
  show(bL (fY bs j n) js n).length=_
  rw[de js]
  unfold fY
  rw[List.length_set]
def An{b i n:Nat}(h:b<2 ^ n)(hi:i∈mem b):i<n:=by
 unfold mem at hi
 have hb:=(L4.mp hi).2
 apply OO λz=>?_
 rw[MM (LF h (LX (by decide) z))]at hb
 cases hb
structure mh(p:qB×Nat)(xs:List Str):Prop where
 tk:p.1.tk.length=p.1.sp.length
 be:p.1.be.length=p.1.sp.length
 lt:p.2<2 ^ p.1.sp.length
 gX:p.1.sp.length+xs.length<=250
 key:∀x∈xs,x∈p.1.pl.map (·.1)
 nd:(p.1.pl.map (·.1)).Nodup
 sm:p.1.pl.length<=12
def kN(pl:List (Str×Nat))(x:Str)(n:Nat):(kA pl x n).map (·.1)=pl.map (·.1):=by
 unfold kA
 rw[LY]
 apply OZ λp _=>?_
 show(if p.1=x then(p.1,p.2 ||| 2 ^ n) else p).1=p.1
 split <;> rfl
def mh.one{g:Option Nat}{p:qB×Nat}{x:Str}{xs:List Str}(h:mh p (x::xs)):mh (gJ g p x) xs:=by
 obtain⟨h1,h2,h3,h4,h5,h6,h7⟩:=h
 rw[LN]at h4
 apply#[?_,?_,?_,?_,λy hy=>?_,?_,?_]
 ·show(p.1.tk++[0]).length=(p.1.sp++[(x,g)]).length
  rw[K5,K5,h1];rfl
 ·show(bL (p.1.be++[p.2]) (mem p.2) p.1.sp.length).length=(p.1.sp++[(x,g)]).length
  rw[de,K5,K5,h2];rfl
 ·show p.2 ||| 2 ^ p.1.sp.length<2 ^ (p.1.sp++[(x,g)]).length
  rw[K5]
  apply Nat.or_lt_two_pow (LF h3 (LX (by decide) (Nat.le_add_right _ _))) ?_
  exact Nat.pow_lt_pow_right (by decide) (MS _)
 ·show(p.1.sp++[(x,g)]).length+xs.length<=250
  rw[K5,Np];lia
 ·show y∈(kA p.1.pl x _).map (·.1)
  rw[kN]
  exact h5 y (LJ _ hy)
 ·show((kA p.1.pl x _).map (·.1)).Nodup
  rw[kN]
  exact h6
 ·show(kA p.1.pl x _).length<=12
  unfold kA
  rw[K4]
  exact h7
theorem mh.IW{g:Option Nat}:∀{xs ys:List Str} {p:qB×Nat},mh p (xs++ys)->mh (bx g p xs) ys
 |[],ys,p,h=>h
 |x::xs,ys,p,h=>mh.IW (xs:=xs) (mh.one (g:=g) (x:=x) (xs:=xs++ys) h)
def lZ(g:Option Nat)(p:qB×Nat)(xs:List Str)(x:Str):bx g p (xs++[x])=gJ g (bx g p xs) x:=by
 unfold bx
 rw[MZ]
 rfl
end Uf
section
set_option maxHeartbeats 400000
namespace Uf
open PySem L2 UfB
def zy(bs:List Nat)(j x a:Nat)(h:j<bs.length):(bs.set j x).getD a 0=if a=j then x else bs.getD a 0:=by
 rw[Lb,Lb,List.getElem?_set]
 by_cases e:j=a
 ·subst e
  rw[Ls rfl,Ls h,Ls rfl]
  rfl
 ·rw[Le e,Le (λz=>e z.symm)]
def oQ{bs:List Nat}{j n a k:Nat}(h:j<bs.length):((fY bs j n).getD a 0).testBit k=((bs.getD a 0).testBit k || (decide (a=j)&&decide (k=n))):=by
 unfold fY
 rw[zy _ _ _ _ h]
 by_cases e:a=j
 ·subst e
  rw[Ls rfl,M9,NG]
  simp[eq_comm]
 ·rw[Le e]
  simp[e]
theorem gc:∀{js bs:List Nat} {n a k:Nat},(∀j∈js,j<bs.length)->((bL bs js n).getD a 0).testBit k=((bs.getD a 0).testBit k || (decide (a∈js)&&decide (k=n)))
 |[],bs,n,a,k,_=>by simp[bL]
 |j::js,bs,n,a,k,h=>by
  show((bL (fY bs j n) js n).getD a 0).testBit k=_
  have hl:(fY bs j n).length=bs.length:=by unfold fY;rw[List.length_set]
  rw[gc λi hi=>by rw[hl];exact h i (LJ _ hi),oQ (h j LK)]
  by_cases e1:a=j <;> by_cases e2:a∈js <;> by_cases e3:k=n <;> simp[e1,e2,e3,Lc]
structure Hw(g:Option Nat)(p q:qB×Nat)(xs:List Str)(n:Nat):Prop where
 sp:q.1.sp=p.1.sp++xs.map (λx=>(x,g))
 tk:q.1.tk=p.1.tk++List.replicate xs.length 0
 bl:q.1.be.length=n+xs.length
 b:∀j,q.2.testBit j=(p.2.testBit j || (decide (n<=j)&&decide (j<n+xs.length)))
 old:∀a k,a<n->(q.1.be.getD a 0).testBit k=((p.1.be.getD a 0).testBit k || (p.2.testBit a&&decide (n<=k)&&decide (k<n+xs.length)))
 new:∀i k,i<xs.length->(q.1.be.getD (n+i) 0).testBit k=(p.2.testBit k || (decide (n<=k)&&decide (k<n+xs.length)&&decide (k≠n+i)))
def HU{g:Option Nat}{p:qB×Nat}{n:Nat}(hs:p.1.sp.length=n)(hb:p.1.be.length=n)(hlt:p.2<2 ^ n):∀(m:Nat) (xs:List Str),xs.length=m->n+m<=250->Hw g p (bx g p xs) xs n:=by
 intro m
 induction m with
 |zero =>
  intro xs hx _
  have e:xs=[]:=NT hx
  subst e
  have hbit:∀k,n<=k->p.2.testBit k=false:=λk hk=>MM (LF hlt (LX (by decide) hk))
  apply#[by simp[bx],by simp[bx],by simpa[bx] using hb,λj=>?_,λa k ha=>?_,λi k hi=>absurd hi (by simp)]
  ·show p.2.testBit j=_
   have:(decide (n<=j)&&decide (j<n+([]:List Str).length))=false:=by
    by_cases h:n<=j
    ·rw[Lq (show ¬j<n+([]:List Str).length by simp;lia),OA]
    ·rw[Lq h,Oz]
   rw[this,NK]
  ·show(p.1.be.getD a 0).testBit k=_
   simp
   intro _ h1 h2
   lia
 |succ m ih =>
  intro xs hx hle
  have hne:xs≠[]:=λz=>by rw[z]at hx;simp at hx
  obtain⟨ys,y,rfl⟩:∃ys y,xs=ys++[y]:=#[xs.dropLast,xs.getLast hne,(List.dropLast_concat_getLast hne).symm]
  have ly:ys.length=m:=by simpa using hx
  have I:=ih ys ly (by lia)
  rw[lZ]
  generalize bx g p ys=q at I
  have lsp:q.1.sp.length=n+m:=by rw[I.sp,K5,K4,hs,ly]
  have lbe:q.1.be.length=n+m:=by rw[I.bl,ly]
  have q2lt:q.2<2 ^ (n+m):=by
   apply Nz _ λi hi=>?_
   rw[I.b,ly]
   have h1:p.2.testBit i=false:=MM (LF hlt (LX (by decide) (by lia)))
   rw[h1]
   simp
   lia
  have q256:q.2<2 ^ 256:=LF q2lt (LX (by decide) (by lia))
  have hmem:∀j∈mem q.2,j<(q.1.be++[q.2]).length:=λj hj=>by
   have:=An q2lt hj
   rw[K5,lbe,Np]
   lia
  have lxs:(ys++[y]).length=m+1:=by simpa using ly
  rw[show(gJ g q y)=(#[q.1.sp++[(y,g)],q.1.tk++[0],bL (q.1.be++[q.2]) (mem q.2) q.1.sp.length,kA q.1.pl y q.1.sp.length],q.2 ||| 2 ^ q.1.sp.length) from rfl,lsp]
  apply#[?_,?_,?_,λj=>?_,λa k ha=>?_,λi k hi=>?_]
  ·show q.1.sp++[(y,g)]=_
   rw[I.sp,Ll,Mr]
   rfl
  ·show q.1.tk++[0]=_
   rw[I.tk,lxs,ly,Qm,Mr]
  ·show(bL (q.1.be++[q.2]) (mem q.2) (n+m)).length=_
   rw[de,K5,lbe,lxs]
   rfl
  ·show(q.2 ||| 2 ^ (n+m)).testBit j=_
   rw[M9,NG,I.b,ly,lxs]
   clear I ih
   grind
  ·show((bL (q.1.be++[q.2]) (mem q.2) (n+m)).getD a 0).testBit k=_
   rw[gc hmem,lxs]
   have e1:(q.1.be++[q.2]).getD a 0=q.1.be.getD a 0:=by
    rw[Lb,Lb,Mb (by lia)]
   have e2:decide (a∈mem q.2)=p.2.testBit a:=by
    rw[LV,LP,mem_iff q256,I.b]
    simp
    lia
   rw[e1,e2,I.old a k ha,ly]
   clear I ih hmem
   grind
  ·show((bL (q.1.be++[q.2]) (mem q.2) (n+m)).getD (n+i) 0).testBit k=_
   rw[lxs]at hi
   rw[gc hmem,lxs]
   have pk:n<=k->p.2.testBit k=false:=λhk=>MM (LF hlt (LX (by decide) hk))
   have e2:decide (n+i∈mem q.2)=decide (i<m):=by
    apply Mi.mpr ?_
    rw[mem_iff q256,I.b,ly]
    have:p.2.testBit (n+i)=false:=MM (LF hlt (LX (by decide) (by lia)))
    rw[this]
    simp
   rw[e2]
   by_cases hi2:i<m
   ·have e1:(q.1.be++[q.2]).getD (n+i) 0=q.1.be.getD (n+i) 0:=by
     rw[Lb,Lb,Mb (by lia)]
    rw[e1,I.new i k (by lia),ly]
    clear I ih hmem
    grind
   ·have ei:i=m:=by lia
    subst ei
    have e1:(q.1.be++[q.2]).getD (n+i) 0=q.2:=by
     rw[Lb,MI (by lia),lbe,NF]
     rfl
    rw[e1,I.b,ly]
    have:=pk
    clear I ih hmem
    grind
end Uf
end
section
set_option maxHeartbeats 400000
namespace Uf
open PySem L2 UfB UfM
structure WF where
 W:qB
 oc:List (Str×List Nat)
 own:List Nat
def eY(sp:List (Str×Option Nat))(s:Nat):Option Nat:=(sp[s]?).bind (·.2)
def cN(f:WF)(T:List Nat):Nat:=T.foldl (λa t=>match eY f.W.sp t with|some g=>a ||| f.own.getD g 0|none=>a) 0
def fb(f:WF)(T:List Nat):Nat:=T.foldl (λb t=>b &&& f.W.be.getD t 0) (2 ^ f.W.sp.length-1)
def bN(f:WF)(m:Str)(T:List Nat)(gs:List Str):WF :=
 #[(bx (some f.oc.length) (#[f.W.sp,bL f.W.tk T f.oc.length,f.W.be,f.W.pl],fb f T) gs).1,f.oc++[(m,T)],f.own++[2 ^ f.oc.length ||| cN f T]]
def wb(f:WF):Wb:=#[λs o=>(f.W.tk.getD s 0).testBit o=true,eY f.W.sp,λo j=>(f.own.getD o 0).testBit j=true]
structure Good(f:WF):Prop where
 tl:f.W.tk.length=f.W.sp.length
 bl:f.W.be.length=f.W.sp.length
 wl:f.own.length=f.oc.length
 gX:f.W.sp.length<=250
 gvlt:∀s g,eY f.W.sp s=some g->g<f.oc.length
 ownlt:∀o j,(f.own.getD o 0).testBit j=true->j<=o
 tklt:∀s o,(f.W.tk.getD s 0).testBit o=true->o<f.oc.length
 ord:∀s o,(wb f).tk s o->¬(wb f).past s o
 free:∀s,¬(wb f).forked ((wb f).past s)
 blt:∀a k,(f.W.be.getD a 0).testBit k=true->k<f.W.sp.length
 be:∀a b,a<f.W.sp.length->b<f.W.sp.length->((f.W.be.getD a 0).testBit b=true↔a≠b/\(wb f).mq a b)
def fe(xs ys:List Nat)(i:Nat):(xs++ys).getD i 0=if i<xs.length then xs.getD i 0 else ys.getD (i-xs.length) 0:=by
 rw[Lb,Lb,Lb]
 split
 ·rename_i h
  rw[Mb h]
 ·rename_i h
  rw[MI (by lia)]
def gq{xs:List Nat}{i:Nat}(h:xs.length<=i):xs.getD i 0=0:=by
 rw[Lb,Ma h]
 rfl
theorem nk{f:WF}(g:Good f):∀(T:List Nat) (b s:Nat),(T.foldl (λb t=>b &&& f.W.be.getD t 0) b).testBit s=true↔b.testBit s=true/\∀t∈T,(f.W.be.getD t 0).testBit s=true
 |[],b,s=>by simp
 |t::T,b,s=>by
  rw[MP,nk g T,Nc,Md]
  simp[and_assoc]
theorem qj{f:WF}:∀(T:List Nat) (a j:Nat),(T.foldl (λa t=>match eY f.W.sp t with|some g=>a ||| f.own.getD g 0|none=>a) a).testBit j=true↔a.testBit j=true\/∃t∈T,(wb f).past t j
 |[],a,j=>by simp
 |t::T,a,j=>by
  rw[MP,qj T]
  have e:(match eY f.W.sp t with|some g=>a ||| f.own.getD g 0|none=>a).testBit j=true↔a.testBit j=true\/(wb f).past t j:=by
   cases h:eY f.W.sp t with
   |none =>
    constructor
    ·exact .inl
    ·rintro(z|⟨g,hg,_⟩)
     ·exact z
     ·have hg:eY f.W.sp t=some g:=hg
      rw[h]at hg
      cases hg
   |some g =>
    show(a ||| f.own.getD g 0).testBit j=true↔_
    rw[M9,M0]
    constructor
    ·rintro(z|z)
     ·exact .inl z
     ·exact .inr #[g,h,z]
    ·rintro(z|⟨g',hg,z⟩)
     ·exact .inl z
     ·have hg:eY f.W.sp t=some g':=hg
      rw[h]at hg
      cases hg
      exact .inr z
  rw[e,or_assoc]
  simp
structure uz(f:WF)(T:List Nat)(gs:List Str):Prop where
 lt:∀t∈T,t<f.W.sp.length
 ne:T≠[]
 side:∀a∈T,∀b∈T,a≠b->(f.W.be.getD a 0).testBit b=true
 gX:f.W.sp.length+gs.length<=250
section
variable {f:WF}{m:Str}{T:List Nat}{gs:List Str}
def rC(g:Good f):fb f T<2 ^ f.W.sp.length:=by
 apply Nz _ λi hi=>?_
 cases h:(fb f T).testBit i with
 |false=>rfl
 |true =>
  have:=((nk g T _ i).mp h).1
  rw[N8]at this
  simp at this
  lia
def gU(g:Good f)(h:uz f T gs):Hw (some f.oc.length) (#[f.W.sp,bL f.W.tk T f.oc.length,f.W.be,f.W.pl],fb f T) (bx (some f.oc.length) (#[f.W.sp,bL f.W.tk T f.oc.length,f.W.be,f.W.pl],fb f T) gs) gs f.W.sp.length :=
 HU rfl g.bl (rC g) _ gs rfl h.gX
def zc(g:Good f)(h:uz f T gs):(wb f).Step (wb (bN f m T gs)) f.oc.length (· ∈ T) (λs=>f.W.sp.length<=s/\s<f.W.sp.length+gs.length):=by
 have A:=gU g h
 have hsp:(bN f m T gs).W.sp=f.W.sp++gs.map (λx=>(x,some f.oc.length)):=A.sp
 have htk:(bN f m T gs).W.tk=bL f.W.tk T f.oc.length++List.replicate gs.length 0:=A.tk
 have hTl:∀j∈T,j<f.W.tk.length:=λj hj=>by rw[g.tl];exact h.lt j hj
 have lor:(bL f.W.tk T f.oc.length).length=f.W.sp.length:=by rw[de,g.tl]
 have hout:∀{s:Nat},f.W.sp.length<=s->f.W.tk.getD s 0=0:=λ{s} hs=>gq (by rw[g.tl];exact hs)
 apply#[λs o=>?_,λs hs=>?_,λs hs=>?_,λj=>?_,λo j ho=>?_,λt ht hn=>?_,λs z=>?_,λs z=>?_,λs #[gg,h1,h2]=>?_,λs o hs z=>?_,?_,g.ord,g.free,λa b ha hb n=>?_]
 ·show((bN f m T gs).W.tk.getD s 0).testBit o=true↔(f.W.tk.getD s 0).testBit o=true\/(o=f.oc.length/\s∈T)
  rw[htk,fe,lor]
  by_cases hs:s<f.W.sp.length
  ·rw[Ls hs,gc hTl]
   simp[and_comm]
  ·rw[Le hs,hout (by lia)]
   have:(List.replicate gs.length 0).getD (s-f.W.sp.length) 0=0:=by
    rw[Lb,NH]
    split <;> rfl
   rw[this]
   simp
   intro _ z
   exact hs (h.lt s z)
 ·show eY (bN f m T gs).W.sp s=some f.oc.length
  rw[hsp]
  unfold eY
  rw[MI hs.1,LD,K7 (by lia)]
  rfl
 ·show eY (bN f m T gs).W.sp s=eY f.W.sp s
  rw[hsp]
  unfold eY
  by_cases hl:s<f.W.sp.length
  ·rw[Mb hl]
  ·rw[Ma (by rw[K5,K4];lia),Ma (by lia)]
 ·show((f.own++[2 ^ f.oc.length ||| cN f T]).getD f.oc.length 0).testBit j=true↔_
  rw[fe,Le (by rw[g.wl];lia),g.wl,NF]
  show(2 ^ f.oc.length ||| cN f T).testBit j=true↔_
  rw[M9,M0,NG,LP]
  unfold cN
  rw[qj T 0 j]
  simp[eq_comm]
 ·show((f.own++[2 ^ f.oc.length ||| cN f T]).getD o 0).testBit j=true↔(f.own.getD o 0).testBit j=true
  rw[fe]
  by_cases hl:o<f.own.length
  ·rw[Ls hl]
  ·rw[Le hl,gq (xs:=[2 ^ f.oc.length ||| cN f T]) (by simp;have:=g.wl;lia),gq (xs:=f.own) (by lia)]
 ·have:=h.lt t ht
  lia
 ·exact absurd (g.tklt s _ z) (Me _)
 ·exact absurd (g.gvlt s _ z) (Me _)
 ·have:=g.gvlt s gg h1
  have:=g.ownlt gg _ h2
  lia
 ·have z:(f.W.tk.getD s 0).testBit o=true:=z
  rw[hout hs.1]at z
  simp at z
 ·exact List.exists_mem_of_ne_nil T h.ne
 ·exact((g.be a b (h.lt a ha) (h.lt b hb)).mp (h.side a ha b hb n)).2
def kY(g:Good f)(h:uz f T gs):Good (bN f m T gs):=by
 have A:=gU g h
 have S:=zc (m:=m) g h
 have hsp:(bN f m T gs).W.sp=f.W.sp++gs.map (λx=>(x,some f.oc.length)):=A.sp
 have htk:(bN f m T gs).W.tk=bL f.W.tk T f.oc.length++List.replicate gs.length 0:=A.tk
 have lsp:(bN f m T gs).W.sp.length=f.W.sp.length+gs.length:=by rw[hsp,K5,K4]
 have loc:(bN f m T gs).oc.length=f.oc.length+1:=by show(f.oc++[(m,T)]).length=_;simp
 have hn:f.W.sp.length=f.W.sp.length:=rfl
 have b0:∀s,(fb f T).testBit s=true↔s<f.W.sp.length/\∀t∈T,(f.W.be.getD t 0).testBit s=true:=λs=>by
  unfold fb
  rw[nk g T _ s,N8,LP]
 apply#[?_,?_,?_,by rw[lsp];exact h.gX,λs gg hg=>?_,λo j hj=>?_,λs o ho=>?_,S.KO,λs=>?_,λa k hk=>?_,λa b ha hb=>?_]
 ·rw[htk,lsp,K5,de,MQ,g.tl]
 ·rw[lsp]
  exact A.bl
 ·show(f.own++[_]).length=_
  rw[loc,K5,g.wl]
  rfl
 ·rw[loc]
  by_cases hs:f.W.sp.length<=s/\s<f.W.sp.length+gs.length
  ·have:=S.gvN s hs
   have hg':(wb (bN f m T gs)).gv s=some gg:=hg
   rw[this]at hg'
   cases hg'
   lia
  ·have hg':(wb (bN f m T gs)).gv s=some gg:=hg
   rw[S.gvO s hs]at hg'
   have:=g.gvlt s gg hg'
   lia
 ·by_cases ho:o=f.oc.length
  ·subst ho
   rcases(S.ownE j).mp hj with z|⟨t,ht,gg,h1,h2⟩
   ·lia
   ·have:=g.gvlt t gg h1
    have:=g.ownlt gg j h2
    lia
  ·exact g.ownlt o j ((S.ownO o j ho).mp hj)
 ·rw[loc]
  rcases(S.tk s o).mp ho with z|⟨z,_⟩
  ·have:=g.tklt s o z
   lia
  ·lia
 ·by_cases hs:f.W.sp.length<=s/\s<f.W.sp.length+gs.length
  ·exact S.FV hs
  ·exact S.Ik hs
 ·rw[lsp]
  have hk:((bx (some f.oc.length) (#[f.W.sp,bL f.W.tk T f.oc.length,f.W.be,f.W.pl],fb f T) gs).1.be.getD a 0).testBit k=true:=hk
  by_cases ha:a<f.W.sp.length
  ·rw[A.old a k ha]at hk
   have:=g.blt a k
   dsimp only at hk
   grind
  ·by_cases ha2:a<f.W.sp.length+gs.length
   ·have e:f.W.sp.length+(a-f.W.sp.length)=a:=by lia
    rw[<-e,A.new (a-f.W.sp.length) k (by lia)]at hk
    have:=(b0 k).mp
    dsimp only at hk
    grind
   ·rw[gq (by rw[A.bl];lia)]at hk
    simp at hk
 ·rw[lsp]at ha hb
  show((bx (some f.oc.length) (#[f.W.sp,bL f.W.tk T f.oc.length,f.W.be,f.W.pl],fb f T) gs).1.be.getD a 0).testBit b=true↔_
  have mix:∀s n:Nat,s<f.W.sp.length->(f.W.sp.length<=n/\n<f.W.sp.length+gs.length)->((fb f T).testBit s=true↔(wb (bN f m T gs)).mq s n):=λs n hs hn=>by
   rw[b0 s,S.FZ (by lia) hn]
   constructor
   ·intro z t ht
    have:=(g.be t s (h.lt t ht) hs).mp (z.2 t ht)
    exact#[λq=>this.1 q.symm,this.2.symm]
   ·intro z
    exact#[hs,λt ht=>(g.be t s (h.lt t ht) hs).mpr #[λq=>(z t ht).1 q.symm,(z t ht).2.symm]]
  by_cases ha1:a<f.W.sp.length
  ·rw[A.old a b ha1]
   dsimp only
   by_cases hb1:b<f.W.sp.length
   ·have e:(decide (f.W.sp.length<=b))=false:=Lq (by lia)
    rw[e,OA,Oz,NK,g.be a b ha1 hb1,S.pz (by lia) (by lia)]
   ·have hbN:f.W.sp.length<=b/\b<f.W.sp.length+gs.length:=⟨by lia,hb⟩
    have e0:(f.W.be.getD a 0).testBit b=false:=by
     cases z:(f.W.be.getD a 0).testBit b with
     |false=>rfl
     |true=>exact absurd (g.blt a b z) hb1
    rw[e0,Qq,Lk hbN.1,Lk hbN.2,Qt,Qt,mix a b ha1 hbN]
    exact#[λz=>#[by lia,z],λz=>z.2]
  ·have haN:f.W.sp.length<=a/\a<f.W.sp.length+gs.length:=⟨by lia,ha⟩
   have e:f.W.sp.length+(a-f.W.sp.length)=a:=by lia
   rw[<-e,A.new (a-f.W.sp.length) b (by lia),e]
   dsimp only
   by_cases hb1:b<f.W.sp.length
   ·have e2:(decide (f.W.sp.length<=b))=false:=Lq (by lia)
    rw[e2,Oz,Oz,NK,mix b a hb1 haN]
    exact#[λz=>#[by lia,z.symm],λz=>z.2.symm]
   ·have hbN:f.W.sp.length<=b/\b<f.W.sp.length+gs.length:=⟨by lia,hb⟩
    have e0:(fb f T).testBit b=false:=by
     cases z:(fb f T).testBit b with
     |false=>rfl
     |true=>exact absurd ((b0 b).mp z).1 hb1
    rw[e0,Qq,Lk hbN.1,Lk hbN.2,Nt,Nt,LP]
    exact#[λz=>#[λq=>z q.symm,S.among haN hbN],λz q=>z.1 q.symm]
end
end Uf
end
namespace Uf
open PySem L2 UfSrt
structure Def(K:PySem.W.Frag)(mg:Str->Option Value)(x:Str)(st:Stmt)(ps:List Str)(f:Addr)(fd:FuncData):Prop where
 fn:dN K x x st f fd
 mg:mg x=some (.ref f)
 bd:Binds K fd ps []
structure gG(P:Program)(w:World)(K:PySem.W.Frag)(mg:Str->Option Value)(base:Heap)(x:Str)(st:Stmt)(ps:List Str)(k:Nat)(sp:Sp) where
 f:Addr
 fd:FuncData
 d:Def K mg x st ps f fd
 g:bf P w K mg base cZ k f fd ps sp
def eV{X:Cx}{x:Str}{st:Stmt}{ps:List Str}{k:Nat}{sp:Sp}{e:Expr}{es:List Expr}{t:TA}{p pos:Pos}(D:gG X.prog X.w X.K X.mg X.base x st ps k sp)(hr:cW k X.A)(ha:PA X (e::es) t)(hg:Gl X x:=by rfl)(hdb:(x==("__debug__":Str))=false:=by decide)(he:starEach (e::es) X.env=(false,eval e X.env)::starEach es X.env:=by rfl)(hpl:(backTo pos (starEach es X.env)).any (·.1)=false:=by rfl) :
  PE X (.Call (.Name x p) (e::es) [] pos) (Fo sp [] E0 t):=eu D.g hr hg D.d.mg D.d.fn.kp D.d.bd .nil bR ha hdb he hpl
def unlike(xs:List Str):Bool:=xs.all isNm&&decide xs.Nodup
def Short(xs:List Str):Prop:=xs.length<=200/\∀x∈xs,x.length<=1000
def c6{xs:List Str}{i:Nat}{v:V}(h:(aE xs)[i]?=some v):∃x,xs[i]?=some x/\v=.str x:=by
 unfold aE at h
 rw[LD]at h
 cases e:xs[i]? with
 |none=>rw[e]at h;cases h
 |some x=>rw[e]at h;exact#[x,rfl,(LS h).symm]
def nZ(K:PySem.W.Frag):Sp:=λvs H Q _=>∃(a:Addr) (xs:List Str),vs=[.ref a]/\aH K H a (aE xs)/\Short xs/\∀H',au H H'->Q (.bl (unlike xs)) H'
def sI:aF ["things"] ["things"] (av jd):=ff
def pH{f fN:Addr}{fd fdN:FuncData}(F:dN K "are_unlike_names" "are_unlike_names" jd f fd)(T:Txt K mg)(DN:Def K mg "is_name" fC ["thing"] fN fdN):bf P w K mg base cZ 2 f fd ["things"] (nZ K):=by
 have GN:bf P w K mg base cZ 1 fN fdN ["thing"] oE:=qu DN.fn T
 apply F.oK sI λcdv A outer s H vs Q E hr h=>?_
 ·obtain⟨a,xs,rfl,ha,hz,k⟩:=h
  apply#[_,ak (aK (jA (aA (gY rfl) rfl T.all qk (aa (cE (N:=["thing"]) (n:=1) (ci:=[]) rfl (aZ (pv 0)) (oO sI)
    (λz=>#[kJ 0,cR,eu GN hr rfl DN.mg DN.fn.kp DN.bd .nil bR (aa (pv 0) af)])) af))
   (jI (dP fJ (aA zx rfl T.len cY (aa (a8 (nR rfl) rfl T.set BE (aa (pv 0) af)) af)) (aA bB rfl T.len cY (aa (pv 0) af)) (bp _))))),?_]
  ac_rfl
  apply#[Z,a,rfl,#[_,ha],λz D hD=>cv (a:=a) (xs:=aE xs) (λi ys H2=>ys=(xs.take i).map (λx=>V.bl (isNm x))/\H2 D=some (.lst ys)/\au H H2) #[rfl,ae,ao hD] (λi ys H2 _ p=>p.2.2.seq ha) ?_ ?_]
  ·rintro i v ys H2 hi ⟨rfl,hys,sm⟩
   obtain⟨x,hx,rfl⟩:=c6 hi
   apply#[Z,x,rfl,hz.2 x (Lg hx),λH3 s3=>#[s3 _ _ hys,?_,?_,ae,aJ (sm.trans s3) hD]]
   ·rw[K4,Lf,L7]
    have:=hz.1
    lia
   ·rw[ay hx,Ll]
    rfl
  ·rintro ys H2 ⟨rfl,hys,sm⟩
   have hl:(aE xs).length=xs.length:=ar xs
   rw[hl,LH]at hys
   apply#[D,xs.map isNm,rfl,aH.of (by rw[hys,LY];rfl),Z,?_]
   have ea:(xs.map isNm).all id=xs.all isNm:=by rw[NZ];rfl
   rw[ea]
   cases hn:xs.all isNm with
   |false =>
    apply bz ?_
    have e:unlike xs=false:=by unfold unlike;rw[hn];rfl
    rw[<-e]
    exact k H2 sm
   |true =>
    apply cy ?_
    apply#[Z,a,xs,rfl,sm.seq ha,by have:=hz.1;lia,λp hp=>#[p,Z,ae,?_]]
    have sm2:au H (upd H2 p (mY w p (UfSet.dd xs))):=aJ sm (sm.free hp)
    apply#[Z,_,xs.length,rfl,.inl #[_,sm2.seq ha,hl.symm],rfl,?_]
    have e:unlike xs=decide (V.int (((UfSet.dd xs).length:Nat):Int)=V.int ((xs.length:Nat):Int)):=by
     unfold unlike
     rw[hn,Nt]
     apply Mi.mpr ?_
     rw[<-UfSet.ve]
     constructor
     ·intro h;rw[h]
     ·intro h;injection h with h;lia
    rw[<-e]
    exact k _ sm2
def ij(tk gv:List Str):Bool:=unlike tk&&(unlike gv&&(decide (1<=tk.length)&&(decide (tk.length<=4)&&decide (gv.length<=4))))
def uw(K:PySem.W.Frag):Sp:=λvs H Q _=>∃(a b:Addr) (tk gv:List Str),vs=[.ref a,.ref b]/\aH K H a (aE tk)/\aH K H b (aE gv)/\Short tk/\Short gv/\∀H',au H H'->Q (.bl (ij tk gv)) H'
def Bp:aF ["taken","given"] ["taken","given"] (av j5):=ff
def zC{f fN fU:Addr}{fd fdN fdU:FuncData}(F:dN K "is_move" "is_move" j5 f fd)(T:Txt K mg)(DN:Def K mg "is_name" fC ["thing"] fN fdN)(DU:Def K mg "are_unlike_names" jd ["things"] fU fdU):bf P w K mg base cZ 3 f fd ["taken","given"] (uw K):=by
 have GU:bf P w K mg base cZ 2 fU fdU ["things"] (nZ K):=pH DU.fn T DN
 apply F.oK Bp λcdv A outer s H vs Q E hr h=>?_
 ·obtain⟨a,b,tk,gv,rfl,ha,hb,za,zb,k⟩:=h
  obtain⟨t1,h1⟩:=T.leastT
  obtain⟨t2,h2⟩:=T.mostT
  obtain⟨t3,h3⟩:=T.mostG
  apply#[_,ag (bK (PW.pt (pw_or (cF (ck (eu GU hr rfl DU.mg DU.fn.kp DU.bd .nil bR (aa (pv 0) af)))) (pw_or1 (cF (ck (eu GU hr rfl DU.mg DU.fn.kp DU.bd .nil bR (aa (pv 1) af))))))) (ak (aK iz)) aM)
   (ak (aK (jA (AA m8 m8 (ix (v:=.int 1) rfl h1 #[t1,rfl]) (aA bB rfl T.len cY (aa (pv 0) af)) (ix (v:=.int 4) rfl h2 #[t2,rfl]))
    (jI (dP m8 (aA bB rfl T.len cY (aa (pv 1) af)) (ix (v:=.int 4) rfl h3 #[t3,rfl]) (bp _)))))),?_]
  ac_rfl
  have no:∀H',au H H'->ij tk gv=false->Q (.bl false) H':=λH' sm e=>by rw[<-e];exact k H' sm
  apply#[Z,a,tk,rfl,ha,za,λH1 s1=>#[Z,?_]]
  cases u1:unlike tk with
  |false =>
   apply cy ?_
   apply cy ?_
   exact no H1 s1 (by unfold ij;rw[u1];rfl)
  |true =>
   apply bz ?_
   apply#[Z,b,gv,rfl,s1.seq hb,zb,λH2 s2=>#[Z,?_]]
   have sm:au H H2:=s1.trans s2
   cases u2:unlike gv with
   |false =>
    apply cy ?_
    exact no H2 sm (by unfold ij;rw[u1,u2];rfl)
   |true =>
    apply bz ?_
    apply#[Z,_,tk.length,rfl,.inl #[_,sm.seq ha,(ar tk).symm],1,Z,rfl,Z,?_]
    by_cases c1:1<=tk.length
    ·rw[Lk (show(1:Int)<=(tk.length:Int) by lia)]
     apply cy ?_
     apply#[_,Z,rfl,Z,?_]
     by_cases c2:tk.length<=4
     ·rw[Lk (show(tk.length:Int)<=4 by lia)]
      apply cy ?_
      apply#[Z,_,gv.length,rfl,.inl #[_,sm.seq hb,(ar gv).symm],_,Z,rfl,?_]
      have e:ij tk gv=decide ((gv.length:Int)<=4):=by
       unfold ij
       rw[u1,u2,Lk c1,Lk c2]
       simp only[Nt]
       exact Mi.mpr (by lia)
      show Q (V.bl (decide ((gv.length:Int)<=4))) H2
      rw[<-e]
      exact k H2 sm
     ·rw[Lq (show ¬(tk.length:Int)<=4 by lia)]
      apply bz ?_
      exact no H2 sm (by unfold ij;rw[u1,u2,decide_eq_false c2];simp)
    ·rw[Lq (show ¬(1:Int)<=(tk.length:Int) by lia)]
     apply bz #[Z,?_]
     apply bz ?_
     exact no H2 sm (by unfold ij;rw[u1,u2,decide_eq_false c1];simp)
abbrev Mv:=Str×List Str×List Str
def uu(H:Hp)(m:Mv)(q:Addr):Prop:=∃l g,H q=some (.tup [.str m.1,.ref l,.ref g])/\H l=some (.lst (aE m.2.1))/\H g=some (.lst (aE m.2.2))
def uu.same{H H':Hp}{m:Mv}{q:Addr}(s:au H H')(h:uu H m q):uu H' m q:=by
 obtain⟨l,g,h1,h2,h3⟩:=h
 exact#[l,g,s _ _ h1,s _ _ h2,s _ _ h3]
def qI(K:PySem.W.Frag)(H:Hp)(a:Addr)(ms:List Mv):Prop:=∃qs:List Addr,aH K H a (qs.map V.ref)/\Paired (uu H) ms qs
theorem qI.same{K:PySem.W.Frag}{H H':Hp}{a:Addr}{ms:List Mv}(s:au H H')(h:qI K H a ms):qI K H' a ms:=by
 obtain⟨qs,h1,h2⟩:=h
 exact#[qs,s.seq h1,Paired.cc h2 λ_ _=>uu.same s]
theorem br{α β:Type}{F:α->β->Prop}:∀{l:List α} {m:List β} {i:Nat} {b:β},Paired F l m->m[i]?=some b->∃a,l[i]?=some a/\F a b
 |_,_,_,_,.nil,e=>by simp at e
 |_,_,0,_,.cons r _,e=>by
  simp at e
  subst e
  exact#[Z,r]
 |_,_,i+1,_,.cons _ t,e=>by
  obtain⟨a,h1,h2⟩:=br (i:=i) t (by simpa using e)
  exact#[a,by simpa using h1,h2]
def cO{qs:List Addr}{i:Nat}{v:V}(h:(qs.map V.ref)[i]?=some v):∃q,qs[i]?=some q/\v=.ref q:=by
 rw[LD]at h
 cases e:qs[i]? with
 |none=>rw[e]at h;cases h
 |some x=>rw[e]at h;exact#[x,rfl,(LS h).symm]
def gB(ms:List Mv):List Str:=ms.flatMap λm=>m.2.1++m.2.2
def dv(ms:List Mv)(st:List Str):List Str:=aL (UfSet.dd (st++gB ms))
def oY(K:PySem.W.Frag):Sp:=λvs H Q _=>∃(a b:Addr) (ms:List Mv) (st:List Str),vs=[.ref a,.ref b]/\qI K H a ms/\aH K H b (aE st)/\(st++gB ms).length<=1000/\(UfSet.dd (st++gB ms)).length<64 /\
 ∀H' p,au H H'->H p=none->H' p=some (.lst (aE (dv ms st)))->Q (.ref p) H'
def gT:aF ["moves","start","places","name","taken","given"] ["moves","start"] (av ka):=ff
def qw{f:Addr}{fd:FuncData}(F:dN K "places_of" "places_of" ka f fd)(T:Txt K mg):bf P w K mg base cZ 1 f fd ["moves","start"] (oY K):=by
 apply F.oK gT λcdv A outer s H vs Q E hr h=>?_
 ·obtain⟨a,b,ms,st,rfl,ha,hb,hz,h64,k⟩:=h
  obtain⟨qs,hq,hp⟩:=id ha
  apply#[_,ag (cM 2 gT (a8 bF rfl T.lst dW (aa (pv 1) af)))
   (ag (bO LC rfl (aZ (pv 0)) (eD rfl (aU (fE 3 gT) (aU (fE 4 gT) (aU (fE 5 gT) di))))
    (ak (cM 2 gT (aw eC (aw eC (pv 2) (a8 bF rfl T.lst dW (aa (pv 4) af))) (a8 bF rfl T.lst dW (aa (pv 5) af))))))
   (ak (aK (aA (nD rfl) rfl T.aL cf (aa (a8 (nR rfl) rfl T.set BE (aa (pv 2) af)) af))))),?_]
  ac_rfl
  apply#[Z,b,aE st,rfl,.inl hb,λp0 n0=>?_]
  have s0:au H (upd H p0 (.lst (aE st))):=ao n0
  apply#[Z,a,rfl,#[_,s0.seq hq],bJ (K:=K) (a:=a) (xs:=qs.map V.ref) (λi σ H2=>∃(p:Addr) (v3 v4 v5:Option V),σ=[some (.ref a),some (.ref b),some (.ref p),v3,v4,v5]/\au H H2/\H p=none/\H2 p=some (.lst (aE (st++gB (ms.take i)))))
   #[p0,none,none,none,rfl,s0,n0,by rw[ae];simp[gB]] (λi σ H2 _ #[_,_,_,_,_,sm,_]=>sm.seq hq) ?_ ?_]
  ·rintro i v σ H2 hi ⟨p,v3,v4,v5,rfl,sm,np,hp2⟩
   obtain⟨q,hqi,rfl⟩:=cO hi
   obtain⟨m,hm,hmv⟩:=br hp hqi
   obtain⟨l,g,e1,e2,e3⟩:=hmv.same sm
   have etk:gB (ms.take (i+1))=gB (ms.take i)++(m.2.1++m.2.2):=by
    unfold gB
    rw[ay hm,Of]
    simp
   have hle:(st++gB (ms.take (i+1))).length<=1000:=by
    apply LM ?_ hz
    have e:gB ms=gB (ms.take (i+1))++gB (ms.drop (i+1)):=by
     unfold gB
     rw[<-Of,Nr]
    rw[e,K5,K5,K5]
    lia
   rw[etk]at hle
   simp only[K5]at hle
   have hsl:=LG
   apply#[q,Z,cz.of e1,rfl,_,Z,_,Z,_,Z,rfl,?_]
   apply#[Z,Z,l,aE m.2.1,rfl,.inl (aH.of e2),λl1 n1=>#[p,l1,_,Z,rfl,(by rw[ai (aq hp2 n1)];exact hp2),ae,?_,λp1 m1=>?_]]
   ·rw[ar,ar,K5]
    lia
   have s1:au H2 (upd (upd H2 l1 (.lst (aE m.2.1))) p1 (.lst (aE (st++gB (ms.take i))++aE m.2.1))):=(ao n1).trans (ao m1)
   apply#[Z,g,aE m.2.2,rfl,.inl (aH.of (s1 _ _ e3)),λl2 n2=>#[p1,l2,_,Z,rfl,(by rw[ai (aq ae n2)];exact ae),ae,?_,λp2 m2=>?_]]
   ·rw[K5,ar,ar,ar,K5]
    lia
   have s2:=s1.trans ((ao (o:=.lst (aE m.2.2)) n2).trans (ao (o:=.lst ((aE (st++gB (ms.take i))++aE m.2.1)++aE m.2.2)) m2))
   apply#[p2,_,_,Z,sm.trans s2,?_,?_]
   ·exact(sm.trans (s1.trans (ao (o:=.lst (aE m.2.2)) n2))).free m2
   ·rw[ae,etk]
    unfold aE
    simp[Ll]
  ·rintro σ H2 ⟨p,v3,v4,v5,rfl,sm,np,hp2⟩
   have el:(qs.map V.ref).length=ms.length:=by rw[K4,<-Lz hp]
   rw[el,LH]at hp2
   apply#[Z,p,st++gB ms,rfl,aH.of hp2,hz,λp1 n1=>#[p1,Z,ae,h64,λp2 n2=>?_]]
   have s1:=(ao (o:=mY w p1 (UfSet.dd (st++gB ms))) n1).trans (ao (o:=.lst (aE (aL (UfSet.dd (st++gB ms))))) n2)
   exact k _ p2 (sm.trans s1) ((sm.trans (ao (o:=mY w p1 (UfSet.dd (st++gB ms))) n1)).free n2) ae
def names(ms:List Mv):List Str:=ms.map (·.1)
def gO(ms:List Mv)(st:List Str):Bool:=decide (ms.length<=12)&&(unlike (names ms)&&((ms.all λm=>ij m.2.1 m.2.2)&&(unlike st&&decide ((dv ms st).length<=12))))
structure Fits(ms:List Mv)(st:List Str):Prop where
 nm:Short (names ms)
 tk:∀m∈ms,Short m.2.1
 gv:∀m∈ms,Short m.2.2
 so:Short st
 sum:(st++gB ms).length<=1000
 gX:(UfSet.dd (st++gB ms)).length<64
def yj(K:PySem.W.Frag):Sp:=λvs H Q _=>∃(a b:Addr) (ms:List Mv) (st:List Str),vs=[.ref a,.ref b]/\qI K H a ms/\aH K H b (aE st)/\Fits ms st/\∀H',au H H'->Q (.bl (gO ms st)) H'
def qV:aF ["moves","start"] ["moves","start"] (av rE):=ff
def AI{f fN fU fM fP:Addr}{fd fdN fdU fdM fdP:FuncData}(F:dN K "makes_net" "makes_net" rE f fd)(T:Txt K mg)(DN:Def K mg "is_name" fC ["thing"] fN fdN)(DU:Def K mg "are_unlike_names" jd ["things"] fU fdU)
  (DM:Def K mg "is_move" j5 ["taken","given"] fM fdM) (DP:Def K mg "places_of" ka ["moves","start"] fP fdP):bf P w K mg base cZ 4 f fd ["moves","start"] (yj K):=by
 have GU:bf P w K mg base cZ 2 fU fdU ["things"] (nZ K):=pH DU.fn T DN
 have GM:bf P w K mg base cZ 3 fM fdM ["taken","given"] (uw K):=zC DM.fn T DN DU
 have GP:bf P w K mg base cZ 1 fP fdP ["moves","start"] (oY K):=qw DP.fn T
 apply F.oK qV λcdv A outer s H vs Q E hr h=>?_
 ·obtain⟨a,b,ms,st,rfl,ha,hb,hf,k⟩:=h
  obtain⟨qs,hq,hp⟩:=id ha
  obtain⟨t1,h1⟩:=T.mostM
  obtain⟨t2,h2⟩:=T.mostP
  apply#[_,ag (bK (PW.pt (pw_or (aY HJ (aA bB rfl T.len cY (aa (pv 0) af)) (ix (v:=.int 12) rfl h1 #[t1,rfl]) (bp _))
    (pw_or1 (cF (ck (eu GU (hr.mono (by decide)) rfl DU.mg DU.fn.kp DU.bd .nil bR (aa (cE (N:=["move"]) (n:=1) (ci:=[]) rfl (aZ (pv 0)) (oO qV)
     (λz=>#[kJ 0,cR,aQ cL (pv 0) aj (λ_ _=>rfl)])) af)))))))
    (ak (aK iz)) aM)
   (ag (bK (PW.pt (pw_or (cF (ck (aA (gY rfl) rfl T.all qk (aa (cE (N:=["name","taken","given"]) (n:=3) (ci:=[]) rfl (aZ (pv 0)) (oO qV)
     (λz=>#[eD rfl (aU (kJ 0) (aU (kJ 1) (aU (kJ 2) di))),
      cR,eu GM hr rfl DM.mg DM.fn.kp DM.bd .nil bR (aa (pv 1) (aa (pv 2) af))])) af))))
     (pw_or1 (cF (ck (eu GU (hr.mono (by decide)) rfl DU.mg DU.fn.kp DU.bd .nil bR (aa (pv 1) af)))))))
    (ak (aK iz)) aM)
   (ak (aK (dP m8 (aA bB rfl T.len cY (aa (eu GP (hr.mono (by decide)) rfl DP.mg DP.fn.kp DP.bd .nil bR (aa (pv 0) (aa (pv 1) af))) af)) (ix (v:=.int 12) rfl h2 #[t2,rfl]) (bp _))))),?_]
  ac_rfl
  have no:∀H',au H H'->gO ms st=false->Q (.bl false) H':=λH' sm e=>by rw[<-e];exact k H' sm
  have lq:qs.length=ms.length:=(Lz hp).symm
  apply#[Z,_,ms.length,rfl,.inl #[_,hq,by rw[K4,lq]],_,Z,rfl,Z,?_]
  by_cases c1:ms.length<=12
  ·rw[show decide (((ms.length:Nat):Int) > 12)=false from Lq (by lia)]
   apply bz ?_
   apply#[Z,a,rfl,#[_,hq],λz D hD=>cv (a:=a) (xs:=qs.map V.ref) (λi ys H2=>ys=aE (names (ms.take i))/\H2 D=some (.lst ys)/\au H H2) #[rfl,ae,ao hD] (λi ys H2 _ p=>p.2.2.seq hq) ?_ ?_]
   ·rintro i v ys H2 hi ⟨rfl,hys,sm⟩
    obtain⟨q,hqi,rfl⟩:=cO hi
    obtain⟨m,hm,hmv⟩:=br hp hqi
    obtain⟨l,g,e1,e2,e3⟩:=hmv.same sm
    apply#[Z,q,_,0,Z,rfl,cz.of e1,aD (j:=0) rfl,hys,?_,?_,ae,aJ sm hD]
    ·rw[ar,names,K4,Lf,L7]
     lia
    ·rw[ay hm]
     unfold names aE
     simp
   ·rintro ys H2 ⟨rfl,hys,sm⟩
    rw[K4,lq,LH]at hys
    apply#[D,names ms,rfl,aH.of hys,hf.nm,λH3 s3=>#[Z,?_]]
    have sm3:au H H3:=sm.trans s3
    cases u1:unlike (names ms) with
    |false =>
     apply cy ?_
     exact no H3 sm3 (by unfold gO;rw[u1];simp)
    |true =>
     apply bz ?_
     apply#[Z,a,rfl,#[_,sm3.seq hq],λz2 D2 hD2=>cv (a:=a) (xs:=qs.map V.ref) (λi ys H4=>ys=(ms.take i).map (λm=>V.bl (ij m.2.1 m.2.2))/\H4 D2=some (.lst ys)/\au H3 H4) #[rfl,ae,ao hD2] (λi ys H4 _ p=>(sm3.trans p.2.2).seq hq) ?_ ?_]
     ·rintro i v ys H4 hi ⟨rfl,hys4,sm4⟩
      obtain⟨q,hqi,rfl⟩:=cO hi
      obtain⟨m,hm,hmv⟩:=br hp hqi
      obtain⟨l,g,e1,e2,e3⟩:=hmv.same (sm3.trans sm4)
      have hmem:m∈ms:=Lg hm
      apply#[q,Z,cz.of e1,rfl,_,Z,_,Z,_,Z,rfl,?_]
      apply#[Z,Z,l,g,m.2.1,m.2.2,rfl,aH.of e2,aH.of e3,hf.tk m hmem,hf.gv m hmem,λH5 s5=>#[s5 _ _ hys4,?_,?_,ae,aJ (sm4.trans s5) hD2]]
      ·rw[K4,Lf,L7]
       lia
      ·rw[ay hm,Ll]
       rfl
     ·rintro ys H4 ⟨rfl,hys4,sm4⟩
      rw[K4,lq,LH]at hys4
      have sm5:au H H4:=sm3.trans sm4
      apply#[D2,ms.map (λm=>ij m.2.1 m.2.2),rfl,aH.of (by rw[hys4,LY];rfl),Z,?_]
      have ea:(ms.map (λm=>ij m.2.1 m.2.2)).all id=ms.all λm=>ij m.2.1 m.2.2:=by rw[NZ];rfl
      rw[ea]
      cases u2:ms.all λm=>ij m.2.1 m.2.2 with
      |false =>
       apply cy ?_
       apply cy ?_
       exact no H4 sm5 (by unfold gO;rw[u2];simp)
      |true =>
       apply bz ?_
       apply#[Z,b,st,rfl,sm5.seq hb,hf.so,λH6 s6=>#[Z,?_]]
       have sm6:au H H6:=sm5.trans s6
       cases u3:unlike st with
       |false =>
        apply cy ?_
        exact no H6 sm6 (by unfold gO;rw[u3];simp)
       |true =>
        apply bz ?_
        apply#[Z,Z,a,b,ms,st,rfl,ha.same sm6,sm6.seq hb,hf.sum,hf.gX,λH7 p s7 np hp7=>?_]
        apply#[_,(dv ms st).length,rfl,.inl #[_,aH.of hp7,(ar _).symm],_,Z,rfl,?_]
        have e:gO ms st=decide (((dv ms st).length:Int)<=12):=by
         unfold gO
         rw[Lk c1,u1,u2,u3]
         simp only[Nt]
         exact Mi.mpr (by lia)
        show Q (V.bl (decide (((dv ms st).length:Int)<=12))) H7
        rw[<-e]
        exact k H7 (sm6.trans s7)
  ·rw[show decide (((ms.length:Nat):Int) > 12)=true from Lk (by lia)]
   apply cy ?_
   apply cy ?_
   exact no H (au.refl H) (by unfold gO;rw[decide_eq_false c1];rfl)
end Uf
namespace UfFin
open PySem UfSrt
theorem dZ{α:Type}[DecidableEq α]:∀{l m:List α},l.Nodup->(∀x∈l,x∈m)->l.length<=m.length
 |[],m,_,_=>LA _
 |a::l,m,h,hs=>by
  obtain⟨h1,h2⟩:=Mo.mp h
  have ha:a∈m:=hs a LK
  have ih:=dZ (l:=l) (m:=m.erase a) h2 λx hx=>by
   have hne:x≠a:=λe=>h1 (e ▸ hx)
   exact(List.mem_erase_of_ne hne).mpr (hs x (LJ _ hx))
  rw[List.length_erase_of_mem ha]at ih
  have:=List.length_pos_of_mem ha
  rw[LN]
  lia
def subs{α:Type}:List α->List (List α)
 |[]=>[[]]
 |x::r=>subs r++(subs r).map (x :: ·)
theorem oV{α:Type}:∀l:List α,(subs l).length=2 ^ l.length
 |[]=>rfl
 |x::r=>by
  show(subs r++(subs r).map (x :: ·)).length=_
  rw[K5,K4,oV r,LN,Nat.pow_succ]
  lia
theorem lH{α:Type}(p:α->Bool):∀l:List α,l.filter p∈subs l
 |[]=>by simp[subs]
 |x::r=>by
  have ih:=lH p r
  show List.filter p (x::r)∈subs r++(subs r).map (x :: ·)
  rw[PB]
  split
  ·exact Lp _ (LQ.mpr #[_,ih,rfl])
  ·exact Lj _ ih
structure dD(l:List Str):Prop where
 pw:l.Pairwise le
 nd:l.Nodup
theorem dD.aL{l:List Str}(h:l.Nodup):dD (aL l):=#[vg l,zM.mpr h]
def dD.ext{l m:List Str}(h:dD l)(h':dD m)(e:∀x,x∈l↔x∈m):l=m:=by
 apply pw_unique h.pw h'.pw ?_
 exact(List.perm_ext_iff_of_nodup h.nd h'.nd).mpr e
def dD.yc{l ps:List Str}(h:dD l)(hp:dD ps)(hs:∀x∈l,x∈ps):l∈subs ps:=by
 have e:l=ps.filter λx=>decide (x∈l):=by
  apply dD.ext h #[hp.pw.sublist Og,hp.nd.sublist Og] λx=>?_
  rw[L4]
  constructor
  ·intro hx
   exact#[hs x hx,by simpa using hx]
  ·rintro⟨_,hx⟩
   simpa using hx
 rw[e]
 exact lH _ _
end UfFin
namespace Uf
open PySem L2 UfSrt
abbrev wF:Stmt:=top 39
abbrev AM:Stmt:=inClass wF 0
abbrev uP:Stmt:=inClass wF 1
abbrev pV:Stmt:=inClass wF 2
abbrev iP:Stmt:=inClass wF 3
abbrev jP:Stmt:=inClass wF 4
abbrev kP:Stmt:=inClass wF 5
abbrev uN:Stmt:=inClass wF 6
def iD(aP aS aT aG:Addr):List (Str×V):=[("place_names",V.ref aP),("start_state",V.ref aS),("taken_by",V.ref aT),("given_by",V.ref aG)]
def JQ:(("start_state":Str) == "place_names")=false:=by decide +kernel
def K2:(("taken_by":Str) == "place_names")=false:=by decide +kernel
def KZ:(("given_by":Str) == "place_names")=false:=by decide +kernel
def KL:(("taken_by":Str) == "start_state")=false:=by decide +kernel
def JV:(("given_by":Str) == "start_state")=false:=by decide +kernel
def Kx:(("given_by":Str) == "taken_by")=false:=by decide +kernel
def IC(a b c d:Addr):(iD a b c d).lookup ("place_names":Str)=some (V.ref a):=by simp[iD,List.lookup]
def IG(a b c d:Addr):(iD a b c d).lookup ("start_state":Str)=some (V.ref b):=by simp[iD,List.lookup,JQ]
def yf(a b c d:Addr):(iD a b c d).lookup ("taken_by":Str)=some (V.ref c):=by simp[iD,List.lookup,K2,KL]
def FJ(a b c d:Addr):(iD a b c d).lookup ("given_by":Str)=some (V.ref d):=by simp[iD,List.lookup,KZ,JV,Kx]
def dc(a b c d:Addr){x:Str}(h1:(x == "place_names")=false)(h2:(x == "start_state")=false)(h3:(x == "taken_by")=false)(h4:(x == "given_by")=false):(iD a b c d).lookup x=none:=by
 simp[iD,List.lookup,h1,h2,h3,h4]
def GO:¬(("place_names":Str)="start_state"):=by decide +kernel
def Ie:¬(("place_names":Str)="taken_by"):=by decide +kernel
def Jc:¬(("start_state":Str)="taken_by"):=by decide +kernel
def Jx:¬(("place_names":Str)="given_by"):=by decide +kernel
def JF:¬(("start_state":Str)="given_by"):=by decide +kernel
def JC:¬(("taken_by":Str)="given_by"):=by decide +kernel
def ze(a b c d:Addr):bE "given_by" (V.ref d) (bE "taken_by" (V.ref c) (bE "start_state" (V.ref b) (bE "place_names" (V.ref a) [])))=iD a b c d:=by
 simp[bE,iD,GO,Ie,Jc,Jx,JF,JC]
structure iA(K:PySem.W.Frag)(C:Addr):Prop where
 cl:zY K C
 nP:dt K C "place_names"
 nS:dt K C "start_state"
 nT:dt K C "taken_by"
 nG:dt K C "given_by"
def gR(H:Hp)(sel:Mv->List Str)(ms:List Mv)(kvs:List (Key×V)):Prop:=Paired (λ(m:Mv) (kv:Key×V)=>kv.1=Sum.inr m.1/\∃t,kv.2=.ref t/\H t=some (.tup (aE (aL (sel m))))) ms kvs
def gR.same{H H':Hp}{sel:Mv->List Str}{ms:List Mv}{kvs:List (Key×V)}(s:∀b xs,H b=some (.tup xs)->H' b=some (.tup xs))(h:gR H sel ms kvs):gR H' sel ms kvs :=
 Paired.cc h λm kv #[e,t,h1,h2]=>#[e,t,h1,s _ _ h2]
theorem gR.keys{H:Hp}{sel:Mv->List Str}:∀{ms:List Mv} {kvs:List (Key×V)},gR H sel ms kvs->kvs.map (·.1)=(names ms).map Sum.inr
 |_,_,.nil=>rfl
 |_,_,.cons h t=>by
  rw[Mh,h.1,gR.keys t]
  rfl
theorem gR.snoc{H:Hp}{sel:Mv->List Str}{ms:List Mv}{kvs:List (Key×V)}{m:Mv}{t:Addr}(h:gR H sel ms kvs)(ht:H t=some (.tup (aE (aL (sel m))))):gR H sel (ms++[m]) (kvs++[(Sum.inr m.1,.ref t)]) :=
 ML h #[rfl,t,rfl,ht]
theorem gR.none{H:Hp}{sel:Mv->List Str}{ms:List Mv}{kvs:List (Key×V)}{x:Str}(h:gR H sel ms kvs)(hx:x∉names ms):dE kvs (Sum.inr x:Key)=.none:=by
 cases e:dE kvs (Sum.inr x:Key) with
 |none=>rfl
 |some v =>
  have:=Dg e
  rw[h.keys]at this
  obtain⟨y,hy,e2⟩:=LQ.mp this
  cases e2
  exact absurd hy hx
theorem gR.get{H:Hp}{sel:Mv->List Str}{m:Mv}:∀{ms:List Mv} {kvs:List (Key×V)},gR H sel ms kvs->(names ms).Nodup->m∈ms->∃t,dE kvs (Sum.inr m.1:Key)=some (.ref t)/\H t=some (.tup (aE (aL (sel m))))
 |_,_,.nil,_,h=>by simp at h
 |m'::ms,_,.cons (b:=kv) h t,hn,hm=>by
  obtain⟨e,u,e1,e2⟩:=h
  obtain⟨n1,n2⟩:=Mo.mp (show(m'.1::names ms).Nodup from hn)
  rcases Lc.mp hm with rfl|hm
  ·exact#[u,by rw[cx e,e1],e2]
  ·have ne:¬kv.1=(Sum.inr m.1:Key):=λz=>by
    rw[e]at z
    have z2:m'.1=m.1:=by injection z
    exact n1 (by rw[z2];exact LQ.mpr #[m,hm,rfl])
   rw[bA ne]
   exact gR.get t n2 hm
structure uU(C:Addr)(H:Hp)(p:Addr)(ms:List Mv)(st:List Str):Prop where
 ob:∃dx aP aS aT aG kT kG,H p=some (.ins C dx (iD aP aS aT aG))/\H aP=some (.tup (aE (dv ms st)))/\H aS=some (.tup (aE (aL st)))/\H aT=some (.dK kT)/\H aG=some (.dK kG)/\gR H (·.2.1) ms kT/\gR H (·.2.2) ms kG
theorem uU.same{C:Addr}{H H':Hp}{p:Addr}{ms:List Mv}{st:List Str}(s:au H H')(h:uU C H p ms st):uU C H' p ms st:=by
 obtain⟨dx,aP,aS,aT,aG,kT,kG,h1,h2,h3,h4,h5,h6,h7⟩:=h
 exact#[dx,aP,aS,aT,aG,kT,kG,s _ _ h1,s _ _ h2,s _ _ h3,s _ _ h4,s _ _ h5,h6.same λb xs e=>s _ _ e,h7.same λb xs e=>s _ _ e]
def ky(p:Addr)(H H':Hp):Prop:=∀c o,H c=some o->c≠p->H' c=some o
def ky.refl(p:Addr)(H:Hp):ky p H H:=λ_ _ e _=>e
def ky.then{p:Addr}{H H1 H2:Hp}(b:ky p H H1)(s:au H1 H2):ky p H H2:=λc o e n=>s c o (b c o e n)
def ky.put{p:Addr}{H H1:Hp}{o:HO}(b:ky p H H1):ky p H (upd H1 p o):=λc u e n=>by rw[ai n];exact b c u e n
def ky.new{p a:Addr}{H H1:Hp}{o:HO}(b:ky p H H1)(n:H a=none):ky p H (upd H1 a o):=λc u e nc=>by rw[ai (aq e n)];exact b c u e nc
def ky.free{p a:Addr}{H H1:Hp}(b:ky p H H1)(n:H1 a=none)(hp:a≠p):H a=none:=by
 cases e:H a with
 |none=>rfl
 |some o=>rw[b a o e hp]at n;cases n
def ky.seq{K:PySem.W.Frag}{p C dx a:Addr}{H H1:Hp}{fs:List (Str×V)}{xs:List V}(b:ky p H H1)(hp:H p=some (.ins C dx fs))(h:aH K H a xs):aH K H1 a xs:=by
 rcases h with(h|⟨o,h⟩)|h
 ·exact .inl (.inl (b _ _ h (aX h hp (by intro z;cases z))))
 ·exact .inl (.inr #[o,b _ _ h (aX h hp (by intro z;cases z))])
 ·exact .inr h
def ky.mv{p C dx q:Addr}{H H1:Hp}{fs:List (Str×V)}{m:Mv}(b:ky p H H1)(hp:H p=some (.ins C dx fs))(h:uu H m q):uu H1 m q:=by
 obtain⟨l,g,h1,h2,h3⟩:=h
 exact#[l,g,b _ _ h1 (aX h1 hp (by intro z;cases z)),b _ _ h2 (aX h2 hp (by intro z;cases z)),b _ _ h3 (aX h3 hp (by intro z;cases z))]
structure Sound(ms:List Mv)(st:List Str):Prop where
 ml:ms.length<=12
 nn:(names ms).all isNm=true
 nd:(names ms).Nodup
 mv:∀m∈ms,ij m.2.1 m.2.2=true
 su:unlike st=true
 pl:(dv ms st).length<=12
def uq{ms:List Mv}{st:List Str}(h:gO ms st=true):Sound ms st:=by
 unfold gO at h
 obtain⟨h1,h⟩:=LU.mp h
 obtain⟨h2,h⟩:=LU.mp h
 obtain⟨h3,h⟩:=LU.mp h
 obtain⟨h4,h5⟩:=LU.mp h
 obtain⟨h6,h7⟩:=LU.mp (show((names ms).all isNm&&decide (names ms).Nodup)=true from h2)
 exact#[Ml h1,h6,Ml h7,λm hm=>Mz.mp h3 m hm,h4,Ml h5]
def jg{xs:List Str}(h:unlike xs=true):xs.Nodup:=Ml (LU.mp h).2
def Sound.Hz{ms:List Mv}{st:List Str}(h:Sound ms st):st.length<=12:=by
 apply LM (UfFin.dZ (jg h.su) λx hx=>?_) h.pl
 unfold dv
 exact cQ.mpr (UfSet.sh.mpr (Lj _ hx))
def fA{tk gv:List Str}(h:ij tk gv=true):unlike tk=true/\unlike gv=true/\1<=tk.length/\tk.length<=4/\gv.length<=4:=by
 unfold ij at h
 obtain⟨h1,h⟩:=LU.mp h
 obtain⟨h2,h⟩:=LU.mp h
 obtain⟨h3,h⟩:=LU.mp h
 obtain⟨h4,h5⟩:=LU.mp h
 exact#[h1,h2,Ml h3,Ml h4,Ml h5]
def Bz(K:PySem.W.Frag)(C:Addr):Sp:=λvs H Q _=>∃(p dx a b:Addr) (ms:List Mv) (st:List Str),vs=[.ref p,.ref a,.ref b]/\H p=some (.ins C dx [])/\qI K H a ms/\aH K H b (aE st)/\Fits ms st/\gO ms st=true /\
 ∀H',uU C H' p ms st->(∀c o,H c=some o->c≠p->H' c=some o)->Q .non H'
def qX:aF ["self","moves","start","name","taken","given"] ["self","moves","start"] (av AM):=ff
inductive Jr(C:Addr)(H:Hp)(p a b dx aP aS aT aG:Addr)(ms:List Mv)(st:List Str)(i:Nat)(σ:St)(H6:Hp):Prop
 |mk (kT kG:List (Key×V)) (v3 v4 v5:Option V) (q0:σ=[some (.ref p),some (.ref a),some (.ref b),v3,v4,v5]) (q1:H6 p=some (.ins C dx (iD aP aS aT aG))) (q2:H6 aP=some (.tup (aE (dv ms st)))) (q3:H6 aS=some (.tup (aE (aL st)))) (q4:H6 aT=some (.dK kT)) (q5:H6 aG=some (.dK kG)) (q6:gR H6 (·.2.1) (ms.take i) kT) (q7:gR H6 (·.2.2) (ms.take i) kG) (q8:ky p H H6)
def Jr.but{C:Addr}{H:Hp}{p a b dx aP aS aT aG:Addr}{ms:List Mv}{st:List Str}{i:Nat}{σ:St}{H6:Hp}(h:Jr C H p a b dx aP aS aT aG ms st i σ H6):ky p H H6:=by
 cases h
 assumption
def C9{f C fN fU fM fP fK:Addr}{fd fdN fdU fdM fdP fdK:FuncData}(F:dN K "__init__" "Net.__init__" AM f fd)(T:Txt K mg)(CT:iA K C)(DN:Def K mg "is_name" fC ["thing"] fN fdN)(DU:Def K mg "are_unlike_names" jd ["things"] fU fdU)
  (DM:Def K mg "is_move" j5 ["taken","given"] fM fdM) (DP:Def K mg "places_of" ka ["moves","start"] fP fdP) (DK:Def K mg "makes_net" rE ["moves","start"] fK fdK):bf P w K mg base cZ 5 f fd ["self","moves","start"] (Bz K C):=by
 have GP:bf P w K mg base cZ 1 fP fdP ["moves","start"] (oY K):=qw DP.fn T
 have GK:bf P w K mg base cZ 4 fK fdK ["moves","start"] (yj K):=AI DK.fn T DN DU DM DP
 apply F.oK qX λcdv A outer s H vs Q E hr h=>?_
 ·obtain⟨p,dx,a,b,ms,st,rfl,hp,ha,hb,hf,hmk,k⟩:=h
  have hu:=c7 hr
  apply#[_,ag (bK (cF (ck (eu GK hr rfl DK.mg DK.fn.kp DK.bd .nil bR (aa (pv 1) (aa (pv 2) af))))) qD aM)
   (ag (fv (pv 0) (a8 cj rfl T.tup eA (aa (eu GP (hr.mono (by decide)) rfl DP.mg DP.fn.kp DP.bd .nil bR (aa (pv 1) (aa (pv 2) af))) af)) rfl)
   (ag (fv (pv 0) (a8 cj rfl T.tup eA (aa (aA cu rfl T.aL cf (aa (pv 2) af)) af)) rfl)
   (ag (fv (pv 0) kb rfl)
   (ag (fv (pv 0) kb rfl)
   (ak (bO LC rfl (aZ (pv 1)) (eD rfl (aU (fE 3 qX) (aU (fE 4 qX) (aU (fE 5 qX) di))))
    (ag (kE hu (bM (pv 0) rfl) (pv 3) (a8 cj rfl T.tup eA (aa (aA cu rfl T.aL cf (aa (pv 4) af)) af)) rfl)
    (ak (kE hu (bM (pv 0) rfl) (pv 3) (a8 cj rfl T.tup eA (aa (aA cu rfl T.aL cf (aa (pv 5) af)) af)) rfl))))))))),?_]
  clear hu
  dsimp only[bZ,Cx.dY]
  have so:=uq hmk
  obtain⟨qs,hq,hqp⟩:=id ha
  apply#[Z,Z,a,b,ms,st,rfl,ha,hb,hf,λH1 s1=>#[Z,?_]]
  rw[hmk]
  apply bz ?_
  apply#[Z,Z,a,b,ms,st,rfl,ha.same s1,s1.seq hb,hf.sum,hf.gX,λH2 q1 s2 nq1 hq1=>#[q1,Z,.inl #[aH.of hq1,λaP nP=>?_]]]
  have sm2:au H H2:=s1.trans s2
  have hp2:=sm2 _ _ hp
  have pP:p≠aP:=aq hp2 nP
  apply#[Z,p,C,dx,Z,(by rw[ai pP];exact hp2),CT.cl,CT.nP,(by show 0<1000;decide),?_]
  have b3:ky p H (upd (upd H2 aP (.tup (aE (dv ms st)))) p (.ins C dx (bE "place_names" (V.ref aP) []))):=(((ky.refl p H).then sm2).new (sm2.free nP)).put
  have e3P:(upd (upd H2 aP (.tup (aE (dv ms st)))) p (.ins C dx (bE "place_names" (V.ref aP) []))) aP=some (.tup (aE (dv ms st))):=by rw[ai pP.symm,ae]
  have e3p:(upd (upd H2 aP (.tup (aE (dv ms st)))) p (.ins C dx (bE "place_names" (V.ref aP) []))) p=some (.ins C dx (bE "place_names" (V.ref aP) [])):=ae
  generalize upd (upd H2 aP (.tup (aE (dv ms st)))) p (.ins C dx (bE "place_names" (V.ref aP) []))=H3 at b3 e3P e3p ⊢
  apply#[Z,b,st,rfl,b3.seq hp hb,by have:=so.Hz;lia,λq2 nq2=>#[q2,Z,.inl #[aH.of ae,λaS nS=>?_]]]
  have p2:p≠q2:=aq e3p nq2
  have pS:p≠aS:=aq (by rw[ai p2];exact e3p) nS
  have n2S:aS≠q2:=λz=>by rw[z,ae]at nS;cases nS
  have nS3:H3 aS=none:=by rw[ai n2S]at nS;exact nS
  apply#[Z,p,C,dx,Z,(by rw[ai pS,ai p2];exact e3p),CT.cl,CT.nS,(by show 1<1000;decide),?_]
  have b4:=(((b3.new (o:=.lst (aE (aL st))) (b3.free nq2 p2.symm)).new (o:=.tup (aE (aL st))) (b3.free nS3 pS.symm)).put (o:=.ins C dx (bE "start_state" (V.ref aS) (bE "place_names" (V.ref aP) []))))
  have PS:aP≠aS:=aq e3P nS3
  have P2:aP≠q2:=aq e3P nq2
  have e4P:(upd (upd (upd H3 q2 (.lst (aE (aL st)))) aS (.tup (aE (aL st)))) p (.ins C dx (bE "start_state" (V.ref aS) (bE "place_names" (V.ref aP) [])))) aP=some (.tup (aE (dv ms st))):=by rw[ai pP.symm,ai PS,ai P2];exact e3P
  have e4S:(upd (upd (upd H3 q2 (.lst (aE (aL st)))) aS (.tup (aE (aL st)))) p (.ins C dx (bE "start_state" (V.ref aS) (bE "place_names" (V.ref aP) [])))) aS=some (.tup (aE (aL st))):=by rw[ai pS.symm,ae]
  have e4p:(upd (upd (upd H3 q2 (.lst (aE (aL st)))) aS (.tup (aE (aL st)))) p (.ins C dx (bE "start_state" (V.ref aS) (bE "place_names" (V.ref aP) [])))) p=some (.ins C dx (bE "start_state" (V.ref aS) (bE "place_names" (V.ref aP) []))):=ae
  generalize upd (upd (upd H3 q2 (.lst (aE (aL st)))) aS (.tup (aE (aL st)))) p (.ins C dx (bE "start_state" (V.ref aS) (bE "place_names" (V.ref aP) [])))=H4 at b4 e4P e4S e4p ⊢
  intro aT nT
  have pT:p≠aT:=aq e4p nT
  apply#[Z,p,C,dx,Z,(by rw[ai pT];exact e4p),CT.cl,CT.nT,(by simp[bE,GO]),?_]
  intro aG nG
  have pG:p≠aG:=λz=>by rw[<-z,ae]at nG;cases nG
  have GT:aG≠aT:=λz=>by rw[z,ai pT.symm,ae]at nG;cases nG
  have nG4:H4 aG=none:=by rw[ai pG.symm,ai GT]at nG;exact nG
  apply#[Z,p,C,dx,Z,(by rw[ai pG];exact ae),CT.cl,CT.nG,(by simp[bE,GO,Ie,Jc]),?_]
  rw[ze]
  have nT0:H aT=none:=b4.free nT pT.symm
  have nG0:H aG=none:=b4.free nG4 pG.symm
  have b5:=(((b4.new (o:=.dK []) nT0).put (o:=.ins C dx (bE "taken_by" (V.ref aT) (bE "start_state" (V.ref aS) (bE "place_names" (V.ref aP) []))))).new (o:=.dK []) nG0).put (o:=.ins C dx (iD aP aS aT aG))
  have PT:aP≠aT:=aq e4P nT
  have PG:aP≠aG:=aq e4P nG4
  have ST:aS≠aT:=aq e4S nT
  have SG:aS≠aG:=aq e4S nG4
  generalize hH5:upd (upd (upd (upd H4 aT (.dK [])) p (.ins C dx (bE "taken_by" (V.ref aT) (bE "start_state" (V.ref aS) (bE "place_names" (V.ref aP) []))))) aG (.dK [])) p (.ins C dx (iD aP aS aT aG))=H5 at b5 ⊢
  have e5p:H5 p=some (.ins C dx (iD aP aS aT aG)):=by rw[<-hH5,ae]
  have e5P:H5 aP=some (.tup (aE (dv ms st))):=by rw[<-hH5,ai pP.symm,ai PG,ai pP.symm,ai PT];exact e4P
  have e5S:H5 aS=some (.tup (aE (aL st))):=by rw[<-hH5,ai pS.symm,ai SG,ai pS.symm,ai ST];exact e4S
  have e5T:H5 aT=some (.dK []):=by rw[<-hH5,ai pT.symm,ai GT.symm,ai pT.symm,ae]
  have e5G:H5 aG=some (.dK []):=by rw[<-hH5,ai pG.symm,ae]
  clear hH5
  have lq:qs.length=ms.length:=(Lz hqp).symm
  apply#[Z,a,rfl,#[_,b5.seq hp hq],bJ (K:=K) (a:=a) (xs:=qs.map V.ref) (Jr C H p a b dx aP aS aT aG ms st)
   #[[],[],none,none,none,rfl,e5p,e5P,e5S,e5T,e5G,.nil,.nil,b5] (λi σ H6 _ h=>h.but.seq hp hq) ?_ ?_]
  ·rintro i v σ H6 hi ⟨kT,kG,v3,v4,v5,rfl,e6p,e6P,e6S,e6T,e6G,dT,dG,b6⟩
   obtain⟨q,hqi,rfl⟩:=cO hi
   obtain⟨m,hm,hmv⟩:=br hqp hqi
   obtain⟨l,g,h1,h2,h3⟩:=b6.mv hp hmv
   have hmem:m∈ms:=Lg hm
   obtain⟨_,_,_,tk4,gv4⟩:=fA (so.mv m hmem)
   have hnew:m.1∉names (ms.take i):=λz=>by
    have nd:=so.nd
    have e:names ms=names (ms.take i)++names (ms.drop i):=by
     unfold names
     rw[<-Ll,Nr]
    rw[e]at nd
    have hlt:i<ms.length:=(Lh.mp hm).1
    have hin:m.1∈names (ms.drop i):=by
     apply LQ.mpr #[m,?_,rfl]
     apply Lg (i:=0) ?_
     rw[Pf]
     exact hm
    exact(L1.mp nd).2.2 _ z _ hin rfl
   have lT:kT.length=(ms.take i).length:=(Lz dT).symm
   have lG:kG.length=(ms.take i).length:=(Lz dG).symm
   have l12:(ms.take i).length<=12:=by rw[Lf];have:=so.ml;lia
   apply#[q,Z,cz.of h1,rfl,_,Z,_,Z,_,Z,rfl,?_]
   apply#[Z,l,m.2.1,rfl,aH.of h2,by lia,λq3 n3=>#[q3,Z,.inl #[aH.of ae,λt3 m3=>?_]]]
   have s7:au H6 (upd (upd H6 q3 (.lst (aE (aL m.2.1)))) t3 (.tup (aE (aL m.2.1)))):=(ao n3).trans (ao m3)
   have e7t:(upd (upd H6 q3 (.lst (aE (aL m.2.1)))) t3 (.tup (aE (aL m.2.1)))) t3=some (.tup (aE (aL m.2.1))):=ae
   have nt6:H6 t3=none:=(ao (o:=.lst (aE (aL m.2.1))) n3).free m3
   have b7:ky p H (upd (upd H6 q3 (.lst (aE (aL m.2.1)))) t3 (.tup (aE (aL m.2.1)))):=b6.then s7
   generalize upd (upd H6 q3 (.lst (aE (aL m.2.1)))) t3 (.tup (aE (aL m.2.1)))=H7 at s7 e7t b7 ⊢
   apply#[Z,p,C,dx,_,Z,s7 _ _ e6p,CT.cl,CT.nT,yf _ _ _ _,Z,aT,Z,nV.k (k:=Sum.inr m.1) (s7 _ _ e6T) (qG (by lia)),?_]
   have pk:putK kT (Sum.inr m.1:Key) (V.ref t3)=kT++[(Sum.inr m.1,V.ref t3)]:=gj _ (dT.none hnew)
   rw[pk]
   have tT:∀{b:Addr} {xs:List V},H7 b=some (.tup xs)->b≠aT:=λe=>aX e (s7 _ _ e6T) (by intro z;cases z)
   have e8T:(upd H7 aT (.dK (kT++[(Sum.inr m.1,V.ref t3)]))) aT=some (.dK (kT++[(Sum.inr m.1,V.ref t3)])):=ae
   have up8:∀{b:Addr} {o:HO},b≠aT->H7 b=some o->(upd H7 aT (.dK (kT++[(Sum.inr m.1,V.ref t3)]))) b=some o:=λn e=>by rw[ai n];exact e
   have e8p:=up8 pT (s7 _ _ e6p)
   have e8P:=up8 PT (s7 _ _ e6P)
   have e8S:=up8 ST (s7 _ _ e6S)
   have e8G:=up8 GT (s7 _ _ e6G)
   have e8t:=up8 (tT e7t) e7t
   have dT8:gR (upd H7 aT (.dK (kT++[(Sum.inr m.1,V.ref t3)]))) (·.2.1) (ms.take i++[m]) (kT++[(Sum.inr m.1,V.ref t3)]):=(dT.same λb xs e=>up8 (tT (s7 _ _ e)) (s7 _ _ e)).snoc e8t
   have dG8:gR (upd H7 aT (.dK (kT++[(Sum.inr m.1,V.ref t3)]))) (·.2.2) (ms.take i) kG:=dG.same λb xs e=>up8 (tT (s7 _ _ e)) (s7 _ _ e)
   have e8g:=up8 (aX (s7 _ _ h3) (s7 _ _ e6T) (by intro z;cases z)) (s7 _ _ h3)
   have b8:ky p H (upd H7 aT (.dK (kT++[(Sum.inr m.1,V.ref t3)]))):=b7.new nT0
   generalize upd H7 aT (.dK (kT++[(Sum.inr m.1,V.ref t3)]))=H8 at e8T e8p e8P e8S e8G dT8 dG8 e8g b8 ⊢
   apply#[Z,g,m.2.2,rfl,aH.of e8g,by lia,λq4 n4=>#[q4,Z,.inl #[aH.of ae,λt4 m4=>?_]]]
   have s9:au H8 (upd (upd H8 q4 (.lst (aE (aL m.2.2)))) t4 (.tup (aE (aL m.2.2)))):=(ao n4).trans (ao m4)
   have e9t:(upd (upd H8 q4 (.lst (aE (aL m.2.2)))) t4 (.tup (aE (aL m.2.2)))) t4=some (.tup (aE (aL m.2.2))):=ae
   have b9:ky p H (upd (upd H8 q4 (.lst (aE (aL m.2.2)))) t4 (.tup (aE (aL m.2.2)))):=b8.then s9
   generalize upd (upd H8 q4 (.lst (aE (aL m.2.2)))) t4 (.tup (aE (aL m.2.2)))=H9 at s9 e9t b9 ⊢
   apply#[Z,p,C,dx,_,Z,s9 _ _ e8p,CT.cl,CT.nG,FJ _ _ _ _,Z,aG,Z,nV.k (k:=Sum.inr m.1) (s9 _ _ e8G) (qG (by lia)),?_]
   have pk2:putK kG (Sum.inr m.1:Key) (V.ref t4)=kG++[(Sum.inr m.1,V.ref t4)]:=gj _ (dG.none hnew)
   rw[pk2]
   have tG:∀{b:Addr} {xs:List V},H9 b=some (.tup xs)->b≠aG:=λe=>aX e (s9 _ _ e8G) (by intro z;cases z)
   have up9:∀{b:Addr} {o:HO},b≠aG->H9 b=some o->(upd H9 aG (.dK (kG++[(Sum.inr m.1,V.ref t4)]))) b=some o:=λn e=>by rw[ai n];exact e
   have tki:ms.take (i+1)=ms.take i++[m]:=ay hm
   apply#[kT++[(Sum.inr m.1,V.ref t3)],kG++[(Sum.inr m.1,V.ref t4)],_,_,Z,up9 pG (s9 _ _ e8p),up9 PG (s9 _ _ e8P),up9 SG (s9 _ _ e8S),up9 GT.symm (s9 _ _ e8T),ae,?_,?_,b9.new nG0]
   ·rw[tki]
    exact dT8.same λb xs e=>up9 (tG (s9 _ _ e)) (s9 _ _ e)
   ·rw[tki]
    exact(dG8.same λb xs e=>up9 (tG (s9 _ _ e)) (s9 _ _ e)).snoc (up9 (tG e9t) e9t)
  ·rintro σ H6 ⟨kT,kG,v3,v4,v5,rfl,e6p,e6P,e6S,e6T,e6G,dT,dG,b6⟩
   rw[K4,lq,LH]at dT dG
   exact k H6 #[dx,aP,aS,aT,aG,kT,kG,e6p,e6P,e6S,e6T,e6G,dT,dG] b6
end Uf
namespace L2
open PySem PySem.Spec PyProof.Rows UfSrt
section
variable {X:Cx}{pins:List (Addr×Obj)}{σ:St}{H:Hp}{s:Shared}
def Inv.qA{h':Heap}{t':Nat}{ch:List Addr}{T:Addr}{u:HO}(I:Inv X pins σ H s)(hch:∀b∈ch,iE X pins H b)(k:∀b o,b∉ch->s.heap.get? b=some o->h'.get? b=some o)(hT:s.heap.objs.size<=T)
  (new:cw X.prog X.w (upd H T u) h' T u):Inv X pins σ (upd H T u) { s with heap:=h',toks:=t' }:=by
 have hn:H T=none:=I.hok.fresh hT
 have nch:∀b v,H b=some v->b∉ch:=λb v e z=>by rw[(hch b z).1]at e;cases e
 have nT:∀b o,s.heap.get? b=some o->b≠T:=λb o e=>LB (LF (Li e) hT)
 apply I.step (g':=s.gens) (d':=s.drawn) (ch:=ch) (λb hb=>#[(hch b hb).2.2.2.1,(hch b hb).2.1,(hch b hb).2.2.2.2.1,(hch b hb).2.2.2.2.2]) (λb o _ _ hc e _=>k b o hc e) (λb o _ _ hc e _=>#[o.slots,k b o hc e]) (λb o _ e n=>by rw[ai (nT b o e)];exact n)
  (λb o hc e=>#[o,k b o hc e]) (λb xs e=>by rw[ai (aq e hn)];exact e) (λb o v e=>by rw[ai (aq e hn)];exact e) (λb ps e=>#[#[],by rw[ai (aq e hn),e];simp]) (λm hm=>?_) (λb v e=>?_) I.bare
 ·obtain⟨o,es,ep,ho,r⟩:=hm
  exact#[o,es,ep,k _ o (λz=>(hch _ z).2.1 rfl) ho,r]
 ·by_cases hb:b=T
  ·subst hb
   rw[ae]at e
   cases e
   exact new
  ·rw[ai hb]at e
   apply(I.hok b v e).pz (λc w hc q=>k c w ?_ q) (λc q=>by rw[ai (aq q hn)];exact q) λc xs q=>by rw[ai (aq q hn)];exact q
   rcases hc with z|z
   ·rw[z];exact nch b v e
   ·exact nch c _ z
end
def HB(K:PySem.W.Frag)(l:Addr):It :=
 #[λi H=>∃xs x,aH K H l xs/\xs[i]?=some x,λi H x H'=>∃p v,x=.ref p/\H p=none/\H'=upd H p (.tup [.int (i:Int),v])/\∀xs,aH K H l xs->xs[i]?=some v,λi H=>∃xs,aH K H l xs/\xs.length<=i]
def zR{P:Program}{w:World}{K:PySem.W.Frag}{elts:List Expr}{x1}{pos:Pos}{l e it:Addr}(hne:e≠it) :
  Turn P w K (.Tuple elts x1 pos) (HB K l) [e,it] e (λi h=>(∃old,IsEnum h e it i old)/\h.IsListIter it l i) where
 mem:=by simp
 obj:=λi h st b hb=>by
  obtain⟨⟨old,he⟩,o,e2,c,d⟩:=st
  rcases Lc.mp hb with z|hb
  ·subst z
   exact#[_,he,λv z=>by
    have z':Data.fields _=Data.cell v:=z
    cases z']
  ·have z:b=it:=by simpa using hb
   subst z
   exact#[o,e2,λv z=>by rw[d]at z;cases z]
 keep:=λi h h' st k=>#[let #[old,he]:=st.1;#[old,k e (by simp) _ he],st.2.at λo q=>k it (by simp) o q]
 item:=by
  intro X hP hw hK hc i pins s σ H E I hf st hg
  subst hP hw hK
  obtain⟨xs,x,hq,hx⟩:=hg
  obtain⟨its,rv,p,hz⟩:=I.list hq
  obtain⟨u,hu,ru⟩:=rv.get hx
  obtain⟨⟨old,he⟩,hit⟩:=st
  apply wpAny_pyNext_enum_item he hit p.isList (x:=u) (by simpa using hu) hne λh1 ho hit1 hT hsz hk=>?_
  apply#[.ref s.heap.objs.size,rfl,wpAny_letOwnedTupleGo_enum ho λh2 he2 hs2=>?_]
  have elt:e<s.heap.objs.size:=Li he
  have ilt:it<s.heap.objs.size:=by obtain⟨_,y,_⟩:=hit;exact Li y
  have kk:∀b o,b∉[e,it]->s.heap.get? b=some o->h2.get? b=some o:=λb o hb q=>by
   have n1:b≠e:=λz=>hb (by simp[z])
   have n2:b≠it:=λz=>hb (by simp[z])
   exact(hs2.2 b n1).trans (hk b o n1 n2 q)
  have hT2:h2.get? s.heap.objs.size=some { cls:=.type "tuple",data:=.seq (List.toArray [.int i s.toks,u]) }:=(hs2.2 _ (M4 elt)).trans hT
  have hn:=I.hok.fresh (La s.heap.objs.size)
  apply#[.ref s.heap.objs.size,upd H s.heap.objs.size (.tup [.int (i:Int),x]),I.qA (t':=s.toks+1) hf kk (La _) #[by show 2<=sizeLine;rw[L7];decide,[.int i s.toks,u],.cons #[_,rfl] (.cons ru .nil),_,hT2,rfl,_,rfl],rfl,#[_,x,rfl,hn,rfl,λys hy=>by rw[I.tf hy hq];exact hx],#[#[_,by simpa using he2],hit1.at λo q=>(hs2.2 it (LO hne)).trans q],λb hb=>?_]
  have nb:b≠s.heap.objs.size:=by
   rcases Lc.mp hb with z|hb
   ·rw[z];exact LB elt
   ·have z:b=it:=by simpa using hb
    rw[z];exact LB ilt
  rw[ai nb]
  exact(hf b hb).1
 done:=by
  intro X hP hw hK hc i pins s σ H E I hf st hg
  subst hP hw hK
  obtain⟨xs,hq,hx⟩:=hg
  obtain⟨its,rv,p,hz⟩:=I.list hq
  obtain⟨⟨old,he⟩,hit⟩:=st
  obtain⟨f0,f1,f2,f3,f4,f5⟩:=hf it (by simp)
  have hl:=rv.length
  exact wpAny_pyNext_enum_end (I.ok.hd hc) he hit p.isList (by simp;lia) λh' eb=>#[rfl,I.turned (t':=s.toks) (λb o hb e=>eb b o hb e) f0 f1 f3 f4 f5]
 self:=λ_ _ _ _ _ st h=>let #[#[_,he],_]:=st;wpAny_pyIter_enum he h
section
variable {X:Cx}{elts:List Expr}{x1:Nat}{tpos:Pos}
def boot_enumerate:bootBuiltins "enumerate"=some (.type "enumerate"):=by decide +kernel
def Ig(K:PySem.W.Frag)(ta:TA):TI:=λσ H R=>ta σ H λvs H1=>∃l,vs=[.ref l]/\(∃xs,aH K H1 l xs)/\R (HB K l) H1
def r9{a:Expr}{ta:TA}{p pos:Pos}(hg:Gl X "enumerate")(hm:X.mg "enumerate"=none)(ha:PA X [a] ta)(hs:starEach [a] X.env=[(false,eval a X.env)]:=by rfl):PI X (.Tuple elts x1 tpos) (.Call (.Name "enumerate" p) [a] [] pos) (Ig X.K ta):=by
 intro pins s σ H R I h
 apply Call_ (nM I hg hm boot_enumerate (N4 (cD (ha pos pins s σ H _ I h) λus s1 #[vs,H1,I1,r1,q1]=>?_) hs rfl))
 obtain⟨l,e,⟨xs,hq⟩,q⟩:=q1
 subst e
 cases r1 with
 |cons r rr =>
  cases rr
  cases r
  obtain⟨its,rv,pl,hz⟩:=I1.list hq
  apply call_enumerate_list pl.isList λh' he hit hsz hk=>?_
  apply wpAny_pyIter_enum he ?_
  have hne:s1.heap.objs.size+1≠s1.heap.objs.size:=Nat.succ_ne_self _
  have I2:Inv X pins σ H1 { s1 with heap:=h' }:=I1.kept (t':=s1.toks) hk
  apply#[s1.heap.objs.size+1,[s1.heap.objs.size+1,s1.heap.objs.size],_,_,H1,rfl,I2,zR hne,#[#[_,he],hit],λb hb=>?_,q]
  have hb2:s1.heap.objs.size<=b:=by
   rcases Lc.mp hb with z|hb
   ·rw[z];exact Mq _
   ·have z:b=s1.heap.objs.size:=by simpa using hb
    rw[z];exact La _
  exact I1.zd hb2 (I1.hok.fresh hb2)
end
def sH{K:PySem.W.Frag}{a:Addr}{xs:List V}{g:TG}{tb:TS}{D:Ends}{σ:St}{H:Hp}(Pv:Nat->St->Hp->Prop)(h0:Pv 0 σ H)(hl:∀i σ H,i<=xs.length->Pv i σ H->aH K H a xs)
  (hs:∀i x p σ H,xs[i]?=some x->Pv i σ H->H p=none->g (.ref p) σ (upd H p (.tup [.int (i:Int),x])) λσ2 H2=>tb { D with nx:=Pv (i+1),ct:=Pv (i+1),bk:=D.nx } σ2 H2) (hd:∀σ H,Pv xs.length σ H->D.nx σ H) :
  ∃W:Nat->Nat->St->Hp->Prop,(∃m,W 0 m σ H)/\∀i m σ H,W i m σ H ->
   ((HB K a).stop i H/\D.nx σ H)\/((HB K a).go i H/\∃N:St->Hp->Prop,(∀σ' H',N σ' H'->∃m',m'<m/\W (i+1) m' σ' H')/\∀x H',(HB K a).yld i H x H'->g x σ H' λσ2 H2=>tb { D with nx:=N,ct:=N,bk:=D.nx } σ2 H2):=by
 apply#[λi m σ H=>m=xs.length-i/\i<=xs.length/\Pv i σ H,#[xs.length,by simp,LA _,h0],?_]
 rintro i m σ H ⟨rfl,hi,p⟩
 have q:=hl i σ H hi p
 by_cases hlt:i<xs.length
 ·apply .inr ⟨⟨xs,xs[i],q,by simp[hlt]⟩,Pv (i+1),λσ' H' p'=>⟨xs.length-(i+1),by lia,rfl,hlt,p'⟩,λx H' y=>?_⟩
  obtain⟨pp,v,rfl,hn,rfl,hv⟩:=y
  exact hs i v pp σ _ (hv xs q) p hn
 ·have e:i=xs.length:=by lia
  subst e
  exact .inl #[#[xs,q,La _],hd σ H p]
end L2
namespace Uf
open PySem L2 UfB
abbrev oG:Stmt:=top 24
abbrev vO:Stmt:=inClass oG 0
abbrev BR:Stmt:=inClass oG 11
def Ew{H:Hp}{a:Addr}{o:HO}(h:H a=some o):upd H a o=H:=by
 funext b
 by_cases e:b=a
 ·rw[e,ae,h]
 ·rw[ai e]
structure jD(K:PySem.W.Frag)(C:Addr):Prop where
 cl:zY K C
 nN:dt K C "base_net"
 nS:dt K C "spot_tuples"
 nO:dt K C "occurrence_tuples"
 nH:dt K C "numbers_there"
 nW:dt K C "own_bits"
 nG:dt K C "given_bits"
 nB:dt K C "beside_bits"
 nT:dt K C "taker_bits"
 nP:dt K C "place_bits"
structure AdF(fs:List (Str×V))(aS aT aB aP:Addr):Prop where
 s:fs.lookup ("spot_tuples":Str)=some (.ref aS)
 t:fs.lookup ("taker_bits":Str)=some (.ref aT)
 b:fs.lookup ("beside_bits":Str)=some (.ref aB)
 p:fs.lookup ("place_bits":Str)=some (.ref aP)
def lB(pl:List (Str×Nat)):List (Key×V):=pl.map λp=>(Sum.inr p.1,nat p.2)
abbrev fh(H:Hp):List (Str×Option Nat)->List Addr->Prop:=Paired λp q=>H q=some (.tup [.str p.1,gv p.2])
structure EL(C:Addr)(H:Hp)(x dx:Addr)(fs:List (Str×V))(aS aT aB aP:Addr)(W:qB):Prop where
 ins:H x=some (.ins C dx fs)
 sp:∃qs,H aS=some (.lst (qs.map V.ref))/\fh H W.sp qs
 tk:H aT=some (.lst (nats W.tk))
 be:H aB=some (.lst (nats W.be))
 pl:H aP=some (.dK (lB W.pl))
def cG(as:List Addr)(H H':Hp):Prop:=∀c o,H c=some o->c∉as->H' c=some o
def EC{pl:List (Str×Nat)}{x:Str}(h:x∈pl.map (·.1)):∃m,dE (lB pl) (Sum.inr x:Key)=some (nat m):=by
 induction pl with
 |nil=>simp at h
 |cons p pl ih =>
  by_cases e:p.1=x
  ·apply⟨p.2,?_⟩
   show dE ((Sum.inr p.1,nat p.2)::lB pl) _=_
   exact cx (by rw[e])
  ·have h2:x∈pl.map (·.1):=by
    rcases Lc.mp h with z|z
    ·exact absurd z.symm e
    ·exact z
   obtain⟨m,hm⟩:=ih h2
   apply#[m,?_]
   show dE ((Sum.inr p.1,nat p.2)::lB pl) _=_
   rw[bA (λz=>e (NR z))]
   exact hm
def EF{pl:List (Str×Nat)}{x:Str}{m n:Nat}(hn:(pl.map (·.1)).Nodup)(h:dE (lB pl) (Sum.inr x:Key)=some (nat m)):putK (lB pl) (Sum.inr x:Key) (nat (m ||| 2 ^ n))=lB (kA pl x n):=by
 have e1:((lB pl).any λkv=>decide (kv.1=(Sum.inr x:Key)))=true:=by rw[iY,h];rfl
 unfold putK
 rw[Ls e1]
 clear e1
 induction pl with
 |nil=>rfl
 |cons p pl ih =>
  obtain⟨n1,n2⟩:=Mo.mp (show(p.1::pl.map (·.1)).Nodup from hn)
  have h':dE ((Sum.inr p.1,nat p.2)::lB pl) (Sum.inr x:Key)=some (nat m):=h
  by_cases e:p.1=x
  ·rw[cx (show((Sum.inr p.1,nat p.2):Key×V).1=Sum.inr x by rw[e])]at h'
   have em:p.2=m:=by
    have:=LS h'
    unfold nat at this
    have:=V.int.inj this
    lia
   have rest:(lB pl).map (λkv=>if kv.1=(Sum.inr x:Key) then(kv.1,nat (m ||| 2 ^ n)) else kv)=lB (kA pl x n):=by
    have e2:kA pl x n=pl:=by
     unfold kA
     conv=>rhs;rw[<-Qc pl]
     apply OZ λq hq=>?_
     rw[Le (λz=>n1 (by rw[e,<-z];exact LQ.mpr #[q,hq,rfl]))]
     rfl
    rw[e2]
    unfold lB
    rw[LY]
    apply OZ λq hq=>?_
    show(if (Sum.inr q.1:Key)=Sum.inr x then _ else _)=_
    rw[Le (λz=>n1 (by rw[e,<-NR z];exact LQ.mpr #[q,hq,rfl]))]
   show(if (Sum.inr p.1:Key)=Sum.inr x then((Sum.inr p.1:Key),nat (m ||| 2 ^ n)) else(Sum.inr p.1,nat p.2))::(lB pl).map (λkv=>if kv.1=(Sum.inr x:Key) then(kv.1,nat (m ||| 2 ^ n)) else kv)=lB ((if p.1=x then(p.1,p.2 ||| 2 ^ n) else p)::kA pl x n)
   rw[Ls (by rw[e]),Ls e,rest,em]
   rfl
  ·rw[bA (λz=>e (NR z))]at h'
   have:=ih n2 h'
   show(if (Sum.inr p.1:Key)=Sum.inr x then((Sum.inr p.1:Key),nat (m ||| 2 ^ n)) else(Sum.inr p.1,nat p.2))::(lB pl).map (λkv=>if kv.1=(Sum.inr x:Key) then(kv.1,nat (m ||| 2 ^ n)) else kv)=lB ((if p.1=x then(p.1,p.2 ||| 2 ^ n) else p)::kA pl x n)
   rw[Le (λz=>e (NR z)),Le e,this]
   rfl
def cV{ks:List Nat}{j:Nat}(h:j<ks.length):(nats ks)[j]?=some (nat (ks.getD j 0)):=by
 unfold nats
 rw[LD,K7 h,Lb,K7 h]
 rfl
def bD(ks:List Nat):(nats ks).length=ks.length:=by unfold nats;rw[List.length_map]
def eI(ks:List Nat)(k:Nat):nats ks++[nat k]=nats (ks++[k]):=by unfold nats;rw[List.map_append];rfl
def jY(ks:List Nat)(j k:Nat):(nats ks).set j (nat k)=nats (ks.set j k):=by unfold nats;rw[List.map_set]
def jX{n j:Nat}(h:j<n):zZ n (j:Int)=some j:=by
 unfold zZ
 rw[Ls (by lia),Ls (by lia),LW]
def jH(bs js:List Nat)(j n:Nat):bL bs (js++[j]) n=fY (bL bs js n) j n:=by
 unfold bL
 rw[MZ]
 rfl
theorem cG.upd{as:List Addr}{H H':Hp}{a:Addr}{o:HO}(h:cG as H H')(ha:a∈as):cG as H (upd H' a o):=λc o' e n=>by
 rw[ai (λz=>n (by rw[z];exact ha))]
 exact h c o' e n
def cG.same{as:List Addr}{H H' H'':Hp}(h:cG as H H')(s:au H' H''):cG as H H'':=λc o e n=>s _ _ (h c o e n)
def fh.put{H:Hp}{a:Addr}{o:List V}{o':HO}{l:List (Str×Option Nat)}{qs:List Addr}(h:fh H l qs)(ha:H a=some (.lst o)):fh (upd H a o') l qs :=
 Paired.cc h λp q e=>by rw[ai (aX e ha (λz=>nomatch z))];exact e
def fh.putD{H:Hp}{a:Addr}{o:List (Key×V)}{o':HO}{l:List (Str×Option Nat)}{qs:List Addr}(h:fh H l qs)(ha:H a=some (.dK o)):fh (upd H a o') l qs :=
 Paired.cc h λp q e=>by rw[ai (aX e ha (λz=>nomatch z))];exact e
def Bl(C:Addr)(kind:List V->HO):Sp:=λvs H Q _=>∃(x dx pa aS aT aB aP:Addr) (fs:List (Str×V)) (W:qB) (g:Option Nat) (b:Nat) (xs:List Str),vs=[.ref x,.ref pa,gv g,nat b]/\AdF fs aS aT aB aP/\aS≠aT/\aS≠aB/\aT≠aB/\EL C H x dx fs aS aT aB aP W /\
 H pa=some (kind (aE xs))/\pa∉[aS,aT,aB,aP]/\mh (W,b) xs/\∀H',EL C H' x dx fs aS aT aB aP (bx g (W,b) xs).1->cG [aS,aT,aB,aP] H H'->Q .non H'
def tS:aF ["self","places","giver","beside","place","number","other"] ["self","places","giver","beside"] (av BR):=ff
inductive Jj(C:Addr)(H:Hp)(x dx pa aS aT aB aP:Addr)(fs:List (Str×V))(W:qB)(g:Option Nat)(b:Nat)(xs:List Str)(i:Nat)(σ:St)(H2:Hp):Prop
 |mk (v4 v5 v6:Option V) (q0:σ=[some (.ref x),some (.ref pa),some (gv g),some (nat (bx g (W,b) (xs.take i)).2),v4,v5,v6]) (q1:EL C H2 x dx fs aS aT aB aP (bx g (W,b) (xs.take i)).1) (q2:cG [aS,aT,aB,aP] H H2)
def Jj.but{C:Addr}{H:Hp}{x dx pa aS aT aB aP:Addr}{fs:List (Str×V)}{W:qB}{g:Option Nat}{b:Nat}{xs:List Str}{i:Nat}{σ:St}{H2:Hp}(h:Jj C H x dx pa aS aT aB aP fs W g b xs i σ H2):cG [aS,aT,aB,aP] H H2:=by
 cases h
 assumption
inductive AdJ(H5:Hp)(x pa aB ml:Addr)(g:Option Nat)(b n:Nat)(z:Str)(bs:List Nat)(i:Nat)(σ:St)(H6:Hp):Prop
 |mk (v6:Option V) (q0:σ=[some (.ref x),some (.ref pa),some (gv g),some (nat b),some (.str z),some (nat n),v6]) (q1:H6=upd H5 aB (.lst (nats (bL bs ((mem b).take i) n))))
def kd(k:Bool)(xs:List V):HO:=cond k (.lst xs) (.tup xs)
def iKd(k:Bool)(K:PySem.W.Frag)(tl:TE):TI:=cond k (FQ K tl) (HD K tl)
def IM(k:Bool){X:Cx}{tg l:Expr}{tl:TE}(hl:PE X l tl):PI X tg l (iKd k X.K tl):=by
 cases k
 ·exact jM hl
 ·exact aZ hl
def Hq(k:Bool){K:PySem.W.Frag}{a:Addr}{xs:List V}{tl:TE}{g:TG}{tb:TS}{D:Ends}{σ:St}{H:Hp}(Pv:Nat->St->Hp->Prop)(h0:Pv 0 σ H)(hl:∀i σ H,Pv i σ H->H a=some (kd k xs))
  (hs:∀i x σ H,xs[i]?=some x->Pv i σ H->g x σ H λσ2 H2=>tb { D with nx:=Pv (i+1),ct:=Pv (i+1),bk:=D.nx } σ2 H2) (hd:∀σ H,Pv xs.length σ H->D.nx σ H) (tv:∀Q:VK,Q (.ref a) H->tl σ H Q):IE (iKd k K tl) g tb D σ H:=by
 cases k
 ·exact tv _ #[a,rfl,#[_,cz.of (hl 0 σ H h0)],my Pv h0 (λi σ H _ p=>cz.of (hl i σ H p)) hs hd]
 ·exact tv _ #[a,rfl,#[_,aH.of (hl 0 σ H h0)],bJ Pv h0 (λi σ H _ p=>aH.of (hl i σ H p)) hs hd]
def AY(k:Bool){f C:Addr}{fd:FuncData}(F:dN K "add_spots" "Web.add_spots" BR f fd)(T:Txt K mg)(CT:jD K C)(DM:gG P w K mg base "members" kh ["bits"] 1 pR)
  (DB:gG P w K mg base "bit" Bu ["number"] 1 Aq):bf P w K mg base cZ 2 f fd ["self","places","giver","beside"] (Bl C (kd k)):=by
 apply F.oK tS λcdv A outer s H vs Q E hr h=>?_
 ·obtain⟨x,dx,pa,aS,aT,aB,aP,fs,W,g,b,xs,rfl,fa,nST,nSB,nTB,hW,hpa,npa,hfit,kk⟩:=h
  have hsl:=LG
  have hu:=c7 hr
  apply#[_,ak (bO LC rfl (IM k (pv 1)) (fE 4 tS)
   (ag (cM 5 tS (aA bB rfl T.len cY (aa (bM (pv 0) rfl) af)))
   (ag (a9 (df Lr Lv Lw bb (bM (pv 0) rfl) (aa (cX (aa (pv 4) (aa (pv 2) af))) af)))
   (ag (a9 (df Lr Lv Lw bb (bM (pv 0) rfl) (aa aj af)))
   (ag (a9 (df Lr Lv Lw bb (bM (pv 0) rfl) (aa (pv 3) af)))
   (ag (bO LC rfl (aZ (eV DM hr (aa (pv 3) af))) (fE 6 tS)
    (ak (jz (aw iU (aQ aI (bM (pv 0) rfl) (pv 6) (λ_ _=>rfl)) (eV DB hr (aa (pv 5) af))) (k6 (bM (pv 0) rfl) (pv 6) set_list))))
   (ag (kE hu (bM (pv 0) rfl) (pv 4) (aw iU (bC hu (bM (pv 0) rfl) (pv 4) (λ_ _=>rfl)) (eV DB hr (aa (pv 5) af))) rfl)
   (ak (cM 3 tS (aw iU (pv 3) (eV DB hr (aa (pv 5) af)))))))))))),?_]
  clear hu
  dsimp only[bZ,Cx.dY]
  have nT:pa≠aS/\pa≠aT/\pa≠aB/\pa≠aP:=by simpa using npa
  apply Hq k (K:=K) (a:=pa) (xs:=aE xs) (Jj C H x dx pa aS aT aB aP fs W g b xs)
   #[none,none,none,rfl,hW,λ_ _ z _=>z] (λi σ H2 h=>h.but pa _ hpa npa) ?_ ?_ λ_ q=>#[Z,q]
  ·rintro i v σ H2 hi ⟨v4,v5,v6,rfl,hA,but⟩
   obtain⟨z,hz,rfl⟩:=c6 hi
   have hil:=(Lh.mp hz).1
   have etk:=ay hz
   have fit:mh (bx g (W,b) (xs.take i)) (z::xs.drop (i+1)):=by
    apply mh.IW (g:=g) ?_
    have e:xs.take i++z::xs.drop (i+1)=xs:=by
     have:=Nr (i+1) xs
     rw[etk,Mr]at this
     exact this
    rw[e]
    exact hfit
   have ep:bx g (W,b) (xs.take (i+1))=gJ g (bx g (W,b) (xs.take i)) z:=by rw[etk,lZ]
   have goal:∀H',EL C H' x dx fs aS aT aB aP (gJ g (bx g (W,b) (xs.take i)) z).1->cG [aS,aT,aB,aP] H H'->∀v4 v5 v6,Jj C H x dx pa aS aT aB aP fs W g b xs (i+1) [some (.ref x),some (.ref pa),some (gv g),some (nat (gJ g (bx g (W,b) (xs.take i)) z).2),v4,v5,v6] H':=λH' h1 h2 v4 v5 v6=>#[v4,v5,v6,by rw[ep],by rw[ep];exact h1,h2]
   generalize bx g (W,b) (xs.take i)=p at hA fit goal ⊢
   clear ep etk hi hz hil
   obtain⟨⟨sp,tk,be,pl⟩,b1⟩:=p
   obtain⟨ins,⟨qs,hS,hq⟩,hT,hB,hP⟩:=hA
   have lq:qs.length=sp.length:=(Lz hq).symm
   have f1:tk.length=sp.length:=fit.tk
   have f2:be.length=sp.length:=fit.be
   have f3:b1<2 ^ sp.length:=fit.lt
   have f4:sp.length+(z::xs.drop (i+1)).length<=250:=fit.gX
   rw[LN]at f4
   have f5:z∈pl.map (·.1):=fit.key z LK
   have f6:(pl.map (·.1)).Nodup:=fit.nd
   have f7:pl.length<=12:=fit.sm
   dsimp only at hS hq hT hB hP
   apply#[Z,x,C,dx,_,Z,ins,CT.cl,CT.nS,fa.s,_,sp.length,rfl,.inl #[_,aH.of hS,by rw[K4,lq]],?_]
   apply#[Z,x,C,dx,_,Z,ins,CT.cl,CT.nS,fa.s,.inl #[rfl,_,aH.of hS],Z,Z,by show 2<=sizeLine;lia,λq nq=>?_]
   obtain⟨H3,eU,s3,hq3⟩:=fL nq (.tup [.str z,gv g])
   rw[eU]
   have hS3:=s3 _ _ hS
   have sq3:fh H3 (sp++[(z,g)]) (qs++[q]):=ML (Paired.cc hq λp q e=>s3 _ _ e) hq3
   apply#[aS,_,Z,rfl,hS3,by rw[K4];lia,?_]
   have es:qs.map V.ref++[V.ref q]=(qs++[q]).map V.ref:=by rw[Ll];rfl
   rw[es]
   have xS:x≠aS:=aX ins hS (λz=>nomatch z)
   have xT:x≠aT:=aX ins hT (λz=>nomatch z)
   have xB:x≠aB:=aX ins hB (λz=>nomatch z)
   have xP:x≠aP:=aX ins hP (λz=>nomatch z)
   have SP:aS≠aP:=aX hS hP (λz=>nomatch z)
   have TP:aT≠aP:=aX hT hP (λz=>nomatch z)
   have BP:aB≠aP:=aX hB hP (λz=>nomatch z)
   have b4:cG [aS,aT,aB,aP] H (upd H3 aS (.lst ((qs++[q]).map V.ref))):=(but.same s3).upd (by simp)
   have i4:(upd H3 aS (.lst ((qs++[q]).map V.ref))) x=some (.ins C dx fs):=by rw[ai xS];exact s3 _ _ ins
   have S4:(upd H3 aS (.lst ((qs++[q]).map V.ref))) aS=some (.lst ((qs++[q]).map V.ref)):=ae
   have T4:(upd H3 aS (.lst ((qs++[q]).map V.ref))) aT=some (.lst (nats tk)):=by rw[ai nST.symm];exact s3 _ _ hT
   have B4:(upd H3 aS (.lst ((qs++[q]).map V.ref))) aB=some (.lst (nats be)):=by rw[ai nSB.symm];exact s3 _ _ hB
   have P4:(upd H3 aS (.lst ((qs++[q]).map V.ref))) aP=some (.dK (lB pl)):=by rw[ai SP.symm];exact s3 _ _ hP
   have q4:=fh.put (o':=.lst ((qs++[q]).map V.ref)) sq3 hS3
   generalize upd H3 aS (.lst ((qs++[q]).map V.ref))=H4 at b4 i4 S4 T4 B4 P4 q4 ⊢
   apply#[Z,x,C,dx,_,Z,i4,CT.cl,CT.nT,fa.t,.inl #[rfl,_,aH.of T4],aT,_,Z,rfl,T4,by rw[bD];lia,?_]
   have et:nats tk++[V.int 0]=nats (tk++[0]):=eI tk 0
   rw[et]
   have b5:=b4.upd (a:=aT) (o:=.lst (nats (tk++[0]))) (by simp)
   have i5:(upd H4 aT (.lst (nats (tk++[0])))) x=some (.ins C dx fs):=by rw[ai xT];exact i4
   have S5:(upd H4 aT (.lst (nats (tk++[0])))) aS=some (.lst ((qs++[q]).map V.ref)):=by rw[ai nST];exact S4
   have T5:(upd H4 aT (.lst (nats (tk++[0])))) aT=some (.lst (nats (tk++[0]))):=ae
   have B5:(upd H4 aT (.lst (nats (tk++[0])))) aB=some (.lst (nats be)):=by rw[ai nTB.symm];exact B4
   have P5:(upd H4 aT (.lst (nats (tk++[0])))) aP=some (.dK (lB pl)):=by rw[ai TP.symm];exact P4
   have q5:=fh.put (o':=.lst (nats (tk++[0]))) q4 T4
   generalize upd H4 aT (.lst (nats (tk++[0])))=H5 at b5 i5 S5 T5 B5 P5 q5 ⊢
   apply#[Z,x,C,dx,_,Z,i5,CT.cl,CT.nB,fa.b,.inl #[rfl,_,aH.of B5],Z,aB,_,Z,rfl,B5,by rw[bD];lia,?_]
   rw[eI]
   have b6:=b5.upd (a:=aB) (o:=.lst (nats (be++[b1]))) (by simp)
   have i6:(upd H5 aB (.lst (nats (be++[b1])))) x=some (.ins C dx fs):=by rw[ai xB];exact i5
   have S6:(upd H5 aB (.lst (nats (be++[b1])))) aS=some (.lst ((qs++[q]).map V.ref)):=by rw[ai nSB];exact S5
   have T6:(upd H5 aB (.lst (nats (be++[b1])))) aT=some (.lst (nats (tk++[0]))):=by rw[ai nTB];exact T5
   have B6:(upd H5 aB (.lst (nats (be++[b1])))) aB=some (.lst (nats (be++[b1]))):=ae
   have P6:(upd H5 aB (.lst (nats (be++[b1])))) aP=some (.dK (lB pl)):=by rw[ai BP.symm];exact P5
   have q6:=fh.put (o':=.lst (nats (be++[b1]))) q5 B5
   generalize upd H5 aB (.lst (nats (be++[b1])))=H6 at b6 i6 S6 T6 B6 P6 q6 ⊢
   have b256:b1<2 ^ 256:=LF f3 (LX (by decide) (by lia))
   apply#[Z,b1,rfl,b256,λH7 ml s7 nml hml=>?_]
   have mB:ml≠aB:=(aq B6 nml).symm
   have b7:=b6.same s7
   have i7:=s7 _ _ i6
   have S7:=s7 _ _ S6
   have T7:=s7 _ _ T6
   have B7:=s7 _ _ B6
   have P7:=s7 _ _ P6
   have q7:fh H7 (sp++[(z,g)]) (qs++[q]):=Paired.cc q6 λp q e=>s7 _ _ e
   clear s7 nml
   apply#[ml,rfl,#[_,aH.of hml],bJ (K:=K) (a:=ml) (xs:=nats (mem b1)) (AdJ H7 x pa aB ml g b1 sp.length z (be++[b1]))
    #[Z,?_] (λj σ H8 _ h=>?_) ?_ ?_]
   ·show H7=upd H7 aB (.lst (nats (be++[b1])))
    rw[Ew B7]
   ·obtain⟨v6,_,rfl⟩:=h
    apply aH.of ?_
    rw[ai mB]
    exact hml
   ·rintro j v σ H8 hj ⟨v6,rfl,rfl⟩
    obtain⟨k,hk,rfl⟩:∃k,(mem b1)[j]?=some k/\v=nat k:=by
     unfold nats at hj
     rw[LD]at hj
     obtain⟨k,e1,e2⟩:=NS.mp hj
     exact#[k,e1,e2.symm]
    have kl:k<sp.length:=An f3 (Lg hk)
    have ol:(bL (be++[b1]) ((mem b1).take j) sp.length).length=sp.length+1:=by rw[de,K5,f2];rfl
    have e8:(upd H7 aB (.lst (nats (bL (be++[b1]) ((mem b1).take j) sp.length)))) aB=some (.lst (nats (bL (be++[b1]) ((mem b1).take j) sp.length))):=ae
    have i8:(upd H7 aB (.lst (nats (bL (be++[b1]) ((mem b1).take j) sp.length)))) x=some (.ins C dx fs):=by rw[ai xB];exact i7
    apply#[Z,x,C,dx,_,Z,i8,CT.cl,CT.nB,fa.b,Z,aB,_,_,Z,rfl,aH.of e8,aD (cV (by rw[ol];lia)),Z,sp.length,rfl,by lia,_,Z,rfl,?_]
    dsimp only[nat]
    rw[gL]
    apply#[Z,x,C,dx,_,Z,i8,CT.cl,CT.nB,fa.b,Z,aB,_,_,k,rfl,rfl,e8,jX (by rw[bD,ol];lia),?_]
    apply#[Z,?_]
    rw[x4,ay hk,jH]
    have:=jY (bL (be++[b1]) ((mem b1).take j) sp.length) k ((bL (be++[b1]) ((mem b1).take j) sp.length).getD k 0 ||| 2 ^ sp.length)
    unfold nat at this
    rw[this]
    rfl
   ·rintro σ H8 ⟨v6,rfl,rfl⟩
    rw[bD,LH]
    generalize hbe:bL (be++[b1]) (mem b1) sp.length=be2
    have b8:=b7.upd (a:=aB) (o:=.lst (nats be2)) (by simp)
    have i8:(upd H7 aB (.lst (nats be2))) x=some (.ins C dx fs):=by rw[ai xB];exact i7
    have S8:(upd H7 aB (.lst (nats be2))) aS=some (.lst ((qs++[q]).map V.ref)):=by rw[ai nSB];exact S7
    have T8:(upd H7 aB (.lst (nats be2))) aT=some (.lst (nats (tk++[0]))):=by rw[ai nTB];exact T7
    have B8:(upd H7 aB (.lst (nats be2))) aB=some (.lst (nats be2)):=ae
    have P8:(upd H7 aB (.lst (nats be2))) aP=some (.dK (lB pl)):=by rw[ai BP.symm];exact P7
    have q8:=fh.put (o':=.lst (nats be2)) q7 B7
    generalize upd H7 aB (.lst (nats be2))=H8 at b8 i8 S8 T8 B8 P8 q8 ⊢
    obtain⟨m,hm⟩:=EC f5
    have dg:dI H8 aP (V.str z) (some (nat m)):=by rw[<-hm];exact dI.k (k:=Sum.inr z) P8
    apply#[Z,x,C,dx,_,Z,i8,CT.cl,CT.nP,fa.p,Z,aP,nat m,rfl,dg,Z,sp.length,rfl,by lia,_,Z,rfl,?_]
    dsimp only[nat]
    rw[gL]
    apply#[Z,x,C,dx,_,Z,i8,CT.cl,CT.nP,fa.p,Z,aP,Z,nV.k (k:=Sum.inr z) P8 (by unfold lB;rw[List.length_map];lia),?_]
    have pk:=EF (n:=sp.length) f6 hm
    unfold nat at pk
    rw[pk]
    apply#[Z,Z,sp.length,rfl,by lia,_,Z,rfl,?_]
    dsimp only[nat]
    rw[gL]
    apply goal _ #[?_,#[qs++[q],?_,?_],?_,?_,?_] (b8.upd (by simp)) _ _ _
    ·rw[ai xP];exact i8
    ·rw[ai SP];exact S8
    ·exact fh.putD q8 P8
    ·rw[ai TP];exact T8
    ·rw[ai BP,B8,<-hbe];rfl
    ·exact ae
  ·rintro σ H2 ⟨v4,v5,v6,rfl,hA,but⟩
   rw[ar,LH]at hA
   exact kk H2 hA but
open UfSrt
structure DV(K:PySem.W.Frag)(C:Addr)(x q:Str)(st:Stmt)(ps:List Str)(f:Addr)(fd:FuncData):Prop where
 fn:dN K x q st f fd
 mt:Meth K C x f
 bd:Binds K fd ps []
structure kI(P:Program)(w:World)(K:PySem.W.Frag)(mg:Str->Option Value)(base:Heap)(C:Addr)(x q:Str)(st:Stmt)(ps:List Str)(k:Nat)(sp:Sp) where
 f:Addr
 fd:FuncData
 d:DV K C x q st ps f fd
 g:bf P w K mg base cZ k f fd ps sp
structure cB(C:Addr)(H:Hp)(p:Addr)(ms:List Mv)(st:List Str):Prop where
 at':uU C H p ms st
 so:Sound ms st
theorem cB.same{C:Addr}{H H':Hp}{p:Addr}{ms:List Mv}{st:List Str}(s:au H H')(h:cB C H p ms st):cB C H' p ms st:=#[h.at'.same s,h.so]
theorem Sound.isNm{ms:List Mv}{st:List Str}(h:Sound ms st){m:Mv}(hm:m∈ms):Uf.isNm m.1=true:=Mz.mp h.nn _ (LQ.mpr #[m,hm,rfl])
def uc{x:Str}(h:isNm x=true):x.length<=8:=by
 unfold isNm at h
 have:=(LU.mp (LU.mp h).2).1
 exact Ml this
def rA(C:Addr):Sp:=λvs H Q _=>∃(p:Addr) (ms:List Mv) (st:List Str),vs=[.ref p]/\cB C H p ms st/\∀H' q,au H H'->H q=none->H' q=some (.lst (aE (aL (names ms))))->Q (.ref q) H'
def GA:aF ["self"] ["self"] (av pV):=ff
def Di{f C:Addr}{fd:FuncData}(F:dN K "moves" "Net.moves" pV f fd)(T:Txt K mg)(CT:iA K C):bf P w K mg base cZ 1 f fd ["self"] (rA C):=by
 apply F.oK GA λcdv A outer s H vs Q E hr h=>?_
 ·obtain⟨p,ms,st,rfl,N,k⟩:=h
  obtain⟨dx,aP,aS,aT,aG,kT,kG,h1,h2,h3,h4,h5,h6,h7⟩:=N.at'.ob
  apply#[_,ak (aK (aA (vp rfl) rfl T.aL cf (aa (bM (pv 0) rfl) af))),?_]
  ac_rfl
  apply#[Z,p,C,dx,_,Z,h1,CT.cl,CT.nT,yf _ _ _ _,aT,kT,names ms,rfl,.inl h4,h6.keys,?_,λq nq=>k _ q (ao nq) nq ae]
  have:=N.so.ml
  unfold names
  rw[K4]
  lia
def mL(C:Addr):Sp:=λvs H Q _=>∃(p:Addr) (ms:List Mv) (st:List Str),vs=[.ref p]/\cB C H p ms st/\∀q,H q=some (.tup (aE (aL st)))->Q (.ref q) H
def DY:aF ["self"] ["self"] (av kP):=ff
def Bk{f C:Addr}{fd:FuncData}(F:dN K "start" "Net.start" kP f fd)(CT:iA K C):bf P w K mg base cZ 1 f fd ["self"] (mL C):=by
 apply F.oK DY λcdv A outer s H vs Q E hr h=>?_
 ·obtain⟨p,ms,st,rfl,N,k⟩:=h
  obtain⟨dx,aP,aS,aT,aG,kT,kG,h1,h2,h3,h4,h5,h6,h7⟩:=N.at'.ob
  apply#[_,ak (aK (bM (pv 0) rfl)),?_]
  ac_rfl
  exact#[Z,p,C,dx,_,Z,h1,CT.cl,CT.nS,IG _ _ _ _,k aS h3]
def vj(C:Addr):Sp:=λvs H Q _=>∃(p:Addr) (ms:List Mv) (st:List Str) (m:Mv),vs=[.ref p,.str m.1]/\cB C H p ms st/\m∈ms/\∀H',au H H'->Q .non H'
def Hb:aF ["self","move"] ["self","move"] (av uN):=ff
def xH{f C fN:Addr}{fd fdN:FuncData}(F:dN K "must_have" "Net.must_have" uN f fd)(T:Txt K mg)(CT:iA K C)(DN:Def K mg "is_name" fC ["thing"] fN fdN):bf P w K mg base cZ 2 f fd ["self","move"] (vj C):=by
 have GN:bf P w K mg base cZ 1 fN fdN ["thing"] oE:=qu DN.fn T
 apply F.oK Hb λcdv A outer s H vs Q E hr h=>?_
 ·obtain⟨p,ms,st,m,rfl,N,hm,k⟩:=h
  have hu:=c7 hr
  apply#[_,ak (bK (PW.pt (pw_or (cF (ck (eu GN hr rfl DN.mg DN.fn.kp DN.bd .nil bR (aa (pv 1) af)))) (pw_or1 (mW (pQ hu (pv 1) (bM (pv 0) rfl)))))) qD aM),?_]
  clear hu
  dsimp only[bZ,Cx.dY]
  have hnm:=N.so.isNm hm
  apply#[Z,m.1,rfl,by have:=uc hnm;lia,λH1 s1=>#[Z,?_]]
  obtain⟨dx,aP,aS,aT,aG,kT,kG,h1,h2,h3,h4,h5,h6,h7⟩:=(N.at'.same s1).ob
  rw[hnm]
  apply bz ?_
  obtain⟨t,e,_⟩:=h6.get N.so.nd hm
  apply#[Z,Z,p,C,dx,_,Z,h1,CT.cl,CT.nT,yf _ _ _ _,aT,Z,dI.k (k:=Sum.inr m.1) h4,Z,?_]
  rw[e]
  apply bz ?_
  exact k H1 s1
def iI(C:Addr)(sel:Mv->List Str):Sp:=λvs H Q _=>∃(p:Addr) (ms:List Mv) (st:List Str) (m:Mv),vs=[.ref p,.str m.1]/\cB C H p ms st/\m∈ms/\∀H' q,au H H'->H q=none->H' q=some (.lst (aE (aL (sel m))))->Q (.ref q) H'
def Dx:aF ["self","move"] ["self","move"] (av iP):=ff
def Fg:aF ["self","move"] ["self","move"] (av jP):=ff
def Fl:(("must_have":Str) == "place_names")=false:=by decide +kernel
def Fm:(("must_have":Str) == "start_state")=false:=by decide +kernel
def Fq:(("must_have":Str) == "taken_by")=false:=by decide +kernel
def FN:(("must_have":Str) == "given_by")=false:=by decide +kernel
def Ab{f C fN fH:Addr}{fd fdN fdH:FuncData}(F:dN K "takes" "Net.takes" iP f fd)(T:Txt K mg)(CT:iA K C)(DN:Def K mg "is_name" fC ["thing"] fN fdN)(DH:DV K C "must_have" "Net.must_have" uN ["self","move"] fH fdH) :
  bf P w K mg base cZ 3 f fd ["self","move"] (iI C (·.2.1)):=by
 have GH:bf P w K mg base cZ 2 fH fdH ["self","move"] (vj C):=xH DH.fn T CT DN
 apply F.oK Dx λcdv A outer s H vs Q E hr h=>?_
 ·obtain⟨p,ms,st,m,rfl,N,hm,k⟩:=h
  have hu:=c7 hr
  apply#[_,ag (a9 (cJ (pv 0) CT.cl DH.mt GH hr DH.bd .nil bR (aa (pv 1) af))) (ak (aK (a8 bF rfl T.lst dW (aa (bC hu (bM (pv 0) rfl) (pv 1) (λ_ _=>rfl)) af)))),?_]
  clear hu
  dsimp only[bZ,Cx.dY]
  obtain⟨dx,aP,aS,aT,aG,kT,kG,h1,h2,h3,h4,h5,h6,h7⟩:=N.at'.ob
  apply#[Z,p,dx,Z,h1,dc _ _ _ _ Fl Fm Fq FN,Z,p,ms,st,m,rfl,N,hm,λH1 s1=>?_]
  obtain⟨t,e,ht⟩:=(h6.same λb xs e=>s1 _ _ e).get N.so.nd hm
  apply#[Z,p,C,dx,_,Z,s1 _ _ h1,CT.cl,CT.nT,yf _ _ _ _,Z,aT,Z,(by rw[<-e];exact dI.k (k:=Sum.inr m.1) (s1 _ _ h4)),t,Z,.inr (cz.of ht),λq nq=>?_]
  exact k _ q (s1.trans (ao nq)) (s1.free nq) ae
def CY{f C fN fH:Addr}{fd fdN fdH:FuncData}(F:dN K "gives" "Net.gives" jP f fd)(T:Txt K mg)(CT:iA K C)(DN:Def K mg "is_name" fC ["thing"] fN fdN)(DH:DV K C "must_have" "Net.must_have" uN ["self","move"] fH fdH) :
  bf P w K mg base cZ 3 f fd ["self","move"] (iI C (·.2.2)):=by
 have GH:bf P w K mg base cZ 2 fH fdH ["self","move"] (vj C):=xH DH.fn T CT DN
 apply F.oK Fg λcdv A outer s H vs Q E hr h=>?_
 ·obtain⟨p,ms,st,m,rfl,N,hm,k⟩:=h
  have hu:=c7 hr
  apply#[_,ag (a9 (cJ (pv 0) CT.cl DH.mt GH hr DH.bd .nil bR (aa (pv 1) af))) (ak (aK (a8 bF rfl T.lst dW (aa (bC hu (bM (pv 0) rfl) (pv 1) (λ_ _=>rfl)) af)))),?_]
  clear hu
  dsimp only[bZ,Cx.dY]
  obtain⟨dx,aP,aS,aT,aG,kT,kG,h1,h2,h3,h4,h5,h6,h7⟩:=N.at'.ob
  apply#[Z,p,dx,Z,h1,dc _ _ _ _ Fl Fm Fq FN,Z,p,ms,st,m,rfl,N,hm,λH1 s1=>?_]
  obtain⟨t,e,ht⟩:=(h7.same λb xs e=>s1 _ _ e).get N.so.nd hm
  apply#[Z,p,C,dx,_,Z,s1 _ _ h1,CT.cl,CT.nG,FJ _ _ _ _,Z,aG,Z,(by rw[<-e];exact dI.k (k:=Sum.inr m.1) (s1 _ _ h5)),t,Z,.inr (cz.of ht),λq nq=>?_]
  exact k _ q (s1.trans (ao nq)) (s1.free nq) ae
abbrev oS:Stmt:=top 15
abbrev j6:Stmt:=top 16
abbrev mD:Stmt:=top 17
abbrev Et:Stmt:=top 18
abbrev kC:Stmt:=top 19
abbrev rY:Stmt:=top 20
abbrev jm:Stmt:=top 22
def dH(tk s:List Str):Bool:=tk.any λx=>!decide (x∈s)
def second(tk gv s:List Str):Bool:=gv.any λx=>decide (x∈s) && !decide (x∈tk)
def behind(tk gv s:List Str):List Str:=aL ((s.filter λx=>!decide (x∈tk))++gv)
def uO{xs ys:List Str}(p:xs.Perm ys)(f:Str->Bool):xs.any f=ys.any f:=by
 rw[LV,MH,MH]
 exact#[λ#[x,h,e]=>#[x,p.mem_iff.mp h,e],λ#[x,h,e]=>#[x,p.mem_iff.mpr h,e]]
def zP(tk s:List Str):dH (aL tk) s=dH tk s:=uO (dy tk) _
def wL(tk gv s:List Str):second (aL tk) (aL gv) s=second tk gv s:=by
 unfold second
 rw[uO (dy gv)]
 congr 1
 funext x
 rw[Mi.mpr (cQ (xs:=tk) (x:=x))]
def uX(tk gv s:List Str):behind (aL tk) (aL gv) s=behind tk gv s:=by
 unfold behind
 apply kM ?_
 have e:(s.filter λx=>!decide (x∈aL tk))=s.filter λx=>!decide (x∈tk):=by
  congr 1
  funext x
  rw[Mi.mpr (cQ (xs:=tk) (x:=x))]
 rw[e]
 exact(dy gv).append_left _
def da(xs:List Str):(aE xs).all gE=true:=by
 unfold aE
 rw[NZ,Mz]
 intro x _
 rfl
def jE(x:Str)(xs:List Str):Gm (.str x) (aE xs)=decide (x∈xs):=by
 unfold Gm aE
 rw[OU,LV,MH,LP]
 constructor
 ·rintro⟨y,hy,e⟩
  have e':ue (.str y) (.str x)=true:=e
  have:y=x:=by simpa[ue] using e'
  rw[<-this]
  exact hy
 ·intro h
  exact#[x,h,by show ue (.str x) (.str x)=true;simp[ue]]
def lu(K:PySem.W.Frag)(C:Addr)(g:Mv->List Str->Bool):Sp:=λvs H Q _=>∃(p a:Addr) (ms:List Mv) (st s:List Str) (m:Mv),vs=[.ref p,.ref a,.str m.1]/\cB C H p ms st/\m∈ms/\cz K H a (aE s)/\s.length<=200/\∀H',au H H'->Q (.bl (g m s)) H'
def fF{K:PySem.W.Frag}{H H':Hp}{a:Addr}{xs:List V}(e:au H H')(h:cz K H a xs):cz K H' a xs:=by
 rcases h with(h|⟨o,h⟩)|h
 ·exact .inl (.inl (e _ _ h))
 ·exact .inl (.inr #[o,e _ _ h])
 ·exact .inr h
def sL:(("takes":Str) == "place_names")=false:=by decide +kernel
def ug:(("takes":Str) == "start_state")=false:=by decide +kernel
def uA:(("takes":Str) == "taken_by")=false:=by decide +kernel
def sQ:(("takes":Str) == "given_by")=false:=by decide +kernel
def yC:(("gives":Str) == "place_names")=false:=by decide +kernel
def xC:(("gives":Str) == "start_state")=false:=by decide +kernel
def xg:(("gives":Str) == "taken_by")=false:=by decide +kernel
def yB:(("gives":Str) == "given_by")=false:=by decide +kernel
def xX:aF ["net","state","move"] ["net","state","move"] (av oS):=ff
def Bb{f C:Addr}{fd:FuncData}(F:dN K "lacks_bead" "lacks_bead" oS f fd)(T:Txt K mg)(hany:mg "any"=none)(CT:iA K C)(DT:kI P w K mg base C "takes" "Net.takes" iP ["self","move"] 3 (iI C (·.2.1))) :
  bf P w K mg base cZ 4 f fd ["net","state","move"] (lu K C λm s=>dH m.2.1 s):=by
 apply F.oK xX λcdv A outer s H vs Q E hr h=>?_
 ·obtain⟨p,a,ms,st,s',m,rfl,N,hm,ha,hz,k⟩:=h
  apply#[_,ak (aK (aA (oe rfl) rfl hany AZ (aa (cE (N:=["place","state"]) (n:=1) (ci:=[1]) rfl (aZ (cJ (pv 0) CT.cl DT.d.mt DT.g hr DT.d.bd .nil bR (aa (pv 2) af)))
    (oO xX)
    (λz=>#[kJ 0,cR,dP fX (pv 0) (pv 1) (by with_unfolding_all rfl)])) af))),?_]
  ac_rfl
  obtain⟨dx,aP,aS,aT,aG,kT,kG,h1,_⟩:=N.at'.ob
  obtain⟨_,_,_,tk4,gv4⟩:=fA (N.so.mv m hm)
  apply#[Z,p,dx,Z,h1,dc _ _ _ _ sL ug uA sQ,Z,p,ms,st,m,rfl,N,hm,λH1 q s1 nq hq=>?_]
  apply#[q,rfl,#[_,aH.of hq],λz D hD=>cv (a:=q) (xs:=aE (aL m.2.1)) (λi ys H2=>ys=((aL m.2.1).take i).map (λx=>V.bl (!decide (x∈s')))/\H2 D=some (.lst ys)/\au H1 H2) #[rfl,ae,ao hD] (λi ys H2 _ p=>aH.of (p.2.2 _ _ hq)) ?_ ?_]
  ·rintro i v ys H2 hi ⟨rfl,hys,sm⟩
   obtain⟨x,hx,rfl⟩:=c6 hi
   apply#[Z,Z,a,aE s',rfl,.inr (fF (s1.trans sm) ha),rfl,da s',hys,?_,?_,ae,aJ sm hD]
   ·rw[K4,Lf,cP,L7]
    lia
   ·rw[ay hx,Ll,jE]
    rfl
  ·rintro ys H2 ⟨rfl,hys,sm⟩
   rw[ar,LH]at hys
   apply#[D,(aL m.2.1).map λx=>!decide (x∈s'),rfl,aH.of (by rw[hys,LY];rfl),?_]
   have e:dH m.2.1 s'=((aL m.2.1).map λx=>!decide (x∈s')).any id:=by
    rw[<-zP,OU]
    rfl
   rw[<-e]
   exact k H2 (s1.trans sm)
def oj:aF ["net","state","move","taken"] ["net","state","move"] (av j6):=ff
def yZ{f C:Addr}{fd:FuncData}(F:dN K "gives_second" "gives_second" j6 f fd)(T:Txt K mg)(hany:mg "any"=none)(CT:iA K C)(DT:kI P w K mg base C "takes" "Net.takes" iP ["self","move"] 3 (iI C (·.2.1)))
  (DG:kI P w K mg base C "gives" "Net.gives" jP ["self","move"] 3 (iI C (·.2.2))) :
  bf P w K mg base cZ 4 f fd ["net","state","move"] (lu K C λm s=>second m.2.1 m.2.2 s):=by
 apply F.oK oj λcdv A outer s H vs Q E hr h=>?_
 ·obtain⟨p,a,ms,st,s',m,rfl,N,hm,ha,hz,k⟩:=h
  apply#[_,ag (cM 3 oj (cJ (pv 0) CT.cl DT.d.mt DT.g hr DT.d.bd .nil bR (aa (pv 2) af)))
   (ak (aK (aA (oe rfl) rfl hany AZ (aa (cE (N:=["place","state","taken"]) (n:=1) (ci:=[1,3]) rfl (aZ (cJ (pv 0) CT.cl DG.d.mt DG.g hr DG.d.bd .nil bR (aa (pv 2) af)))
    (oO oj)
    (λz=>#[kJ 0,cR,jA (dP k8 (pv 0) (pv 1) (by with_unfolding_all rfl)) (jI (dP fX (pv 0) (pv 2) (by with_unfolding_all rfl)))])) af)))),?_]
  ac_rfl
  obtain⟨dx,aP,aS,aT,aG,kT,kG,h1,_⟩:=N.at'.ob
  obtain⟨_,_,_,tk4,gv4⟩:=fA (N.so.mv m hm)
  apply#[Z,p,dx,Z,h1,dc _ _ _ _ sL ug uA sQ,Z,p,ms,st,m,rfl,N,hm,λH1 q s1 nq hq=>?_]
  apply#[Z,p,dx,Z,s1 _ _ h1,dc _ _ _ _ yC xC xg yB,Z,p,ms,st,m,rfl,N.same s1,hm,λH2 q2 s2 nq2 hq2=>?_]
  apply#[q2,rfl,#[_,aH.of hq2],λz D hD=>cv (a:=q2) (xs:=aE (aL m.2.2)) (λi ys H3=>ys=((aL m.2.2).take i).map (λx=>V.bl (decide (x∈s') && !decide (x∈aL m.2.1)))/\H3 D=some (.lst ys)/\au H2 H3) #[rfl,ae,ao hD] (λi ys H3 _ p=>aH.of (p.2.2 _ _ hq2)) ?_ ?_]
  ·rintro i v ys H3 hi ⟨rfl,hys,sm⟩
   obtain⟨x,hx,rfl⟩:=c6 hi
   have hlen:(((aL m.2.2).take i).map (λx=>V.bl (decide (x∈s') && !decide (x∈aL m.2.1)))).length<sizeLine:=by
    rw[K4,Lf,cP,L7]
    lia
   apply#[Z,Z,a,aE s',rfl,.inr (fF (s1.trans (s2.trans sm)) ha),rfl,da s',Z,?_]
   show if Gm (V.str x) (aE s')=true then _ else _
   rw[jE]
   cases c1:decide (x∈s') with
   |false =>
    apply bz #[hys,hlen,?_,ae,aJ sm hD]
    rw[ay hx,Ll]
    simp[c1]
   |true =>
    apply cy #[Z,Z,q,aE (aL m.2.1),rfl,.inl (aH.of (sm _ _ (s2 _ _ hq))),rfl,da _,hys,hlen,?_,ae,aJ sm hD]
    rw[ay hx,Ll,jE]
    simp[c1]
  ·rintro ys H3 ⟨rfl,hys,sm⟩
   rw[ar,LH]at hys
   apply#[D,(aL m.2.2).map λx=>decide (x∈s') && !decide (x∈aL m.2.1),rfl,aH.of (by rw[hys,LY];rfl),?_]
   have e:second m.2.1 m.2.2 s'=((aL m.2.2).map λx=>decide (x∈s') && !decide (x∈aL m.2.1)).any id:=by
    rw[<-wL,OU]
    rfl
   rw[<-e]
   exact k H3 (s1.trans (s2.trans sm))
def BW(ms:List Mv)(x:Str):List Str:=((ms.find? λm=>decide (m.1=x)).map (·.2.1)).getD []
def C2(ms:List Mv)(x:Str):List Str:=((ms.find? λm=>decide (m.1=x)).map (·.2.2)).getD []
theorem find_name:∀{ms:List Mv} {m:Mv},(names ms).Nodup->m∈ms->(ms.find? λn=>decide (n.1=m.1))=some m
 |[],_,_,h=>by simp at h
 |n::ms,m,hn,h=>by
  obtain⟨n1,n2⟩:=Mo.mp (show(n.1::names ms).Nodup from hn)
  rcases Lc.mp h with rfl|h
  ·simp
  ·have ne:¬n.1=m.1:=λz=>n1 (by rw[z];exact LQ.mpr ⟨m,h,rfl⟩)
   rw[Nq]
   simp only[ne,decide_false]
   exact find_name n2 h
def gH{ms:List Mv}{m:Mv}(hn:(names ms).Nodup)(h:m∈ms):BW ms m.1=m.2.1:=by unfold BW;rw[find_name hn h];rfl
def hU{ms:List Mv}{m:Mv}(hn:(names ms).Nodup)(h:m∈ms):C2 ms m.1=m.2.2:=by unfold C2;rw[find_name hn h];rfl
def gm(ms:List Mv)(s:List Str)(x:Str):Bool:=dH (BW ms x) s
def kO(ms:List Mv)(s:List Str)(x:Str):Bool:=second (BW ms x) (C2 ms x) s
def iC(ms:List Mv)(s:List Str)(x:Str):List Str:=behind (BW ms x) (C2 ms x) s
def pA(ms:List Mv)(s:List Str):List Str:=((aL (names ms)).filter λx=>!gm ms s x).filter λx=>!kO ms s x
def qY(ms:List Mv)(s:List Str):Option Str:=(aL (names ms)).find? λx=>!gm ms s x&&kO ms s x
def ee{ms:List Mv}{x:Str}(h:x∈aL (names ms)):∃m∈ms,m.1=x:=by
 obtain⟨m,hm,e⟩:=LQ.mp (cQ.mp h)
 exact#[m,hm,e]
def tN(K:PySem.W.Frag)(C:Addr):Sp:=λvs H Q _=>∃(p a:Addr) (ms:List Mv) (st s:List Str) (m:Mv),vs=[.ref p,.ref a,.str m.1]/\cB C H p ms st/\m∈ms/\cz K H a (aE s)/\s.length<=50 /\
 ∀H' q,au H H'->H q=none->H' q=some (.tup (aE (behind m.2.1 m.2.2 s)))->Q (.ref q) H'
def kz:aF ["net","state","move","taken","left"] ["net","state","move"] (av mD):=ff
def zH{f C:Addr}{fd:FuncData}(F:dN K "state_behind" "state_behind" mD f fd)(T:Txt K mg)(CT:iA K C)(DT:kI P w K mg base C "takes" "Net.takes" iP ["self","move"] 3 (iI C (·.2.1)))
  (DG:kI P w K mg base C "gives" "Net.gives" jP ["self","move"] 3 (iI C (·.2.2))) :
  bf P w K mg base cZ 4 f fd ["net","state","move"] (tN K C):=by
 apply F.oK kz λcdv A outer s H vs Q E hr h=>?_
 ·obtain⟨p,a,ms,st,s',m,rfl,N,hm,ha,hz,k⟩:=h
  apply#[_,ag (cM 3 kz (cJ (pv 0) CT.cl DT.d.mt DT.g hr DT.d.bd .nil bR (aa (pv 2) af)))
   (ag (sg (j:=4) (N:=["place","taken"]) (n:=1) (ci:=[3]) rfl kz.nd rfl rfl (jM (pv 1))
    (oO kz)
    (λz=>#[kJ 0,ko (aY fX (pv 0) (pv 1) (by with_unfolding_all rfl)),pv 0]))
   (ak (aK (a8 cj rfl T.tup eA (aa (aA cu rfl T.aL cf (aa (aw eC (pv 4) (cJ (pv 0) CT.cl DG.d.mt DG.g hr DG.d.bd .nil bR (aa (pv 2) af))) af)) af))))),?_]
  ac_rfl
  obtain⟨dx,aP,aS,aT,aG,kT,kG,h1,_⟩:=N.at'.ob
  obtain⟨_,_,_,tk4,gv4⟩:=fA (N.so.mv m hm)
  apply#[Z,p,dx,Z,h1,dc _ _ _ _ sL ug uA sQ,Z,p,ms,st,m,rfl,N,hm,λH1 q s1 nq hq=>?_]
  apply#[Z,a,rfl,#[_,fF s1 ha],λz D hD=>oF (a:=a) (xs:=aE s') (λi ys H2=>ys=aE ((s'.take i).filter λx=>!decide (x∈aL m.2.1))/\H2 D=some (.lst ys)/\au H1 H2) #[rfl,ae,ao hD] (λi ys H2 _ p=>fF (s1.trans p.2.2) ha) ?_ ?_]
  ·rintro i v ys H2 hi ⟨rfl,hys,sm⟩
   obtain⟨x,hx,rfl⟩:=c6 hi
   have hlen:(aE ((s'.take i).filter λx=>!decide (x∈aL m.2.1))).length<sizeLine:=by
    rw[ar,L7]
    have:=MD (λx=>!decide (x∈aL m.2.1)) (s'.take i)
    rw[Lf]at this
    lia
   apply#[Z,Z,q,aE (aL m.2.1),rfl,.inl (aH.of (sm _ _ hq)),rfl,da _,Z,?_]
   show if (!Gm (V.str x) (aE (aL m.2.1)))=true then _ else _
   rw[jE]
   cases c1:decide (x∈aL m.2.1) with
   |true =>
    apply bz #[?_,hys,sm]
    rw[ay hx,My]
    simp[c1]
   |false =>
    apply cy #[Z,hys,hlen,?_,ae,aJ sm hD]
    rw[ay hx,My]
    unfold aE
    simp[c1]
  ·rintro ys H2 ⟨rfl,hys,sm⟩
   rw[ar,LH]at hys
   apply#[Z,Z,p,dx,Z,(s1.trans sm) _ _ h1,dc _ _ _ _ yC xC xg yB,Z,p,ms,st,m,rfl,N.same (s1.trans sm),hm,λH3 q2 s3 nq2 hq2=>?_]
   have lf:(s'.filter λx=>!decide (x∈aL m.2.1)).length<=50:=LM (MD _ _) hz
   have hsl:=LG
   apply#[D,q2,_,Z,rfl,s3 _ _ hys,hq2,?_,λq3 nq3=>?_]
   ·rw[ar,ar,cP]
    dsimp only
    lia
   have e1:aE (s'.filter λx=>!decide (x∈aL m.2.1))++aE (aL m.2.2)=aE ((s'.filter λx=>!decide (x∈aL m.2.1))++aL m.2.2):=by unfold aE;rw[List.map_append]
   rw[e1]
   apply#[q3,Z,aH.of ae,?_,λq4 nq4=>#[q4,Z,.inl #[aH.of ae,λq5 nq5=>?_]]]
   ·rw[K5,cP]
    lia
   have s5:=(ao (o:=.lst (aE ((s'.filter λx=>!decide (x∈aL m.2.1))++aL m.2.2))) nq3).trans (ao (o:=.lst (aE (aL ((s'.filter λx=>!decide (x∈aL m.2.1))++aL m.2.2)))) nq4)
   have sA:au H H3:=s1.trans (sm.trans s3)
   apply k _ q5 ((sA.trans s5).trans (ao nq5)) ((sA.trans s5).free nq5) ?_
   rw[ae,<-uX]
   rfl
def FT(K:PySem.W.Frag)(C:Addr):Sp:=λvs H Q _=>∃(p a:Addr) (ms:List Mv) (st s:List Str),vs=[.ref p,.ref a]/\cB C H p ms st/\cz K H a (aE s)/\s.length<=50 /\
 ∀H' q,au H H'->H q=none->H' q=some (.lst (aE (pA ms s)))->Q (.ref q) H'
def yd:aF ["net","state","supplied"] ["net","state"] (av Et):=ff
def Bg:(("moves":Str) == "place_names")=false:=by decide +kernel
def Cn:(("moves":Str) == "start_state")=false:=by decide +kernel
def AJ:(("moves":Str) == "taken_by")=false:=by decide +kernel
def BI:(("moves":Str) == "given_by")=false:=by decide +kernel
def Hd{f C:Addr}{fd:FuncData}(F:dN K "may" "may" Et f fd)(CT:iA K C)(DM:kI P w K mg base C "moves" "Net.moves" pV ["self"] 1 (rA C))
  (DL:gG P w K mg base "lacks_bead" oS ["net","state","move"] 4 (lu K C λm s=>dH m.2.1 s))
  (DS:gG P w K mg base "gives_second" j6 ["net","state","move"] 4 (lu K C λm s=>second m.2.1 m.2.2 s)) :
  bf P w K mg base cZ 5 f fd ["net","state"] (FT K C):=by
 apply F.oK yd λcdv A outer s H vs Q E hr h=>?_
 ·obtain⟨p,a,ms,st,s',rfl,N,ha,hz,k⟩:=h
  apply#[_,ag (sg (j:=2) (N:=["move","net","state"]) (n:=1) (ci:=[0,1]) rfl yd.nd rfl rfl (aZ (dw (pv 0) CT.cl DM.d.mt DM.g (hr.mono (by decide)) DM.d.bd .nil bR))
    (oO yd)
    (λz=>#[kJ 0,ko (cF (ck (eV DL hr (aa (pv 1) (aa (pv 2) (aa (pv 0) af)))))),pv 0]))
   (ak (aK (cE (N:=["move","net","state"]) (n:=1) (ci:=[0,1]) rfl (aZ (pv 2))
    (oO yd)
    (λz=>#[kJ 0,ko (cF (ck (eV DS hr (aa (pv 1) (aa (pv 2) (aa (pv 0) af)))))),pv 0])))),?_]
  ac_rfl
  obtain⟨dx,aP,aS,aT,aG,kT,kG,h1,_⟩:=N.at'.ob
  have l12:(names ms).length<=12:=by unfold names;rw[List.length_map];exact N.so.ml
  have hsl:=LG
  apply#[Z,p,dx,Z,h1,dc _ _ _ _ Bg Cn AJ BI,p,ms,st,rfl,N,λH1 q s1 nq hq=>?_]
  apply#[q,rfl,#[_,aH.of hq],λz D hD=>cv (a:=q) (xs:=aE (aL (names ms))) (λi ys H2=>ys=aE (((aL (names ms)).take i).filter λx=>!gm ms s' x)/\H2 D=some (.lst ys)/\au H1 H2) #[rfl,ae,ao hD] (λi ys H2 _ p=>aH.of (p.2.2 _ _ hq)) ?_ ?_]
  ·rintro i v ys H2 hi ⟨rfl,hys,sm⟩
   obtain⟨x,hx,rfl⟩:=c6 hi
   obtain⟨m,hm,rfl⟩:=ee (Lg hx)
   have hlen:(aE (((aL (names ms)).take i).filter λx=>!gm ms s' x)).length<sizeLine:=by
    rw[ar,hsl]
    have:=MD (λx=>!gm ms s' x) ((aL (names ms)).take i)
    rw[Lf,cP]at this
    lia
   apply#[Z,Z,Z,p,a,ms,st,s',m,rfl,N.same (s1.trans sm),hm,fF (s1.trans sm) ha,by lia,λH3 s3=>#[Z,?_]]
   have el:dH m.2.1 s'=gm ms s' m.1:=by unfold gm;rw[gH N.so.nd hm]
   show if (!dH m.2.1 s')=true then _ else _
   rw[el]
   cases c1:gm ms s' m.1 with
   |true =>
    apply bz #[?_,s3 _ _ hys,sm.trans s3]
    rw[ay hx,My]
    simp[c1]
   |false =>
    apply cy #[Z,s3 _ _ hys,hlen,?_,ae,aJ (sm.trans s3) hD]
    rw[ay hx,My]
    unfold aE
    simp[c1]
  ·rintro ys H2 ⟨rfl,hys,sm⟩
   rw[ar,LH]at hys
   generalize hL:(aL (names ms)).filter (λx=>!gm ms s' x)=L at hys
   have LL:L.length<=12:=by
    rw[<-hL]
    have:=MD (λx=>!gm ms s' x) (aL (names ms))
    rw[cP]at this
    lia
   have Lm:∀x∈L,∃m∈ms,m.1=x:=λx hx=>by
    rw[<-hL]at hx
    exact ee (L4.mp hx).1
   have sA:au H H2:=s1.trans sm
   apply#[Z,D,rfl,#[_,aH.of hys],λz D2 hD2=>cv (a:=D) (xs:=aE L) (λi ys H3=>ys=aE ((L.take i).filter λx=>!kO ms s' x)/\H3 D2=some (.lst ys)/\au H2 H3) #[rfl,ae,ao hD2] (λi ys H3 _ p=>aH.of (p.2.2 _ _ hys)) ?_ ?_]
   ·rintro i v ys H3 hi ⟨rfl,hys3,sm3⟩
    obtain⟨x,hx,rfl⟩:=c6 hi
    obtain⟨m,hm,rfl⟩:=Lm x (Lg hx)
    have hlen:(aE ((L.take i).filter λx=>!kO ms s' x)).length<sizeLine:=by
     rw[ar,hsl]
     have:=MD (λx=>!kO ms s' x) (L.take i)
     rw[Lf]at this
     lia
    apply#[Z,Z,Z,p,a,ms,st,s',m,rfl,N.same (sA.trans sm3),hm,fF (sA.trans sm3) ha,by lia,λH4 s4=>#[Z,?_]]
    have el:second m.2.1 m.2.2 s'=kO ms s' m.1:=by unfold kO;rw[gH N.so.nd hm,hU N.so.nd hm]
    show if (!second m.2.1 m.2.2 s')=true then _ else _
    rw[el]
    cases c1:kO ms s' m.1 with
    |true =>
     apply bz #[?_,s4 _ _ hys3,sm3.trans s4]
     rw[ay hx,My]
     simp[c1]
    |false =>
     apply cy #[Z,s4 _ _ hys3,hlen,?_,ae,aJ (sm3.trans s4) hD2]
     rw[ay hx,My]
     unfold aE
     simp[c1]
   ·rintro ys H3 ⟨rfl,hys3,sm3⟩
    rw[ar,LH]at hys3
    apply k H3 D2 (sA.trans sm3) (sA.free hD2) ?_
    rw[hys3,<-hL]
    rfl
end Uf
namespace UfBfs
variable {σ μ:Type}
structure G(σ μ:Type) where
 may:σ->List μ
 nxt:σ->μ->σ
 bad:σ->Option μ
inductive At(g:G σ μ)(s:σ):Nat->σ->Prop where
 |zero:At g s 0 s
 |succ {k:Nat} {t:σ} {m:μ}:At g s k t->m∈g.may t->At g s (k+1) (g.nxt t m)
def Told(g:G σ μ)(s:σ)(_:Option (List μ)):Prop:=∀k t,At g s k t->g.bad t=none
end UfBfs
namespace Uf
open PySem L2 UfSrt
def pI(K:PySem.W.Frag)(C:Addr):Sp:=λvs H Q _=>∃(p a:Addr) (ms:List Mv) (st s:List Str),vs=[.ref p,.ref a]/\cB C H p ms st/\cz K H a (aE s)/\s.length<=50/\qY ms s=none/\∀H',au H H'->Q .non H'
def qy:aF ["net","state","move"] ["net","state"] (av kC):=ff
def vY{f C:Addr}{fd:FuncData}(F:dN K "crowder" "crowder" kC f fd)(CT:iA K C)(DM:kI P w K mg base C "moves" "Net.moves" pV ["self"] 1 (rA C))
  (DL:gG P w K mg base "lacks_bead" oS ["net","state","move"] 4 (lu K C λm s=>dH m.2.1 s))
  (DS:gG P w K mg base "gives_second" j6 ["net","state","move"] 4 (lu K C λm s=>second m.2.1 m.2.2 s)) :
  bf P w K mg base cZ 5 f fd ["net","state"] (pI K C):=by
 apply F.oK qy λcdv A outer s H vs Q E hr h=>?_
 ·obtain⟨p,a,ms,st,s',rfl,N,ha,hz,hc,k⟩:=h
  apply#[_,ag (bO LC rfl (aZ (dw (pv 0) CT.cl DM.d.mt DM.g (hr.mono (by decide)) DM.d.bd .nil bR)) (fE 2 qy)
    (ak (bK (PW.pt (pw_and (cF (ck (eV DL hr (aa (pv 0) (aa (pv 1) (aa (pv 2) af)))))) (pw_and1 (ck (eV DS hr (aa (pv 0) (aa (pv 1) (aa (pv 2) af)))))))) (ak (aK (pv 2))) aM)))
   (ak (aK jG)),?_]
  ac_rfl
  obtain⟨dx,aP,aS,aT,aG,kT,kG,h1,_⟩:=N.at'.ob
  apply#[Z,p,dx,Z,h1,dc _ _ _ _ Bg Cn AJ BI,p,ms,st,rfl,N,λH1 q s1 nq hq=>?_]
  apply#[q,rfl,#[_,aH.of hq],bJ (K:=K) (a:=q) (xs:=aE (aL (names ms))) (λi σ H2=>∃v:Option V,σ=[some (.ref p),some (.ref a),v]/\au H1 H2)
   #[none,rfl,au.refl _] (λi σ H2 _ #[_,_,sm]=>aH.of (sm _ _ hq)) ?_ ?_]
  ·rintro i v σ H2 hi ⟨v0,rfl,sm⟩
   obtain⟨x,hx,rfl⟩:=c6 hi
   have hx:=Lg hx
   obtain⟨m,hm,rfl⟩:=ee hx
   have sA:au H H2:=s1.trans sm
   have no:=List.find?_eq_none.mp hc _ hx
   unfold gm kO at no
   rw[gH N.so.nd hm,hU N.so.nd hm]at no
   apply#[Z,Z,Z,p,a,ms,st,s',m,rfl,N.same sA,hm,fF sA ha,by lia,λH3 s3=>#[Z,?_]]
   show if (!dH m.2.1 s')=true then _ else _
   cases c1:dH m.2.1 s' with
   |true=>exact bz (bz #[Z,sm.trans s3])
   |false =>
    apply cy #[Z,Z,Z,p,a,ms,st,s',m,rfl,N.same (sA.trans s3),hm,fF (sA.trans s3) ha,by lia,λH4 s4=>#[Z,?_]]
    show if second m.2.1 m.2.2 s'=true then _ else _
    rw[c1]at no
    rw[show second m.2.1 m.2.2 s'=false by simpa using no]
    exact bz #[Z,(sm.trans s3).trans s4]
  ·rintro σ H2 ⟨v0,rfl,sm⟩
   exact k H2 (s1.trans sm)
open UfFin
def graph(ms:List Mv):UfBfs.G (List Str) Str:=#[pA ms,iC ms,qY ms]
def qP(t:List Str):List Key:=t.map Sum.inr
def yy(t:List Str):(qP t).map kV=aE t:=by
 unfold qP aE
 rw[LY]
 rfl
def uM(H H':Hp):Prop:=∀b xs,H b=some (.tup xs)->H' b=some (.tup xs)
def uM.trans{H H1 H2:Hp}(a:uM H H1)(b:uM H1 H2):uM H H2:=λc xs e=>b c xs (a c xs e)
def _root_.L2.au.pe{H H':Hp}(s:au H H'):uM H H':=λb xs e=>s b _ e
def tQ{H:Hp}{a:Addr}{o u:HO}(e:H a=some o)(n:∀xs,o≠.tup xs):uM H (upd H a u):=λb xs q=>by
 rw[ai (aX q e (λz=>n xs z.symm))]
 exact q
theorem Ae{k:List Key}:∀{kvs:List (List Key×V)},dE kvs k=none->k∉kvs.map (·.1)
 |[],_,h=>by simp at h
 |kv::kvs,e,h=>by
  by_cases hk:kv.1=k
  ·rw[cx hk]at e
   cases e
  ·rw[bA hk]at e
   rcases Lc.mp h with z|z
   ·exact hk z.symm
   ·exact Ae e z
structure o8(ms:List Mv)(st t:List Str):Prop where
 ris:dD t
 sub:∀x∈t,x∈dv ms st
def sZ(ms:List Mv)(st:List Str):dD (dv ms st):=dD.aL (UfSet.m6 _)
def o8.len{ms:List Mv}{st t:List Str}(so:Sound ms st)(h:o8 ms st t):t.length<=12:=LM (dZ h.ris.nd h.sub) so.pl
def wy{ms:List Mv}{st:List Str}(so:Sound ms st){l:List (List Str)}(hn:l.Nodup)(h:∀t∈l,o8 ms st t):l.length<=4096:=by
 have h1:=dZ hn λt ht=>(h t ht).ris.yc (sZ ms st) (h t ht).sub
 rw[oV]at h1
 apply LM h1 (LM (LX (by decide) so.pl) (by decide))
def ot{ms:List Mv}{st:List Str}{x:Str}:x∈dv ms st↔x∈st\/∃m∈ms,x∈m.2.1\/x∈m.2.2:=by
 unfold dv
 rw[cQ,UfSet.sh,K9]
 unfold gB
 rw[PF]
 simp only[K9]
def vf{ms:List Mv}{st:List Str}(so:Sound ms st):o8 ms st (aL st):=#[dD.aL (jg so.su),λx hx=>ot.mpr (.inl (cQ.mp hx))]
def ER{ms:List Mv}{t:List Str}{x:Str}:x∈pA ms t↔x∈names ms/\gm ms t x=false/\kO ms t x=false:=by
 unfold pA
 rw[L4,L4,cQ]
 simp[and_assoc]
def zl{ms:List Mv}{st t:List Str}{m:Mv}(so:Sound ms st)(h:o8 ms st t)(hm:m∈ms)(hs:second m.2.1 m.2.2 t=false):o8 ms st (behind m.2.1 m.2.2 t):=by
 obtain⟨_,u2,_⟩:=fA (so.mv m hm)
 have gn:m.2.2.Nodup:=jg u2
 apply#[dD.aL (L1.mpr #[h.ris.nd.sublist Og,gn,λa ha b hb=>?_]),λx hx=>?_]
 ·rintro rfl
  obtain⟨h1,h2⟩:=L4.mp ha
  have h3:second m.2.1 m.2.2 t=true:=MH.mpr #[a,hb,by simp at h2;simp[h1,h2]]
  rw[hs]at h3
  cases h3
 ·unfold behind at hx
  rcases K9.mp (cQ.mp hx) with z|z
  ·exact h.sub x (L4.mp z).1
  ·exact ot.mpr (.inr #[m,hm,.inr z])
def Cw{ms:List Mv}{st t:List Str}{x:Str}(so:Sound ms st)(h:o8 ms st t)(hx:x∈pA ms t):∃m∈ms,m.1=x/\dH m.2.1 t=false/\second m.2.1 m.2.2 t=false/\iC ms t x=behind m.2.1 m.2.2 t/\o8 ms st (iC ms t x):=by
 obtain⟨h1,h2,h3⟩:=ER.mp hx
 obtain⟨m,hm,rfl⟩:=LQ.mp h1
 unfold gm at h2
 unfold kO at h3
 rw[gH so.nd hm]at h2 h3
 rw[hU so.nd hm]at h3
 have e:iC ms t m.1=behind m.2.1 m.2.2 t:=by
  unfold iC
  rw[gH so.nd hm,hU so.nd hm]
 exact#[m,hm,rfl,h2,h3,e,by rw[e];exact zl so h hm h3]
def cB.but{C:Addr}{H H':Hp}{p d:Addr}{ms:List Mv}{st:List Str}{kvs:List (List Key×V)}(hd:H d=some (.dT kvs))(b:ky d H H')(h:cB C H p ms st):cB C H' p ms st:=by
 obtain⟨⟨dx,aP,aS,aT,aG,kT,kG,h1,h2,h3,h4,h5,h6,h7⟩,so⟩:=h
 have up:∀{c:Addr} {o:HO},H c=some o->(∀k,o≠.dT k)->H' c=some o:=λe n=>b _ _ e (aX e hd (n _))
 exact#[#[dx,aP,aS,aT,aG,kT,kG,up h1 (λ_ z=>nomatch z),up h2 (λ_ z=>nomatch z),up h3 (λ_ z=>nomatch z),up h4 (λ_ z=>nomatch z),up h5 (λ_ z=>nomatch z),h6.same λc xs e=>up e (λ_ z=>nomatch z),h7.same λc xs e=>up e (λ_ z=>nomatch z)],so]
structure Jn(ms:List Mv)(st t:List Str):Prop where
 fine:o8 ms st t
 at_:∃k,UfBfs.At (graph ms) (aL st) k t
def Ft(ms:List Mv)(st:List Str)(H:Hp)(a:Addr)(n:Nat):Prop:=∃qs:List Addr,H a=some (.lst (qs.map V.ref))/\qs.length=n/\∀q∈qs,∃t,H q=some (.tup (aE t))/\Jn ms st t
def gM(ms:List Mv)(st:List Str)(H:Hp)(d:Addr)(n:Nat):Prop:=∃(kvs:List (List Key×V)) (ks:List (List Str)),H d=some (.dT kvs)/\kvs.map (·.1)=ks.map qP/\ks.Nodup/\(∀t∈ks,o8 ms st t)/\ks.length=n
def gM.gX{ms:List Mv}{st:List Str}{H:Hp}{d:Addr}{n:Nat}(so:Sound ms st)(h:gM ms st H d n):n<=4096:=by
 obtain⟨_,ks,_,_,h1,h2,rfl⟩:=h
 exact wy so h1 h2
def Ft.same{ms:List Mv}{st:List Str}{H H':Hp}{a:Addr}{n:Nat}(s:au H H')(h:Ft ms st H a n):Ft ms st H' a n:=by
 obtain⟨qs,h1,h2,h3⟩:=h
 exact#[qs,s _ _ h1,h2,λq hq=>(h3 q hq).imp λt z=>#[s _ _ z.1,z.2]]
def gM.same{ms:List Mv}{st:List Str}{H H':Hp}{a:Addr}{n:Nat}(s:au H H')(h:gM ms st H a n):gM ms st H' a n:=by
 obtain⟨kvs,ks,h1,h2⟩:=h
 exact#[kvs,ks,s _ _ h1,h2]
def wU(C:Addr):Sp:=λvs H Q _=>∃(p a d:Addr) (ms:List Mv) (st:List Str) (n l:Nat),vs=[.ref p,.ref a,.ref d]/\cB C H p ms st/\Ft ms st H a l/\gM ms st H d n /\
 ∀H' q l' n',ky d H H'->H q=none->Ft ms st H' q l'->gM ms st H' d n'->n+l'<=n'->Q (.ref q) H'
def jU:aF ["net","states","ways","reached","state","move","behind"] ["net","states","ways"] (av rY):=ff
inductive JH(H:Hp)(p a d r:Addr)(ms:List Mv)(st:List Str)(n:Nat)(σ:St)(H2:Hp):Prop
 |mk (v4 v5 v6:Option V) (l' n':Nat) (q1:σ=[some (.ref p),some (.ref a),some (.ref d),some (.ref r),v4,v5,v6]) (q2:ky d H H2) (q3:Ft ms st H2 r l') (q4:gM ms st H2 d n') (q5:n+l'<=n')
inductive JS(H:Hp)(p a d r tq q:Addr)(ms:List Mv)(st t:List Str)(n:Nat)(σ:St)(H4:Hp):Prop
 |mk (v5 v6:Option V) (l' n':Nat) (q1:σ=[some (.ref p),some (.ref a),some (.ref d),some (.ref r),some (.ref tq),v5,v6]) (q2:ky d H H4) (q3:H4 q=some (.lst (aE (pA ms t)))) (q4:Ft ms st H4 r l') (q5:gM ms st H4 d n') (q6:n+l'<=n')
def JH.but{H:Hp}{p a d r:Addr}{ms:List Mv}{st:List Str}{n:Nat}{σ:St}{H2:Hp}(h:JH H p a d r ms st n σ H2):ky d H H2:=by
 cases h
 assumption
def JS.at_{H:Hp}{p a d r tq q:Addr}{ms:List Mv}{st t:List Str}{n:Nat}{σ:St}{H4:Hp}(h:JS H p a d r tq q ms st t n σ H4):H4 q=some (.lst (aE (pA ms t))):=by
 cases h
 assumption
def Ar{f C:Addr}{fd:FuncData}(F:dN K "newly_reached" "newly_reached" rY f fd)
  (DM:gG P w K mg base "may" Et ["net","state"] 5 (FT K C))
  (DB:gG P w K mg base "state_behind" mD ["net","state","move"] 4 (tN K C)) :
  bf P w K mg base cZ 6 f fd ["net","states","ways"] (wU C):=by
 apply F.oK jU λcdv A outer s H vs Q E hr h=>?_
 ·obtain⟨p,a,d,ms,st,n,l,rfl,N,⟨qs,hq,_,hp⟩,⟨kvs0,ks0,hd0,wp0⟩,k⟩:=h
  have hu:=c7 hr
  apply#[_,ag (cM 3 jU (bu af))
   (ag (bO LC rfl (aZ (pv 1)) (fE 4 jU)
    (ak (bO LC rfl (aZ (eV DM hr (aa (pv 0) (aa (pv 4) af)))) (fE 5 jU)
     (ag (cM 6 jU (eV DB (hr.mono (by decide)) (aa (pv 0) (aa (pv 4) (aa (pv 5) af)))))
      (ak (bK (mW (pQ hu (pv 6) (pv 2)))
       (ag (kE hu (pv 2) (pv 6) (cX (aa (pv 4) (aa (pv 5) af))) rfl)
        (ak (a9 (df Lr Lv Lw bb (pv 3) (aa (pv 6) af))))) aM))))))
   (ak (aK (pv 3)))),?_]
  clear hu
  dsimp only[bZ,Cx.dY]
  apply#[LA _,λr nr=>?_]
  have s0:au H (upd H r (.lst [])):=ao nr
  have so:=N.so
  have hsl:=LG
  have nda:a≠d:=aX hq hd0 (λz=>nomatch z)
  apply#[Z,a,rfl,#[_,aH.of (s0 _ _ hq)],bJ (K:=K) (a:=a) (xs:=qs.map V.ref) (λ_=>JH H p a d r ms st n)
   #[none,none,none,0,n,rfl,λc o e _=>s0 _ _ e,#[[],ae,rfl,λ_ h=>nomatch h],#[kvs0,ks0,s0 _ _ hd0,wp0],La _] (λi σ H2 _ h=>aH.of (h.but _ _ hq nda)) ?_ ?_]
  ·rintro i v σ H2 hi ⟨v4,v5,v6,l',n',rfl,b2,S2,W2,le⟩
   obtain⟨tq,hqi,rfl⟩:=cO hi
   obtain⟨t,htq,hft⟩:=hp _ (Lg hqi)
   have ntd:tq≠d:=aX htq hd0 (λz=>nomatch z)
   have lt:=hft.fine.len so
   apply#[Z,Z,p,tq,ms,st,t,rfl,N.but hd0 b2,cz.of (b2 _ _ htq ntd),by lia,λH3 q s3 nq hq3=>?_]
   have nqr:r≠q:=aq S2.choose_spec.1 nq
   apply#[q,rfl,#[_,aH.of hq3],bJ (K:=K) (a:=q) (xs:=aE (pA ms t)) (λ_=>JS H p a d r tq q ms st t n)
    #[v5,v6,l',n',rfl,b2.then s3,hq3,S2.same s3,W2.same s3,le] (λj σ H4 _ h=>aH.of h.at_) ?_ ?_]
   ·rintro j v σ H4 hj ⟨v5,v6,l',n',rfl,b4,hq4,S4,W4,le⟩
    obtain⟨x,hx,rfl⟩:=c6 hj
    have hx:=Lg hx
    obtain⟨m,hm,rfl,_,hsec,eb,hfb⟩:=Cw so hft.fine hx
    obtain⟨k',at'⟩:=hft.at_
    have rb:Jn ms st (iC ms t m.1):=#[hfb,_,at'.succ hx]
    have gX:=W4.gX so
    apply#[Z,Z,Z,p,tq,ms,st,t,m,rfl,N.but hd0 b4,hm,cz.of (b4 _ _ htq ntd),by lia,λH5 q5 s5 nq5 hq5=>?_]
    rw[<-eb]at hq5
    have S5:=S4.same s5
    have W5:=W4.same s5
    have hqq5:=s5 _ _ hq4
    have b5:=b4.then s5
    obtain⟨rs,hr5,rl,hrp⟩:=id S5
    obtain⟨kvs,ks,hd5,wk,wn,wf,wl⟩:=id W5
    have hq5k:H5 q5=some (.tup ((qP (iC ms t m.1)).map kV)):=by rw[yy];exact hq5
    have lk:kvs.length=n':=by rw[<-wl,<-K4 (f:=qP),<-wk,K4]
    apply#[Z,Z,d,Z,dI.t hd5 hq5k,Z,?_]
    cases hl:dE kvs (qP (iC ms t m.1)) with
    |some y=>exact bz #[_,_,l',n',rfl,b5,hqq5,S5,W5,le]
    |none =>
     have no:=Ae hl
     rw[wk]at no
     apply cy #[Z,Z,by show 2<=sizeLine;lia,λq6 nq6=>?_]
     have s6:au H5 (upd H5 q6 (.tup [.ref tq,.str m.1])):=ao nq6
     have hd6:=s6 _ _ hd5
     have hr6:=s6 _ _ hr5
     have b6:=b5.then s6
     have hq6:=s6 _ _ hq5
     have hq6k:=s6 _ _ hq5k
     have hqq6:=s6 _ _ hqq5
     have hrp6:∀q∈rs,∃t,_/\Jn ms st t:=λq hq=>(hrp q hq).imp λt z=>#[s6 _ _ z.1,z.2]
     generalize upd H5 q6 (.tup [.ref tq,.str m.1])=H6 at s6 hd6 hr6 b6 hq6 hq6k hqq6 hrp6 ⊢
     apply#[Z,Z,d,Z,nV.t hd6 hq6k (by lia),?_]
     rw[gj _ hl]
     have t7:uM H6 (upd H6 d (.dT (kvs++[(qP (iC ms t m.1),V.ref q6)]))):=tQ hd6 (λ_ z=>nomatch z)
     have nrd:r≠d:=aX hr6 hd6 (λz=>nomatch z)
     have nqd6:q≠d:=aX hqq6 hd6 (λz=>nomatch z)
     have b7:=b6.put (o:=.dT (kvs++[(qP (iC ms t m.1),V.ref q6)]))
     have hr7:=(ai nrd (H:=H6) (o:=.dT (kvs++[(qP (iC ms t m.1),V.ref q6)]))).trans hr6
     have hd7:(upd H6 d (.dT (kvs++[(qP (iC ms t m.1),V.ref q6)]))) d=some (.dT (kvs++[(qP (iC ms t m.1),V.ref q6)])):=ae
     have hq7:=(ai nqd6 (H:=H6) (o:=.dT (kvs++[(qP (iC ms t m.1),V.ref q6)]))).trans hqq6
     generalize upd H6 d (.dT (kvs++[(qP (iC ms t m.1),V.ref q6)]))=H7 at t7 hr7 hd7 hq7 b7 ⊢
     apply#[Z,.inl #[rfl,_,aH.of hr7],Z,r,_,Z,rfl,hr7,by rw[K4];lia,?_]
     have t8:uM H6 (upd H7 r (.lst (rs.map V.ref++[V.ref q5]))):=t7.trans (tQ hr7 (λ_ z=>nomatch z))
     apply#[_,_,l'+1,n'+1,rfl,b7.new nr,by rw[ai (λz=>nqr z.symm)];exact hq7,#[rs++[q5],by rw[ae,Ll];rfl,by simp[rl],λq hq=>?_],#[_,ks++[iC ms t m.1],by rw[ai nrd.symm];exact hd7,by simp[wk],?_,λu hu=>?_,by simp[wl]],by lia]
     ·rcases K9.mp hq with z|z
      ·exact(hrp6 q z).imp λt z=>#[t8 _ _ z.1,z.2]
      ·cases LZ.mp z
       exact#[_,t8 _ _ hq6,rb]
     ·exact L1.mpr #[wn,by simp,λa ha b hb e=>no (by cases LZ.mp hb;rw[<-e];exact List.mem_map_of_mem ha)]
     ·rcases K9.mp hu with z|z
      ·exact wf u z
      ·cases LZ.mp z
       exact hfb
   ·rintro σ H4 ⟨v5,v6,l',n',rfl,b4,_,S4,W4,le⟩
    exact#[_,_,_,l',n',rfl,b4,S4,W4,le]
  ·rintro σ H2 ⟨v4,v5,v6,l',n',rfl,b2,S2,W2,le⟩
   exact#[Z,k H2 r l' n' b2 nr S2 W2 le]
def x9:(("start":Str) == "place_names")=false:=by decide +kernel
def xt:(("start":Str) == "start_state")=false:=by decide +kernel
def xK:(("start":Str) == "taken_by")=false:=by decide +kernel
def yv:(("start":Str) == "given_by")=false:=by decide +kernel
def nh(C:Addr):Sp:=λvs H Q _=>∃(p:Addr) (ms:List Mv) (st:List Str),vs=[.ref p]/\cB C H p ms st/\UfBfs.Told (graph ms) (aL st) none/\∀H',au H H'->Q .non H'
inductive CrI(H:Hp)(p d:Addr)(ms:List Mv)(st:List Str)(m:Nat)(σ:St)(H4:Hp):Prop
 |mk (a:Addr) (l n:Nat) (v3 v4:Option V) (q0:σ=[some (.ref p),some (.ref d),some (.ref a),v3,v4]) (q1:au H H4) (q2:Ft ms st H4 a l) (q3:gM ms st H4 d n) (q4:m=2*(5000-n)+(if l=0 then 0 else 1))
def fk:aF ["net","ways","states","state","move"] ["net"] (av jm):=ff
def sO{f C:Addr}{fd:FuncData}(F:dN K "crowding" "crowding" jm f fd)(CT:iA K C)(DS:kI P w K mg base C "start" "Net.start" kP ["self"] 1 (mL C))
  (DC:gG P w K mg base "crowder" kC ["net","state"] 5 (pI K C))
  (DN:gG P w K mg base "newly_reached" rY ["net","states","ways"] 6 (wU C)) :
  bf P w K mg base cZ 7 f fd ["net"] (nh C):=by
 apply F.oK fk λcdv A outer s H vs Q E hr h=>?_
 ·obtain⟨p,ms,st,rfl,N,told,kn⟩:=h
  have hu:=c7 hr
  have hr1:cW 1 _:=hr.mono (by decide)
  have hr5:cW 5 _:=hr.mono (by decide)
  apply#[_,ag (cM 1 fk (yS hu (dw (pv 0) CT.cl DS.d.mt DS.g hr1 DS.d.bd .nil bR) jG))
   (ag (cM 2 fk (bu (aa (dw (pv 0) CT.cl DS.d.mt DS.g hr1 DS.d.bd .nil bR) af)))
   (ag (oN LC (uH (pv 2) (λ_=>rfl))
    (ag (bO LC rfl (aZ (pv 2)) (fE 3 fk)
     (ag (cM 4 fk (eV DC hr5 (aa (pv 0) (aa (pv 3) af))))
      (ak (bK (mW (rO (pv 4))) (ak cH) aM))))
    (ak (cM 2 fk (eV DN hr (aa (pv 0) (aa (pv 2) (aa (pv 1) af))))))))
   (ak (aK jG)))),?_]
  clear hu
  dsimp only[bZ,Cx.dY]
  have so:=N.so
  have hsl:=LG
  intro d nd
  have sd:au H (upd H d (.dT [])):=ao nd
  have N1:=N.same sd
  obtain⟨dx,aP,aS,aT,aG,kT,kG,h1,_⟩:=N1.at'.ob
  apply#[Z,p,dx,Z,h1,dc _ _ _ _ x9 xt xK yv,p,ms,st,rfl,N1,λq hq=>?_]
  apply#[ae,qP (aL st),q,rfl,(by rw[yy];exact hq),?_]
  have nqd:q≠d:=aX hq ae (λz=>nomatch z)
  have s2:au H (upd (upd H d (.dT [])) d (.dT [(qP (aL st),V.non)])):=aJ sd nd
  have hd2:(upd (upd H d (.dT [])) d (.dT [(qP (aL st),V.non)])) d=some (.dT [(qP (aL st),V.non)]):=ae
  have hq2:(upd (upd H d (.dT [])) d (.dT [(qP (aL st),V.non)])) q=some (.tup (aE (aL st))):=by rw[ai nqd];exact hq
  generalize upd (upd H d (.dT [])) d (.dT [(qP (aL st),V.non)])=H2 at s2 hd2 hq2 ⊢
  have N2:=N.same s2
  obtain⟨dx2,aP2,aS2,aT2,aG2,kT2,kG2,h2,_⟩:=N2.at'.ob
  apply#[Z,p,dx2,Z,h2,dc _ _ _ _ x9 xt xK yv,p,ms,st,rfl,N2,λq' hq'=>#[by show 1<=sizeLine;lia,λa na=>?_]]
  have s3:au H2 (upd H2 a (.lst [.ref q'])):=ao na
  have fs:Jn ms st (aL st):=#[vf so,0,.zero]
  apply#[CrI H p d ms st,#[_,a,1,1,none,none,rfl,s2.trans s3,#[[q'],ae,rfl,λ_ h=>#[_,by cases LZ.mp h;exact s3 _ _ hq',fs]],#[_,[aL st],s3 _ _ hd2,rfl,by simp,λ_ h=>by cases LZ.mp h;exact fs.fine,rfl],rfl],?_]
  rintro m σ H4 ⟨a,l,n,v3,v4,rfl,s4,S4,W4,em⟩
  obtain⟨qs,ha4,rfl,hp4⟩:=id S4
  apply#[Z,_,.inl #[_,aH.of ha4,rfl],?_]
  cases qs with
  |nil=>exact bz (kn H4 s4)
  |cons q0 qs =>
   apply cy #[λσ' H'=>∃m',m'<m/\CrI H p d ms st m' σ' H',λσ' H' h=>h,?_]
   apply#[Z,a,rfl,#[_,aH.of ha4],bJ (K:=K) (a:=a) (xs:=(q0::qs).map V.ref) (λi σ H5=>∃(v3 v4:Option V),σ=[some (.ref p),some (.ref d),some (.ref a),v3,v4]/\au H4 H5)
    #[v3,v4,rfl,au.refl _] (λi σ H5 _ #[_,_,_,s5]=>aH.of (s5 _ _ ha4)) ?_ ?_]
   ·rintro i v σ H5 hi ⟨v3,v4,rfl,s5⟩
    obtain⟨tq,hqi,rfl⟩:=cO hi
    obtain⟨t,htq,hf,k,hk⟩:=hp4 _ (Lg hqi)
    have lt:=hf.len so
    exact#[Z,Z,p,tq,ms,st,t,rfl,N.same (s4.trans s5),cz.of (s5 _ _ htq),by lia,told k t hk,λH6 s6=>#[Z,Z,bz #[_,Z,s5.trans s6]]]
   ·rintro σ H5 ⟨v3,v4,rfl,s5⟩
    apply#[Z,Z,Z,p,a,d,ms,st,n,Z,N.same (s4.trans s5),S4.same s5,W4.same s5,λH6 q6 l' n' b6 nq6 S6 W6 le=>?_]
    have gX:=W6.gX so
    apply#[_,?_,q6,l',n',_,Z,λc o e=>b6 c o ((s4.trans s5) c o e) (aq e nd),S6,W6,rfl]
    have em:m=2*(5000-n)+1:=em
    rw[em]
    split <;> lia
open UfB
def xp(p aS aO aN aW aG aB aT aP:Addr):List (Str×V):=bE "place_bits" (.ref aP) (bE "taker_bits" (.ref aT) (bE "beside_bits" (.ref aB) (bE "given_bits" (.ref aG) (bE "own_bits" (.ref aW) (bE "numbers_there" (.ref aN) (bE "occurrence_tuples" (.ref aO) (bE "spot_tuples" (.ref aS) (bE "base_net" (.ref p) []))))))))
def nQ(p aS aO aN aW aG aB aT aP:Addr):AdF (xp p aS aO aN aW aG aB aT aP) aS aT aB aP:=by
 unfold xp
 apply#[?_,?_,?_,?_]
 ·rw[az,Le (by decide +kernel),az,Le (by decide +kernel),az,Le (by decide +kernel),az,Le (by decide +kernel),az,Le (by decide +kernel),az,Le (by decide +kernel),az,Le (by decide +kernel),az,Ls rfl]
 ·rw[az,Le (by decide +kernel),az,Ls rfl]
 ·rw[az,Le (by decide +kernel),az,Le (by decide +kernel),az,Ls rfl]
 ·rw[az,Ls rfl]
def GQ(p aS aO aN aW aG aB aT aP:Addr):(xp p aS aO aN aW aG aB aT aP).lookup ("add_spots":Str)=none:=by
 unfold xp
 rw[az,Le (by decide +kernel),az,Le (by decide +kernel),az,Le (by decide +kernel),az,Le (by decide +kernel),az,Le (by decide +kernel),az,Le (by decide +kernel),az,Le (by decide +kernel),az,Le (by decide +kernel),az,Le (by decide +kernel)]
 rfl
theorem tY(f:Str)(v:V):∀fs:List (Str×V),(bE f v fs).length<=fs.length+1
 |[]=>by simp[bE]
 |(g,x)::r=>by
  have:=tY f v r
  unfold bE
  split <;> simp <;> lia
structure WI(H0:Hp)(x dx C:Addr)(fs:List (Str×V))(new:List (Addr×HO))(H:Hp):Prop where
 ins:H x=some (.ins C dx fs)
 old:∀c o,H0 c=some o->c≠x->H c=some o
 here:∀p∈new,H p.1=some p.2
 nx:∀p∈new,p.1≠x
 fr:∀p∈new,H0 p.1=none
 nd:(new.map (·.1)).Nodup
 len:fs.length<=new.length+1
def WI.put{H0:Hp}{x dx C a:Addr}{fs:List (Str×V)}{new:List (Addr×HO)}{H:Hp}{o:HO}(f:Str)(h:WI H0 x dx C fs new H)(ha:H a=none) :
  WI H0 x dx C (bE f (.ref a) fs) ((a,o)::new) (upd (upd H a o) x (.ins C dx (bE f (.ref a) fs))):=by
 have ax:a≠x:=(aq h.ins ha).symm
 apply#[ae,λc u e n=>?_,λp hp=>?_,λp hp=>?_,λp hp=>?_,?_,?_]
 ·have e2:=h.old c u e n
  rw[ai n,ai (aq e2 ha)]
  exact e2
 ·rcases Lc.mp hp with rfl|hp
  ·rw[ai ax];exact ae
  ·have e2:=h.here p hp
   rw[ai (h.nx p hp),ai (aq e2 ha)]
   exact e2
 ·rcases Lc.mp hp with rfl|hp
  ·exact ax
  ·exact h.nx p hp
 ·rcases Lc.mp hp with rfl|hp
  ·cases q:H0 a with
   |none=>rfl
   |some u =>
    have:=h.old a u q ax
    rw[ha]at this
    cases this
  ·exact h.fr p hp
 ·apply Mo.mpr ⟨λhm=>?_,h.nd⟩
  obtain⟨p,hp,e⟩:=LQ.mp hm
  have:=h.here p hp
  rw[e,ha]at this
  cases this
 ·have:=tY f (.ref a) fs
  have:=h.len
  rw[LN]
  lia
def WI.same{H0:Hp}{x dx C:Addr}{fs:List (Str×V)}{new:List (Addr×HO)}{H H':Hp}(h:WI H0 x dx C fs new H)(s:au H H'):WI H0 x dx C fs new H' :=
 #[s _ _ h.ins,λc o e n=>s _ _ (h.old c o e n),λp hp=>s _ _ (h.here p hp),h.nx,h.fr,h.nd,h.len]
def WI.uW{H0:Hp}{x dx C:Addr}{fs:List (Str×V)}{new:List (Addr×HO)}{H:Hp}(h:WI H0 x dx C fs new H):∀a∈new.map (·.1),H0 a=none:=λa ha=>by
 obtain⟨q,hq,e⟩:=LQ.mp ha
 rw[<-e]
 exact h.fr q hq
def cB.Iq{C D x dx p:Addr}{H H':Hp}{ms:List Mv}{st:List Str}(N:cB C H p ms st)(hx:H x=some (.ins D dx []))(b:∀c o,H c=some o->c≠x->H' c=some o):cB C H' p ms st:=by
 obtain⟨dn,aP,aS,aT,aG,kT,kG,h1,h2,h3,h4,h5,h6,h7⟩:=N.at'.ob
 have tp:∀c xs,H c=some (.tup xs)->H' c=some (.tup xs):=λc xs e=>b c _ e (aX e hx (λz=>nomatch z))
 apply#[#[#[dn,aP,aS,aT,aG,kT,kG,b _ _ h1 (aX h1 hx (λz=>by injection z with _ _ z3;cases z3)),tp _ _ h2,tp _ _ h3,b _ _ h4 (aX h4 hx (λz=>nomatch z)),b _ _ h5 (aX h5 hx (λz=>nomatch z)),h6.same tp,h7.same tp]],N.so]
def Dk:bootBuiltins "dict"=some (.type "dict"):=by decide +kernel
inductive AK(CW:Addr)(H0 H:Hp)(x p:Addr)(W:qB):Prop
 |mk (dx aS aO aN aW aG aB aT aP:Addr) (hA:EL CW H x dx (xp p aS aO aN aW aG aB aT aP) aS aT aB aP W) (hO:H aO=some (.lst [])) (hN:H aN=some (.dK [])) (hW:H aW=some (.lst [])) (hG:H aG=some (.lst [])) (nd:[aP,aT,aB,aG,aW,aN,aO,aS].Nodup) (fr:∀a∈[aP,aT,aB,aG,aW,aN,aO,aS],H0 a=none)
def rR(ms:List Mv)(st:List Str):(dv ms st).Nodup:=by
 unfold dv
 exact(dy _).nodup_iff.mpr (UfSet.m6 _)
def B9{ms:List Mv}{st:List Str}{y:Str}(h:y∈st):y∈dv ms st:=cQ.mpr (UfSet.sh.mpr (Lj _ h))
def W0(ms:List Mv)(st:List Str):qB:=#[[],[],[],(dv ms st).map λx=>(x,0)]
def yn(C CW:Addr):Sp:=λvs H Q E=>∃(x dx p:Addr) (ms:List Mv) (st:List Str),vs=[.ref x,.ref p]/\H x=some (.ins CW dx [])/\cB C H p ms st/\UfBfs.Told (graph ms) (aL st) none /\
 ∀H',AK CW H H' x p (bx none (W0 ms st,0) (aL st)).1->(∀c o,H c=some o->c≠x->H' c=some o)->Q .non H'
def rG:aF ["self","net","row"] ["self","net"] (av vO):=ff
def wu(C:Addr):Sp:=λvs H Q _=>∃(p:Addr) (ms:List Mv) (st:List Str),vs=[.ref p]/\cB C H p ms st/\∀H' q,au H H'->H q=none->H' q=some (.lst (aE (dv ms st)))->Q (.ref q) H'
def Gb:aF ["self"] ["self"] (av uP):=ff
def C3{f C:Addr}{fd:FuncData}(F:dN K "places" "Net.places" uP f fd)(T:Txt K mg)(CT:iA K C):bf P w K mg base cZ 1 f fd ["self"] (wu C):=by
 apply F.oK Gb λcdv A outer s H vs Q E hr h=>?_
 ·obtain⟨p,ms,st,rfl,N,k⟩:=h
  obtain⟨dx,aP,aS,aT,aG,kT,kG,h1,h2,h3,h4,h5,h6,h7⟩:=N.at'.ob
  apply#[_,ak (aK (a8 bF rfl T.lst dW (aa (bM (pv 0) rfl) af))),?_]
  ac_rfl
  exact#[Z,p,C,dx,_,Z,h1,CT.cl,CT.nP,IC _ _ _ _,aP,Z,.inr (cz.of h2),λq nq=>k _ q (ao nq) nq ae]
def Fv:(("places":Str) == "place_names")=false:=by decide +kernel
def Fp:(("places":Str) == "start_state")=false:=by decide +kernel
def Fy:(("places":Str) == "taken_by")=false:=by decide +kernel
def FE:(("places":Str) == "given_by")=false:=by decide +kernel
def By{f C CW:Addr}{fd:FuncData}(F:dN K "__init__" "Web.__init__" vO f fd)(T:Txt K mg)(dct:mg "dict"=none)(NC:iA K C)(CT:jD K CW)
  (DC:gG P w K mg base "crowding" jm ["net"] 7 (nh C))
  (DP:kI P w K mg base C "places" "Net.places" uP ["self"] 1 (wu C))
  (DS:kI P w K mg base C "start" "Net.start" kP ["self"] 1 (mL C))
  (DA:kI P w K mg base CW "add_spots" "Web.add_spots" BR ["self","places","giver","beside"] 2 (Bl CW .tup)) :
  bf P w K mg base cZ 8 f fd ["self","net"] (yn C CW):=by
 apply F.oK rG λcdv A outer s H vs Q E hr h=>?_
 ·obtain⟨x,dx,p,ms,st,rfl,hx,N,told,kk⟩:=h
  have hsl:=LG
  have hr1:cW 1 _:=hr.mono (by decide)
  have hr2:cW 2 _:=hr.mono (by decide)
  apply#[_,ag (cM 2 rG (eV DC hr (aa (pv 1) af)))
   (ag (bK (mW (rO (pv 2))) (ak cH) aM)
   (ag (fv (pv 0) (pv 1) rfl)
   (ag (fv (pv 0) (bu af) rfl)
   (ag (fv (pv 0) (bu af) rfl)
   (ag (fv (pv 0) kb rfl)
   (ag (fv (pv 0) (bu af) rfl)
   (ag (fv (pv 0) (bu af) rfl)
   (ag (fv (pv 0) (bu af) rfl)
   (ag (fv (pv 0) (bu af) rfl)
   (ag (fv (pv 0) (a8 (vC rfl) rfl dct Dk (aa (cE (N:=["place"]) (n:=1) (ci:=[]) rfl (aZ (dw (pv 1) NC.cl DP.d.mt DP.g hr1 DP.d.bd .nil bR)) (oO rG) (λz=>#[kJ 0,cR,cX (aa (pv 0) (aa aj af))])) af)) rfl)
   (ak (a9 (cJ (pv 0) CT.cl DA.d.mt DA.g hr2 DA.d.bd .nil bR (aa (dw (pv 1) NC.cl DS.d.mt DS.g hr1 DS.d.bd .nil bR) (aa jG (aa aj af)))))))))))))))),?_]
  ac_rfl
  apply#[Z,p,ms,st,rfl,N,told,λH1 s1=>?_]
  ·apply⟨_,rfl,_,rfl,?_⟩
   apply bz ?_
   apply#[Z,Z,x,CW,dx,Z,s1 _ _ hx,CT.cl,CT.nN,(by show 0<1000;decide),?_]
   have w0:WI H x dx CW (bE "base_net" (V.ref p) []) [] (upd H1 x (.ins CW dx (bE "base_net" (V.ref p) []))):=#[ae,λc o e n=>by rw[ai n];exact s1 _ _ e,λq hq=>by simp at hq,λq hq=>by simp at hq,λq hq=>by simp at hq,.nil,by show 1<=0+1;decide]
   generalize upd H1 x (.ins CW dx (bE "base_net" (V.ref p) []))=G0 at w0 ⊢
   generalize hf0:bE "base_net" (V.ref p) []=f0 at w0 ⊢
   apply#[LA _,λaS naS=>#[Z,x,CW,dx,Z,(by rw[ai (aq w0.ins naS)];exact w0.ins),CT.cl,CT.nS,L8 w0.len (by show 0+1<1000;decide),?_]]
   have w1:=w0.put (o:=.lst []) "spot_tuples" naS
   generalize upd (upd G0 aS (.lst [])) x (.ins CW dx (bE "spot_tuples" (V.ref aS) f0))=G1 at w1 ⊢
   generalize hf1:bE "spot_tuples" (V.ref aS) f0=f1 at w1 ⊢
   apply#[LA _,λaO naO=>#[Z,x,CW,dx,Z,(by rw[ai (aq w1.ins naO)];exact w1.ins),CT.cl,CT.nO,L8 w1.len (by show 1+1<1000;decide),?_]]
   have w2:=w1.put (o:=.lst []) "occurrence_tuples" naO
   generalize upd (upd G1 aO (.lst [])) x (.ins CW dx (bE "occurrence_tuples" (V.ref aO) f1))=G2 at w2 ⊢
   generalize hf2:bE "occurrence_tuples" (V.ref aO) f1=f2 at w2 ⊢
   refineλaN naN=>#[Z,x,CW,dx,Z,(by rw[ai (aq w2.ins naN)];exact w2.ins),CT.cl,CT.nH,L8 w2.len (by show 2+1<1000;decide),?_]
   have w3:=w2.put (o:=.dK []) "numbers_there" naN
   generalize upd (upd G2 aN (.dK [])) x (.ins CW dx (bE "numbers_there" (V.ref aN) f2))=G3 at w3 ⊢
   generalize hf3:bE "numbers_there" (V.ref aN) f2=f3 at w3 ⊢
   apply#[LA _,λaW naW=>#[Z,x,CW,dx,Z,(by rw[ai (aq w3.ins naW)];exact w3.ins),CT.cl,CT.nW,L8 w3.len (by show 3+1<1000;decide),?_]]
   have w4:=w3.put (o:=.lst []) "own_bits" naW
   generalize upd (upd G3 aW (.lst [])) x (.ins CW dx (bE "own_bits" (V.ref aW) f3))=G4 at w4 ⊢
   generalize hf4:bE "own_bits" (V.ref aW) f3=f4 at w4 ⊢
   apply#[LA _,λaG naG=>#[Z,x,CW,dx,Z,(by rw[ai (aq w4.ins naG)];exact w4.ins),CT.cl,CT.nG,L8 w4.len (by show 4+1<1000;decide),?_]]
   have w5:=w4.put (o:=.lst []) "given_bits" naG
   generalize upd (upd G4 aG (.lst [])) x (.ins CW dx (bE "given_bits" (V.ref aG) f4))=G5 at w5 ⊢
   generalize hf5:bE "given_bits" (V.ref aG) f4=f5 at w5 ⊢
   apply#[LA _,λaB naB=>#[Z,x,CW,dx,Z,(by rw[ai (aq w5.ins naB)];exact w5.ins),CT.cl,CT.nB,L8 w5.len (by show 5+1<1000;decide),?_]]
   have w6:=w5.put (o:=.lst []) "beside_bits" naB
   generalize upd (upd G5 aB (.lst [])) x (.ins CW dx (bE "beside_bits" (V.ref aB) f5))=G6 at w6 ⊢
   generalize hf6:bE "beside_bits" (V.ref aB) f5=f6 at w6 ⊢
   apply#[LA _,λaT naT=>#[Z,x,CW,dx,Z,(by rw[ai (aq w6.ins naT)];exact w6.ins),CT.cl,CT.nT,L8 w6.len (by show 6+1<1000;decide),?_]]
   have w7:=w6.put (o:=.lst []) "taker_bits" naT
   generalize upd (upd G6 aT (.lst [])) x (.ins CW dx (bE "taker_bits" (V.ref aT) f6))=G7 at w7 ⊢
   generalize hf7:bE "taker_bits" (V.ref aT) f6=f7 at w7 ⊢
   have N7:cB C G7 p ms st:=N.Iq hx w7.old
   obtain⟨dn,bP,bS,bT,bG,kT,kG,h1,_⟩:=N7.at'.ob
   apply#[Z,p,dn,Z,h1,dc _ _ _ _ Fv Fp Fy FE,p,ms,st,rfl,N7,λG8 q s8 nq hq=>?_]
   have w8:=w7.same s8
   have so:=N.so
   have lp:=so.pl
   apply#[q,rfl,#[_,aH.of hq],λz D hD=>cv (a:=q) (xs:=aE (dv ms st)) (λj ys H10=>∃qs:List Addr,ys=qs.map V.ref/\H10 D=some (.lst ys)/\au G8 H10/\kj H10 (((dv ms st).take j).map λx=>(x,V.int 0)) qs/\qs.length=j) #[[],rfl,ae,ao hD,.nil,rfl] (λj ys H10 _ #[_,_,_,s10,_]=>aH.of (s10 _ _ hq)) ?_ ?_]
   ·rintro j v ys H10 hj ⟨qs,rfl,hys,s10,pq,lq⟩
    obtain⟨y,hy,rfl⟩:=c6 hj
    have hjl:=(Lh.mp hy).1
    apply#[Z,by show 2<=sizeLine;lia,λt nt=>?_]
    obtain⟨H11,eU,s11,ht⟩:=fL nt (.tup [.str y,.int 0])
    rw[eU]
    have hys':=s11 _ _ hys
    apply#[hys',by rw[K4];lia,qs++[t],by rw[Ll];rfl,ae,aJ (s10.trans s11) hD,?_,by rw[K5,lq];rfl]
    rw[ay hy,Ll]
    apply ML (Paired.cc pq λa b e=>?_) ?_
    ·rw[ai (aX (s11 _ _ e) hys' (λz=>nomatch z))]
     exact s11 _ _ e
    ·show(upd H11 D _) t=some (.tup [.str y,.int 0])
     rw[ai (aX ht hys' (λz=>nomatch z))]
     exact ht
   ·rintro ys H10 ⟨qs,rfl,hys,s10,pq,lq⟩
    rw[ar,LH]at pq
    have w9:=w8.same s10
    apply#[D,qs,Z,hys,pq,by rw[K4];lia,?_,λaP naP=>?_]
    ·rw[LY]
     show((dv ms st).map id).Nodup
     rw[Qc]
     exact rR ms st
    have ek:keyed ((dv ms st).map λx=>(x,V.int 0))=lB (W0 ms st).pl:=by
     unfold keyed lB W0
     rw[LY,LY]
     rfl
    rw[ek]
    apply#[Z,x,CW,dx,Z,(by rw[ai (aq w9.ins naP)];exact w9.ins),CT.cl,CT.nP,L8 w9.len (by show 7+1<1000;decide),?_]
    have w10:=w9.put (o:=.dK (lB (W0 ms st).pl)) "place_bits" naP
    have ef:bE "place_bits" (V.ref aP) f7=xp p aS aO aN aW aG aB aT aP:=by rw[<-hf7,<-hf6,<-hf5,<-hf4,<-hf3,<-hf2,<-hf1,<-hf0];rfl
    rw[ef]at w10
    rw[ef]
    generalize upd (upd H10 aP (.dK (lB (W0 ms st).pl))) x (.ins CW dx (xp p aS aO aN aW aG aB aT aP))=G9 at w10 ⊢
    have N9:cB C G9 p ms st:=N.Iq hx w10.old
    obtain⟨dn,bP,bS,bT,bG,kT,kG,h1,_⟩:=N9.at'.ob
    have nd:=w10.nd
    have nd:[aP,aT,aB,aG,aW,aN,aO,aS].Nodup:=nd
    have nd2:=nd
    simp only[Mo,Lc,LR,Mt,Pg]at nd2
    obtain⟨⟨a1,a2,a3,a4,a5,a6,a7⟩,⟨t1,t2,t3,t4,t5,t6⟩,⟨c1,c2,c3,c4,c5⟩,⟨g1,g2,g3,g4⟩,⟨k1,k2,k3⟩,⟨l1,l2⟩,m1,_⟩:=nd2
    have eP:G9 aP=some (.dK (lB (W0 ms st).pl)):=w10.here (aP,_) (by simp)
    have eT:G9 aT=some (.lst []):=w10.here (aT,_) (by simp)
    have eB:G9 aB=some (.lst []):=w10.here (aB,_) (by simp)
    have eG:G9 aG=some (.lst []):=w10.here (aG,_) (by simp)
    have eW:G9 aW=some (.lst []):=w10.here (aW,_) (by simp)
    have eN:G9 aN=some (.dK []):=w10.here (aN,_) (by simp)
    have eO:G9 aO=some (.lst []):=w10.here (aO,_) (by simp)
    have eS:G9 aS=some (.lst []):=w10.here (aS,_) (by simp)
    apply#[Z,x,dx,Z,w10.ins,GQ _ _ _ _ _ _ _ _ _,Z,p,dn,Z,h1,dc _ _ _ _ x9 xt xK yv,p,ms,st,rfl,N9,λsa hsa=>?_]
    apply#[x,dx,sa,aS,aT,aB,aP,_,W0 ms st,none,0,aL st,rfl,nQ _ _ _ _ _ _ _ _ _,LO t6,LO c5,t1,#[w10.ins,#[[],eS,.nil],eT,eB,eP],hsa,?_,?_,λH' hA' but'=>?_]
    ·simp only[Lc,LR,Mt,Pg]
     exact#[aX hsa eS (λz=>nomatch z),aX hsa eT (λz=>nomatch z),aX hsa eB (λz=>nomatch z),aX hsa eP (λz=>nomatch z)]
    ·apply⟨rfl,rfl,by show 0<2 ^ 0;decide,?_,λy hy=>?_,?_,?_⟩
     ·show 0+(aL st).length<=250
      rw[cP]
      have:=so.Hz
      lia
     ·show y∈((dv ms st).map λx=>(x,0)).map (·.1)
      rw[LY]
      exact LQ.mpr #[y,B9 (cQ.mp hy),rfl]
     ·show(((dv ms st).map λx=>(x,0)).map (·.1)).Nodup
      rw[LY]
      show((dv ms st).map id).Nodup
      rw[Qc]
      exact rR ms st
     ·show((dv ms st).map λx=>(x,0)).length<=12
      rw[K4]
      exact lp
    ·have keep:∀c o,G9 c=some o->c≠aS->c≠aT->c≠aB->c≠aP->H' c=some o:=λc o e q1 q2 q3 q4=>but' c o e (by simp only[Lc,LR,Mt,Pg];exact⟨q1,q2,q3,q4⟩)
     apply kk H' #[dx,aS,aO,aN,aW,aG,aB,aT,aP,hA',keep _ _ eO m1 (LO t5) (LO c4) (LO a6),keep _ _ eN l2 (LO t4) (LO c3) (LO a5),keep _ _ eW k3 (LO t3) (LO c2) (LO a4),keep _ _ eG g4 (LO t2) (LO c1) (LO a3),nd,WI.uW w10] λc o e n=>?_
     have fr:∀a o,(a,o)∈_->c≠a:=λa o ha z=>by
      have:=w10.fr (a,o) ha
      rw[z]at e
      rw[this]at e
      cases e
     apply keep c o (w10.old c o e n) (fr aS (.lst []) (by simp)) (fr aT (.lst []) (by simp)) (fr aB (.lst []) (by simp)) (fr aP (.dK (lB (W0 ms st).pl)) (by simp))
end Uf
namespace UfStr
open PySem PySem.Builtin PySem.Builtin.Str PySem.StrLaws
def mQ{x y:PySem.Str}(h:x.cps.toList=y.cps.toList):x=y:=by
 cases x with
 |mk a =>
  cases y with
  |mk b =>
   have:a=b:=Array.toList_inj.mp h
   rw[this]
def kU(x y:PySem.Str):(x++y).cps.toList=x.cps.toList++y.cps.toList:=by
 show(x.cps++y.cps).toList=_
 simp
def fm(x:PySem.Str):x.length=x.cps.toList.length:=by simp[PySem.Str.length]
end UfStr
namespace L2
open PySem PySem.Spec PyProof.Rows UfSrt
section
variable {X:Cx}
end
section
variable {X:Cx}
def Df:gW X (binaryOp .Mult) (λx y H Q=>∃(z:Str) (n:Int),x=.str z/\y=.int n/\1<=n/\n<=8/\z.length=1/\Q (.str (uR z n.toNat)) H):=by
 intro pins s σ H x y v u Q I rx ry h
 obtain⟨z,n,rfl,rfl,hn,hn2,hz,q⟩:=h
 obtain⟨t,rfl⟩:=rx
 obtain⟨t',rfl⟩:=ry
 have hsl:=L7
 have h3:n=1\/n=2\/n=3\/n=4\/n=5\/n=6\/n=7\/n=8:=by lia
 have e2:z.cps.size=1:=hz
 apply PySem.P.mul_str (by rw[Lq (by lia),Lq (by lia)];rfl) (λh1 _=>?_) (λh1 _=>?_) ?_
 ·rw[hz]
  rcases h3 with rfl|rfl|rfl|rfl|rfl|rfl|rfl|rfl <;> decide
 ·rw[hz]
  rcases h3 with rfl|rfl|rfl|rfl|rfl|rfl|rfl|rfl <;> decide
 ·by_cases h1:n=1
  ·subst h1
   rw[Le (by decide),Ls (by rfl)]
   apply#[.str (uR z 1),H,I,#[t,?_],q]
   rw[Bq]
  ·have e:((n:Int)==1 || z.length==0)=false:=by
    rw[hz]
    have:(n==1)=false:=MA.mpr h1
    rw[this]
    rfl
   rw[Le (by lia),Le (by rw[e];exact LI)]
   apply#[?_,.str (uR z n.toNat),H,I.tok _,#[_,rfl],q]
   rcases h3 with rfl|rfl|rfl|rfl|rfl|rfl|rfl|rfl <;>
   ·show((List.replicate _ z.cps).foldl (· ++ ·) #[]).size<=_
    simp[List.replicate,List.foldl,e2]
    lia
end
end L2
namespace Uf
open PySem L2 UfSrt UfStr PySem.Builtin PySem.Builtin.Str PySem.StrLaws
abbrev HE:Stmt:=top 41
abbrev xq:Stmt:=top 43
def p8(x:PySem.Str){a b:Nat}(hab:a<=b)(hb:b<=x.length):Txt.slice x (some (a:Int)) (some (b:Int))=strSub x a b:=by
 apply UfStr.mQ ?_
 rw[strSub_toList]
 have:=sliceText_nat x hab hb
 rw[show Txt.slice x (some (a:Int)) (some (b:Int))=sliceText x (some (a:Int)) (some (b:Int)) from rfl,this]
def ux(x:PySem.Str){b:Nat}(hb:b<=x.length):(Txt.slice x none (some (b:Int))).cps.toList=x.cps.toList.take b:=by
 have:Txt.slice x none (some (b:Int))=strSub x 0 b:=by
  rw[<-p8 x (LA b) hb]
  unfold Txt.slice
  rw[sliceIdx_none_lo]
  rfl
 rw[this,strSub_toList,OB,QA]
def Bn(x:PySem.Str){a:Nat}(ha:a<=x.length):(Txt.slice x (some (a:Int)) none).cps.toList=x.cps.toList.drop a:=by
 have:Txt.slice x (some (a:Int)) none=strSub x a x.length:=by
  rw[<-p8 x ha (La _)]
  unfold Txt.slice
  rw[sliceIdx_none_hi]
 rw[this,strSub_toList]
 apply MN ?_
 rw[Mp,UfStr.fm]
 lia
theorem foldl_rep(c:Nat):∀(n:Nat) (acc:Array Nat),((List.replicate n (List.toArray [c])).foldl (· ++ ·) acc).toList=acc.toList++List.replicate n c
 |0,acc=>by simp
 |n+1,acc=>by
  rw[Oh,MP,foldl_rep c n,Oh]
  simp
def vB(c n:Nat):(uR (#[(List.toArray [c])]:PySem.Str) n).cps.toList=List.replicate n c:=by
 unfold uR
 rw[foldl_rep]
 rfl
def steps:List Int:=[1,3,5,7,9,11,15,17,19,21,23,25]
def nY:List Nat:=[109,110,111,112,113,114,115]
def AV(k:Nat)(seed:Int):List Nat :=
 let one:=97+((seed / 36+steps.getD (seed / 3 % 12).toNat 0*k) % 26).toNat
 if seed % 3=0 then [one]
 else if seed % 3=1 then
  let stem:=nY.take (seed / 36 % 8).toNat
  let AH:=(seed / 288 % ((stem.length:Int)+1)).toNat
  stem.take AH++one::stem.drop AH
 else List.replicate (1+(seed / 36+5*k) % 12 % 8).toNat (97+((seed / 36+5*k) % 12 / 8).toNat)
def gC(k:Nat)(seed:Int):PySem.Str:=#[(AV k seed).toArray]
def gy(k:Nat)(seed:Int):(gC k seed).cps.toList=AV k seed:=by unfold gC;simp
def E2{seed:Int}:steps.getD (seed / 3 % 12).toNat 0∈steps:=by
 have h:(seed / 3 % 12).toNat<12:=by lia
 rw[Lb,K7 (show _<steps.length from h)]
 exact Oa _
def F5(k:Nat)(seed:Int):1<=(AV k seed).length/\(AV k seed).length<=8/\∀c∈AV k seed,97<=c/\c<=122:=by
 have hst:∀c∈nY,97<=c/\c<=122:=by decide
 unfold AV
 dsimp only
 by_cases h0:seed % 3=0
 ·rw[Ls h0]
  apply#[by simp,by simp,λc hc=>?_]
  have:=LZ.mp hc
  lia
 ·rw[Le h0]
  by_cases h1:seed % 3=1
  ·rw[Ls h1]
   have l7:(nY.take (seed / 36 % 8).toNat).length<=7:=by rw[Lf];show min _ 7<=7;lia
   generalize hS:nY.take (seed / 36 % 8).toNat=S at l7
   generalize (seed / 288 % ((S.length:Int)+1)).toNat=sp
   have lt:(S.take sp++S.drop sp).length=S.length:=by rw[Nr]
   rw[K5]at lt
   apply#[by rw[K5,LN];lia,by rw[K5,LN];lia,λc hc=>?_]
   have inS:∀c∈S,97<=c/\c<=122:=λc hc=>hst c (by rw[<-hS]at hc;exact Mm hc)
   rcases K9.mp hc with hc|hc
   ·exact inS c (Mm hc)
   ·rcases Lc.mp hc with rfl|hc
    ·lia
    ·exact inS c (Qn hc)
  ·rw[Le h1]
   rw[MQ]
   apply#[by lia,by lia,λc hc=>?_]
   have:=List.eq_of_mem_replicate hc
   lia
def Dv:∀k<26,97+k∈Fd.cps.toList:=by decide +kernel
def xM(k:Nat)(seed:Int):isNm (gC k seed)=true:=by
 obtain⟨h1,h2,h3⟩:=F5 k seed
 unfold isNm
 rw[gy,show(gC k seed).length=(AV k seed).length by rw[UfStr.fm,gy],Lk h1,Lk h2,Nt,Nt]
 apply Mz.mpr λc hc=>Lk ?_
 obtain⟨a,b⟩:=h3 c hc
 have:=Dv (c-97) (by lia)
 rw[show 97+(c-97)=c by lia]at this
 exact this
structure Txt2(mg:PySem.Str->Option Value):Prop where
 rng:mg "range"=none
 enm:mg "enumerate"=none
 any:mg "any"=none
def mN{α:Type}{xs:List α}{i:Int}(d:α)(h0:0<=i)(h1:i<xs.length):zW xs i=some (xs.getD i.toNat d):=by
 unfold zW zZ
 rw[Ls h0,Ls h1]
 show xs[i.toNat]?=_
 have h2:i.toNat<xs.length:=by lia
 rw[K7 h2,Lb,K7 h2]
 rfl
def getD_map{α β:Type}(f:α->β)(xs:List α)(i:Nat)(d:α):(xs.map f).getD i (f d)=f (xs.getD i d):=by
 rw[Lb,LD,Lb]
 cases xs[i]? <;> rfl
def xc{xs:List PySem.Str}{i:Int}(h0:0<=i)(h1:i<xs.length):zW (aE xs) i=some (.str (xs.getD i.toNat "")):=by
 rw[mN (V.str "") h0 (by rw[ar];exact h1)]
 unfold aE
 rw[getD_map V.str]
def nF{xs:List Int}{i:Int}(h0:0<=i)(h1:i<xs.length):zW (xs.map V.int) i=some (.int (xs.getD i.toNat 0)):=by
 rw[mN (V.int 0) h0 (by rw[K4];exact h1),getD_map V.int]
def wc(K:PySem.W.Frag):Sp:=λvs H Q _=>∃(a:Addr) (ns:List Int) (k:Nat),vs=[.ref a,.int k]/\aH K H a (ns.map V.int)/\ns.length<=63/\Q (.int (ns.getD k 0)) H
def Gd:aF ["_law_script","_law_k"] ["_law_script","_law_k"] (av HE):=ff
def Ek{f:Addr}{fd:FuncData}(F:dN K "_law_at" "_law_at" HE f fd)(T:Txt K mg):bf P w K mg base cZ 1 f fd ["_law_script","_law_k"] (wc K):=by
 apply F.oK Gd λcdv A outer s H vs Q E hr h=>?_
 ·obtain⟨a,ns,k,rfl,ha,hz,kk⟩:=h
  apply#[_,ag (bK (aY uk (pv 1) (aA bB rfl T.len cY (aa (pv 0) af)) (bp _)) (ak (aK (aQ aI (pv 0) (pv 1) (λ_ _=>rfl)))) aM)
   (ak (aK aj)),?_]
  ac_rfl
  apply#[Z,Z,_,ns.length,rfl,.inl #[_,ha,by rw[K4]],_,Z,rfl,Z,?_]
  by_cases h:k<ns.length
  ·rw[Lk (show((k:Nat):Int)<((ns.length:Nat):Int) by lia)]
   apply cy ?_
   apply#[Z,Z,a,_,_,Z,rfl,ha,nF (by lia) (by lia),?_]
   exact kk
  ·rw[Lq (show ¬((k:Nat):Int)<((ns.length:Nat):Int) by lia)]
   apply bz ?_
   have e:ns.getD k 0=0:=by rw[Lb,Ma (by lia)];rfl
   rw[e]at kk
   exact kk
def CA:Sp:=λvs H Q _=>∃(k:Nat) (seed:Int),vs=[.int k,.int seed]/\k<12/\∀H',au H H'->Q (.str (gC k seed)) H'
def jC:aF ["_law_k","_law_seed","_law_letters","_law_step_here","_law_one","_law_stem","_law_spot","_law_turn"] ["_law_k","_law_seed"] (av xq):=ff
def Dm:("abcdefghijklmnopqrstuvwxyz":PySem.Str).cps.toList.length=26:=by decide +kernel
def Ec:∀i<26,("abcdefghijklmnopqrstuvwxyz":PySem.Str).cps.toList.getD i 0=97+i:=by decide +kernel
def yK:("mnopqrs":PySem.Str).cps.toList=nY:=by decide +kernel
def tM:("ab":PySem.Str).cps.toList=[97,98]:=by decide +kernel
structure uZ(X:Cx)(ss:List Stmt)(t:TS):Prop where
 h:uV X ss t
def oJ{X:Cx}{st:Stmt}{t u:TS}{rest:List Stmt}(h1:PS X st t)(h2:uZ X rest u):uZ X (st::rest) (uK t u):=#[ag h1 h2.h]
def IK{X:Cx}{st:Stmt}{t:TS}(h1:PS X st t):uZ X [st] t:=#[ak h1]
structure Jm(X:Cx)(es:List Expr)(t:TA):Prop where
 h:PA X es t
def mj{X:Cx}{n:_}{k p}{es:List Expr}{u:TA}(h2:Jm X es u):Jm X (.Constant (.int n) k p::es) (FF (tC (.int n)) u):=#[aa aj h2.h rfl]
def Kw{X:Cx}:Jm X [] tH:=#[af]
structure Jp(X:Cx)(e:Expr)(t:TE):Prop where
 h:PE X e t
def Km{X:Cx}{es:List Expr}{t:TA}{pos}(h:Jm X es t):Jp X (.List es pos) (Gv t):=#[bu h.h]
def bix{X:Cx}{a b:Expr}{ta tb:TE}{pos}{r:R2}(hr:Iv X r)(ha:Jp X a ta)(hb:PE X b tb)(hs:xj b):Jp X (.Subscript a b pos) (HS r ta tb):=#[aQ hr ha.h hb hs]
structure Kc(X:Cx)(s:Stmt)(t:TS):Prop where
 h:PS X s t
def Jt{X:Cx}{pos:Pos}{i:Nat}{x:PySem.Str}{a b:Expr}{te:TE}{pos':Pos}{p2}(hN:X.N.Nodup)(hi:X.N[i]?=some x)(hx:Loc X.env.scope x)(he:Jp X (.Subscript a b p2) te)(hs:swapsWith (.Subscript a b p2) (some (.Name x pos')) pos.line X.env=pure false)(hf:X.fn x=true\/X.env.scope.names.lookup x=some .local):Kc X (.Assign [.Name x pos'] (.Subscript a b p2) pos) (zS te (fi i)):=#[vA hN hi hx he.h hs hf]
def Ca{X:Cx}{st:Stmt}{t u:TS}{rest:List Stmt}(h1:Kc X st t)(h2:uZ X rest u):uZ X (st::rest) (uK t u):=#[ag h1.h h2.h]
def EG{f:Addr}{fd:FuncData}(F:dN K "_law_name" "_law_name" xq f fd)(T:Txt K mg):bf P w K mg base cZ 1 f fd ["_law_k","_law_seed"] CA:=by
 apply F.oK jC λcdv A outer s H vs Q E hr h=>?_
 ·obtain⟨k,seed,rfl,hk,kk⟩:=h
  have hsl:=LG
  apply#[_,uZ.h (oJ (cM 2 jC bX)
   (Ca (Jt (i:=3) jC.nd rfl (Or.inl rfl) (bix aI (Km (mj (mj (mj (mj (mj (mj (mj (mj (mj (mj (mj (mj Kw))))))))))))) (aw bH (aw bU (pv 1) aj) aj) (λ_ _=>rfl)) rfl (.inl rfl))
   (oJ (cM 4 jC (aQ Co (pv 2) (aw bH (aw eE (aw bU (pv 1) aj) (aw oI (pv 3) (pv 0))) aj) (λ_ _=>rfl)))
   (oJ (bK (aY fJ (aw bH (pv 1) aj) aj (bp _)) (ak (aK (pv 4))) aM)
   (oJ (bK (aY fJ (aw bH (pv 1) aj) aj (bp _)) (ag (cM 5 jC (bY wK bX cU (bV (aw bH (aw bU (pv 1) aj) aj))))
    (ag (cM 6 jC (aw bH (aw bU (pv 1) aj) (aw eE (aA bB rfl T.len cY (aa (pv 5) af)) aj)))
    (ak (aK (aw mX (aw mX (bY wK (pv 5) cU (bV (pv 6))) (pv 4)) (bY wK (pv 5) (bV (pv 6)) cU)))))) aM)
   (oJ (cM 7 jC (aw bH (aw eE (aw bU (pv 1) aj) (aw oI aj (pv 0))) aj))
   (IK (aK (aw Df (aQ Co bX (aw bU (pv 7) aj) (λ_ _=>rfl)) (aw eE aj (aw bH (pv 7) aj))))))))))),?_]
  apply#[by show 12<=sizeLine;lia,λr nr=>?_]
  have s1:au H (upd H r (.lst (steps.map V.int))):=ao nr
  have h1:(upd H r (.lst (steps.map V.int))) r=some (.lst (steps.map V.int)):=ae
  apply#[Z,_,Z,rfl,#[by decide,by decide],_,Z,rfl,(by show(0:Int)<12;decide),r,_,_,Z,rfl,aH.of h1,nF (Mc _ (by decide)) (L9 _ (by decide)),?_]
  have i0:(0:Int)<=(seed / 36+steps.getD (seed / 3 % 12).toNat 0*(k:Int)) % 26:=Mc _ (by decide)
  have i1:(seed / 36+steps.getD (seed / 3 % 12).toNat 0*(k:Int)) % 26<26:=L9 _ (by decide)
  apply#[Z,Z,_,Z,rfl,#[by decide,by decide],Z,Z,_,Z,rfl,.inr #[by lia,by lia],_,Z,rfl,_,Z,rfl,(by show(0:Int)<26;decide),_,_,Z,rfl,(by show 26<=sizeLine;lia),mN 0 i0 (by rw[Dm];exact i1),?_]
  rw[Ec _ (by lia)]
  have e0:=gy k seed
  unfold AV at e0
  dsimp only at e0
  generalize hone:97+((seed / 36+steps.getD (seed / 3 % 12).toNat 0*(k:Int)) % 26).toNat=one at e0 ⊢
  apply#[Z,_,Z,rfl,(by show(0:Int)<3;decide),rfl,Z,?_]
  by_cases c0:seed % 3=0
  ·rw[Lk (show V.int (seed % 3)=V.int 0 by rw[c0])]
   apply cy ?_
   apply#[Z,?_]
   rw[Ls c0]at e0
   have e:(#[(List.toArray [one])]:PySem.Str)=gC k seed:=UfStr.mQ e0.symm
   rw[e]
   exact kk _ s1
  rw[Lq (show ¬V.int (seed % 3)=V.int 0 by simp[c0])]
  apply bz ?_
  rw[Le c0]at e0
  apply#[Z,_,Z,rfl,(by show(0:Int)<3;decide),rfl,Z,?_]
  by_cases c1:seed % 3=1
  ·rw[Lk (show V.int (seed % 3)=V.int 1 by rw[c1])]
   apply cy ?_
   rw[Ls c1]at e0
   obtain⟨n,en⟩:=Mw (show(0:Int)<=seed / 36 % 8 from Mc _ (by decide))
   have n8:n<8:=by have:seed / 36 % 8<8:=L9 _ (by decide);lia
   apply#[Z,_,Z,rfl,#[by decide,by decide],_,Z,rfl,(by show(0:Int)<8;decide),Z,Z,(by show 7<=sizeLine;lia),?_]
   have sc:(Txt.slice ("mnopqrs":PySem.Str) none (some (seed / 36 % 8))).cps.toList=nY.take n:=by rw[en,ux _ (by show n<=7;lia),yK]
   rw[en,LW]at e0
   generalize Txt.slice ("mnopqrs":PySem.Str) none (some (seed / 36 % 8))=stem at sc ⊢
   have ls:stem.length=(nY.take n).length:=by rw[UfStr.fm,sc]
   have l7:stem.length<=7:=by rw[ls,Lf];show min _ 7<=7;lia
   rw[<-ls]at e0
   apply#[Z,_,Z,rfl,#[by decide,by decide],Z,_,stem.length,rfl,#[by lia,rfl],_,Z,rfl,_,Z,rfl,(by lia),?_]
   obtain⟨m,em⟩:=Mw (show(0:Int)<=seed / 288 % ((stem.length:Int)+1) from Mc _ (by lia))
   have hm:m<=stem.length:=by have:seed / 288 % ((stem.length:Int)+1)<(stem.length:Int)+1:=L9 _ (by lia);lia
   rw[em,LW]at e0
   dsimp only[fi]
   rw[em]
   have a1:=ux stem hm
   have a2:=Bn stem hm
   apply#[Z,Z,Z,Z,by lia,Z,_,Z,rfl,?_,Z,Z,Z,Z,by lia,_,Z,rfl,?_,?_]
   ·rw[UfStr.fm,a1,Lf]
    show _+1<=sizeLine
    lia
   ·rw[UfStr.fm,UfStr.fm,UfStr.kU,a1,a2,K5,Lf,Mp,<-UfStr.fm]
    show _+1+_<=sizeLine
    lia
   have e:(Txt.slice stem none (some (m:Int))++(#[(List.toArray [one])]:PySem.Str))++Txt.slice stem (some (m:Int)) none=gC k seed:=by
    apply UfStr.mQ ?_
    rw[e0,UfStr.kU,UfStr.kU,a1,a2,sc,Mr]
    rfl
   rw[e]
   exact kk _ s1
  rw[Lq (show ¬V.int (seed % 3)=V.int 1 by simp[c1])]
  apply bz ?_
  rw[Le c1]at e0
  apply#[Z,_,Z,rfl,#[by decide,by decide],Z,_,Z,rfl,.inl #[by decide,by decide],_,Z,rfl,_,Z,rfl,(by show(0:Int)<12;decide),?_]
  have t0:(0:Int)<=(seed / 36+5*(k:Int)) % 12:=Mc _ (by decide)
  have t1:(seed / 36+5*(k:Int)) % 12<12:=L9 _ (by decide)
  dsimp only[fi]
  generalize (seed / 36+5*(k:Int)) % 12=tu at t0 t1 e0 ⊢
  apply#[Z,_,Z,rfl,#[by decide,by decide],_,_,Z,rfl,(by show 2<=sizeLine;lia),mN 0 (show(0:Int)<=tu / 8 by lia) (by rw[tM];show tu / 8<2;lia),Z,_,Z,rfl,(by show(0:Int)<8;decide),_,Z,rfl,_,Z,rfl,by lia,by lia,rfl,?_]
  have eg:("ab":PySem.Str).cps.toList.getD (tu / 8).toNat 0=97+(tu / 8).toNat:=by
   rw[tM]
   have:(tu / 8).toNat=0\/(tu / 8).toNat=1:=by lia
   rcases this with h|h <;> rw[h] <;> rfl
  rw[eg]
  have e:uR (#[(List.toArray [97+(tu / 8).toNat])]:PySem.Str) (1+tu % 8).toNat=gC k seed:=by
   apply UfStr.mQ ?_
   rw[vB,e0]
  rw[e]
  exact kk _ s1
abbrev qS:Stmt:=top 48
def rZ{t u:TS}{D:Ends}{σ:St}{H:Hp}(Mid:St->Hp->Prop)(h2:∀σ1 H1,Mid σ1 H1->u D σ1 H1)(h1:∀N:St->Hp->Prop,(∀σ1 H1,Mid σ1 H1->N σ1 H1)->t { D with nx:=N } σ H):uK t u D σ H:=h1 (u D) h2
def tF(xs:List PySem.Str)(k:Nat):dR (aE xs) none (some ((k:Nat):Int))=aE (xs.take k):=by
 unfold dR
 rw[HT.oh,HT.ig,OB,QA,<-List.take_eq_take_min]
 unfold aE
 rw[Nf]
def kF(xs:List PySem.Str)(x:PySem.Str):aE xs++[V.str x]=aE (xs++[x]):=by unfold aE;rw[List.map_append];rfl
structure gA(L T G:List PySem.Str):Prop where
 tn:T.Nodup
 gn:G.Nodup
 t1:1<=T.length
 t4:T.length<=4
 g4:G.length<=4
 ti:∀x∈T,x∈L
 gi:∀x∈G,x∈L
structure Sub(M T:List PySem.Str):Prop where
 nd:T.Nodup
 inn:∀x∈T,x∈M
def Sub.skip{L T:List PySem.Str}{i:Nat}(h:Sub (L.take i) T):Sub (L.take (i+1)) T:=#[h.nd,λx hx=>List.take_subset_take_left L (Mq i) (h.inn x hx)]
def Sub.add{L T:List PySem.Str}{i:Nat}{z:PySem.Str}(hL:L.Nodup)(h:Sub (L.take i) T)(hz:L[i]?=some z):Sub (L.take (i+1)) (T++[z]):=by
 have e:=ay hz
 have hn:(L.take (i+1)).Nodup:=hL.sublist (Nu _ _)
 rw[e]at hn ⊢
 obtain⟨_,_,h3⟩:=L1.mp hn
 apply#[L1.mpr #[h.nd,by simp,λa ha b hb=>?_],λx hx=>?_]
 ·exact h3 a (h.inn a ha) b hb
 ·rcases K9.mp hx with hx|hx
  ·exact Lj _ (h.inn x hx)
  ·exact Lp _ hx
def Sub.len{M T:List PySem.Str}(h:Sub M T):T.length<=M.length:=UfFin.dZ h.nd h.inn
def x6(K:PySem.W.Frag):Sp:=λvs H Q _=>∃(c:Int) (b:Addr) (L:List PySem.Str),vs=[.int c,.ref b]/\aH K H b (aE L)/\L.Nodup/\1<=L.length/\L.length<=12 /\
 ∀H' t l g T G,au H H'->H t=none->H l=none->H g=none->H' t=some (.tup [.ref l,.ref g])->H' l=some (.lst (aE T))->H' g=some (.lst (aE G))->gA L T G->Q (.ref t) H'
def jc:aF ["_law_cell","_law_names","_law_digits","_law_takes","_law_gives","_law_name_here"] ["_law_cell","_law_names"] (av qS):=ff
inductive JR(H:Hp)(c:Int)(b tk gk:Addr)(L:List PySem.Str)(i:Nat)(σ:St)(H2:Hp):Prop
 |mk (dg:Int) (T G:List PySem.Str) (v5:Option V) (q0:σ=[some (.int c),some (.ref b),some (.int dg),some (.ref tk),some (.ref gk),v5]) (q1:au H H2) (q2:H2 tk=some (.lst (aE T))) (q3:H2 gk=some (.lst (aE G))) (q4:Sub (L.take i) T) (q5:Sub (L.take i) G)
def JR.same{H:Hp}{c:Int}{b tk gk:Addr}{L:List PySem.Str}{i:Nat}{σ:St}{H2:Hp}(h:JR H c b tk gk L i σ H2):au H H2:=by
 cases h
 assumption
inductive LsT(H:Hp)(c dg:Int)(b tk gk:Addr)(z:PySem.Str)(M G:List PySem.Str)(σ:St)(H2:Hp):Prop
 |mk (T:List PySem.Str) (q0:σ=[some (.int c),some (.ref b),some (.int dg),some (.ref tk),some (.ref gk),some (.str z)]) (q1:au H H2) (q2:H2 tk=some (.lst (aE T))) (q3:H2 gk=some (.lst (aE G))) (q4:Sub M T)
inductive LsG(H:Hp)(c dg:Int)(b tk gk:Addr)(z:PySem.Str)(M T:List PySem.Str)(σ:St)(H2:Hp):Prop
 |mk (G:List PySem.Str) (q0:σ=[some (.int c),some (.ref b),some (.int dg),some (.ref tk),some (.ref gk),some (.str z)]) (q1:au H H2) (q2:H2 tk=some (.lst (aE T))) (q3:H2 gk=some (.lst (aE G))) (q4:Sub M G)
inductive LsE(H:Hp)(c dg:Int)(b tk gk:Addr)(v5:Option V)(L G:List PySem.Str)(σ:St)(H2:Hp):Prop
 |mk (T:List PySem.Str) (q0:σ=[some (.int c),some (.ref b),some (.int dg),some (.ref tk),some (.ref gk),v5]) (q1:au H H2) (q2:H2 tk=some (.lst (aE T))) (q3:H2 gk=some (.lst (aE G))) (q4:Sub L T) (q5:1<=T.length)
def BU{f:Addr}{fd:FuncData}(F:dN K "_law_loose_step" "_law_loose_step" qS f fd)(T0:Txt K mg):bf P w K mg base cZ 1 f fd ["_law_cell","_law_names"] (x6 K):=by
 apply F.oK jc λcdv A outer s H vs Q E hr h=>?_
 ·obtain⟨c,b,L,rfl,hb,hL,hL1,hL2,kk⟩:=h
  have hsl:=LG
  have hu0:=hr.wJ
  apply#[_,ag (cM 2 jc (aw bH (aw eE (aw oI (pv 0) aj) aj) aj))
   (ag (cM 3 jc (bu af))
   (ag (cM 4 jc (bu af))
   (ag (bO LC rfl (aZ (pv 1)) (fE 5 jc)
    (ag (bK (PW.pt (pw_or (aY fJ (aw bH (pv 2) aj) aj (bp _)) (pw_or1 (aY fJ (aw bH (pv 2) aj) aj (bp _))))) (ak (a9 (df Lr Lv Lw bb (pv 3) (aa (pv 5) af)))) aM)
    (ag (bK (PW.pt (pw_or (aY fJ (aw bH (pv 2) aj) aj (bp _)) (pw_or1 (aY fJ (aw bH (pv 2) aj) aj (bp _))))) (ak (a9 (df Lr Lv Lw bb (pv 4) (aa (pv 5) af)))) aM)
    (ak (cM 2 jc (aw bU (pv 2) aj))))))
   (ag (bK (aY eq_nil (pv 3) (bu af) (bp _)) (ak (a9 (df Lr Lv Lw bb (pv 3) (aa (aQ aI (pv 1) (aw bH (pv 2) (aA bB rfl T0.len cY (aa (pv 1) af))) (λ_ _=>rfl)) af)))) aM)
   (ak (aK (cX (aa (bY cT (pv 3) cU (bV aj)) (aa (bY cT (pv 4) cU (bV aj)) af))))))))),?_]
  ac_rfl
  apply#[Z,_,Z,rfl,.inr #[by decide,by decide],_,Z,rfl,_,Z,rfl,(by show(0:Int)<2147483647;decide),?_]
  apply#[LA _,λtk ntk=>?_]
  have s1:au H (upd H tk (.lst [])):=ao ntk
  have h1:(upd H tk (.lst [])) tk=some (.lst (aE [])):=ae
  generalize upd H tk (.lst [])=H1 at s1 h1 ⊢
  apply#[LA _,λgk ngk=>?_]
  have s2:au H1 (upd H1 gk (.lst [])):=ao ngk
  have h2:(upd H1 gk (.lst [])) gk=some (.lst (aE [])):=ae
  have ntg:tk≠gk:=aq h1 ngk
  have ngk0:H gk=none:=s1.free ngk
  have h12:=s2 _ _ h1
  have s02:=s1.trans s2
  generalize upd H1 gk (.lst [])=H2 at s2 h2 h12 s02 ⊢
  have sub0:Sub (L.take 0) []:=#[.nil,λx hx=>by simp at hx]
  apply#[Z,b,rfl,#[_,s02.seq hb],bJ (K:=K) (a:=b) (xs:=aE L) (JR H c b tk gk L) #[_,[],[],none,rfl,s02,h12,h2,sub0,sub0] (λi σ H3 _ h=>h.same.seq hb) ?_ ?_]
  ·rintro i v σ H3 hi ⟨dg,T,G,v5,rfl,s3,ht,hg,sT,sG⟩
   obtain⟨z,hz,rfl⟩:=c6 hi
   have lT:=sT.len
   have lG:=sG.len
   rw[Lf]at lT lG
   dsimp only[fi]
   apply rZ (LsT H c dg b tk gk z (L.take (i+1)) G) ?_ (λN hN=>?_)
   ·rintro σ1 H4 ⟨T',rfl,s4,ht4,hg4,sT'⟩
    apply rZ (LsG H c dg b tk gk z (L.take (i+1)) T') ?_ (λN hN=>?_)
    ·rintro σ2 H5 ⟨G',rfl,s5,ht5,hg5,sG'⟩
     apply#[Z,_,Z,rfl,#[by decide,by decide],?_]
     exact#[_,T',G',Z,s5,ht5,hg5,sT',sG']
    ·have yes:N [some (.int c),some (.ref b),some (.int dg),some (.ref tk),some (.ref gk),some (.str z)] (upd H4 gk (.lst (aE G++[V.str z]))):=hN _ _ ⟨G++[z],rfl,aJ s4 ngk0,by rw[ai ntg];exact ht4,by rw[ae,kF],sG.add hL hz⟩
     have no:N [some (.int c),some (.ref b),some (.int dg),some (.ref tk),some (.ref gk),some (.str z)] H4:=hN _ _ #[G,rfl,s4,ht4,hg4,sG.skip]
     have put:∀{R:Prop},(R=(N [some (.int c),some (.ref b),some (.int dg),some (.ref tk),some (.ref gk),some (.str z)] (upd H4 gk (.lst (aE G++[V.str z])))))->R:=λe=>by rw[e];exact yes
     apply#[Z,_,Z,rfl,(by show(0:Int)<7;decide),rfl,Z,?_]
     apply pB (λ_=>?_) (λ_=>?_)
     ·apply cy ?_
      exact#[Z,.inl #[rfl,_,aH.of hg4],Z,gk,_,Z,rfl,hg4,by rw[ar];lia,yes]
     ·apply⟨_,rfl,_,_,rfl,rfl,(by show(0:Int)<7;decide),rfl,_,rfl,?_⟩
      apply pB (λ_=>?_) (λ_=>?_)
      ·exact#[Z,.inl #[rfl,_,aH.of hg4],Z,gk,_,Z,rfl,hg4,by rw[ar];lia,yes]
      ·exact no
   ·have yes:N [some (.int c),some (.ref b),some (.int dg),some (.ref tk),some (.ref gk),some (.str z)] (upd H3 tk (.lst (aE T++[V.str z]))):=hN _ _ ⟨T++[z],rfl,aJ s3 ntk,by rw[ae,kF],by rw[ai ntg.symm];exact hg,sT.add hL hz⟩
    have no:N [some (.int c),some (.ref b),some (.int dg),some (.ref tk),some (.ref gk),some (.str z)] H3:=hN _ _ #[T,rfl,s3,ht,hg,sT.skip]
    apply#[Z,_,Z,rfl,(by show(0:Int)<7;decide),rfl,Z,?_]
    apply pB (λ_=>?_) (λ_=>?_)
    ·apply cy ?_
     exact#[Z,.inl #[rfl,_,aH.of ht],Z,tk,_,Z,rfl,ht,by rw[ar];lia,yes]
    ·apply⟨_,rfl,_,_,rfl,rfl,(by show(0:Int)<7;decide),rfl,_,rfl,?_⟩
     apply pB (λ_=>?_) (λ_=>?_)
     ·exact#[Z,.inl #[rfl,_,aH.of ht],Z,tk,_,Z,rfl,ht,by rw[ar];lia,yes]
     ·exact no
  ·rintro σ H3 ⟨dg,T,G,v5,rfl,s3,ht,hg,sT,sG⟩
   rw[ar,LH]at sT sG
   dsimp only
   apply rZ (LsE H c dg b tk gk v5 L G) ?_ (λN hN=>?_)
   ·rintro σ1 H4 ⟨T',rfl,s4,ht4,hg4,sT',lT'⟩
    apply#[Z,Z,tk,Z,aH.of ht4,λl nl=>?_]
    rw[show dR (aE T') none (some 4)=aE (T'.take 4) from tF T' 4]
    have s5:au H4 (upd H4 l (.lst (aE (T'.take 4)))):=ao nl
    have h5:(upd H4 l (.lst (aE (T'.take 4)))) l=some (.lst (aE (T'.take 4))):=ae
    have hg5:=s5 _ _ hg4
    generalize upd H4 l (.lst (aE (T'.take 4)))=H5 at s5 h5 hg5 ⊢
    apply#[Z,Z,gk,Z,aH.of hg5,λg ng=>?_]
    rw[show dR (aE G) none (some 4)=aE (G.take 4) from tF G 4]
    have s6:au H5 (upd H5 g (.lst (aE (G.take 4)))):=ao ng
    have h6:(upd H5 g (.lst (aE (G.take 4)))) g=some (.lst (aE (G.take 4))):=ae
    have h56:=s6 _ _ h5
    generalize upd H5 g (.lst (aE (G.take 4)))=H6 at s6 h6 h56 ⊢
    apply#[by show 2<=sizeLine;lia,λt nt=>?_]
    have s7:au H6 (upd H6 t (.tup [.ref l,.ref g])):=ao nt
    apply kk _ t l g (T'.take 4) (G.take 4) (s4.trans (s5.trans (s6.trans s7))) ((s4.trans (s5.trans s6)).free nt) (s4.free nl) ((s4.trans s5).free ng) ae (s7 _ _ h56) (s7 _ _ h6) #[sT'.nd.sublist (Nu _ _),sG.nd.sublist (Nu _ _),by rw[Lf];lia,by rw[Lf];lia,by rw[Lf];lia,λx hx=>sT'.inn x (Mm hx),λx hx=>sG.inn x (Mm hx)]
   ·apply⟨_,rfl,LA _,λe ne=>?_⟩
    have s4:au H3 (upd H3 e (.lst [])):=ao ne
    have h4:(upd H3 e (.lst [])) e=some (.lst []):=ae
    have ht4:=s4 _ _ ht
    have hg4:=s4 _ _ hg
    have s04:=s3.trans s4
    generalize upd H3 e (.lst [])=H4 at s4 h4 ht4 hg4 s04 ⊢
    apply#[tk,e,Z,rfl,hu0,aH.of ht4,aH.of h4,Z,?_]
    cases T with
    |nil =>
     apply cy ?_
     have i0:(0:Int)<=dg % (L.length:Int):=Mc _ (by lia)
     have i1:dg % (L.length:Int)<(L.length:Int):=L9 _ (by lia)
     apply#[Z,.inl #[rfl,_,aH.of ht4],Z,Z,Z,_,L.length,rfl,.inl #[_,s04.seq hb,(ar L).symm],_,Z,rfl,(by lia),b,_,_,Z,rfl,s04.seq hb,xc i0 i1,tk,_,Z,rfl,ht4,by show 0<sizeLine;lia,?_]
     have hlt:(dg % (L.length:Int)).toNat<L.length:=by lia
     apply hN _ _ #[[L.getD (dg % (L.length:Int)).toNat ""],rfl,aJ s04 ntk,ae,by rw[ai ntg.symm];exact hg4,#[by simp,λx hx=>?_],by simp]
     rw[LZ.mp hx,Lb,K7 hlt]
     exact Oa _
    |cons a T =>
     apply bz ?_
     exact hN _ _ #[a::T,rfl,s04,ht4,hg4,sT,by simp]
end Uf
namespace L2
open PySem PySem.Spec PyProof.Rows UfSrt
section
variable {K:PySem.W.Frag}{n:Nat}{ci:List Nat}{g:TG}{tt:TT}{te:TE}{σ:St}{H:Hp}{D:Addr}{Q:VK}
def nj{lo:Int}{m:Nat}(Pv:Nat->List V->Hp->Prop)(h0:Pv 0 [] (upd H D (.lst [])))
  (hs:∀i ys H,i<m->Pv i ys H->g (.int (lo+i)) (tU n ci σ) H λσ2 H2=>tt σ2 H2 λb H3=>if b=true then te σ2 H3 λy H4=>H4 D=some (.lst ys)/\ys.length<sizeLine/\Pv (i+1) (ys++[y]) (upd H4 D (.lst (ys++[y]))) else Pv (i+1) ys H3)
  (hd:∀ys H,Pv m ys H->Q (.ref D) H) :
  iM n ci (Ht lo m) g tt te σ H D Q:=by
 unfold iM
 apply#[m,Pv,h0,λi ys H hi p=>?_]
 by_cases hlt:i<m
 ·apply .inr ⟨hlt,hlt,λv H' y=>?_⟩
  obtain⟨e,rfl⟩:=y
  subst e
  exact hs i ys _ hlt p
 ·have e:i=m:=by lia
  subst e
  exact .inl #[La _,hd ys H p]
def yX{a:Addr}{xs:List V}(Pv:Nat->List V->Hp->Prop)(h0:Pv 0 [] (upd H D (.lst [])))(hl:∀i ys H,i<=xs.length->Pv i ys H->aH K H a xs)
  (hs:∀i x p ys H,xs[i]?=some x->Pv i ys H->H p=none->g (.ref p) (tU n ci σ) (upd H p (.tup [.int (i:Int),x])) λσ2 H2=>tt σ2 H2 λb H3=>if b=true then te σ2 H3 λy H4=>H4 D=some (.lst ys)/\ys.length<sizeLine/\Pv (i+1) (ys++[y]) (upd H4 D (.lst (ys++[y]))) else Pv (i+1) ys H3)
  (hd:∀ys H,Pv xs.length ys H->Q (.ref D) H) :
  iM n ci (HB K a) g tt te σ H D Q:=by
 unfold iM
 apply#[xs.length,Pv,h0,λi ys H hi p=>?_]
 have q:=hl i ys H hi p
 by_cases hlt:i<xs.length
 ·apply .inr ⟨hlt,⟨xs,xs[i],q,by simp[hlt]⟩,λx H' y=>?_⟩
  obtain⟨pp,v,rfl,hn,rfl,hv⟩:=y
  exact hs i v pp ys _ (hv xs q) p hn
 ·have e:i=xs.length:=by lia
  subst e
  exact .inl #[#[xs,q,La _],hd ys H p]
end
end L2
namespace Uf
open PySem L2 UfSrt UfStr UfFin
abbrev xy:Stmt:=top 52
def vW(ns:List Int)(lo hi:Nat):∃cs:List Int,dR (ns.map V.int) (some ((lo:Nat):Int)) (some ((hi:Nat):Int))=cs.map V.int/\cs.length<=hi-lo:=by
 apply#[(ns.drop (HT.dO ns.length 0 (some ((lo:Nat):Int)))).take (HT.dO ns.length ns.length (some ((hi:Nat):Int))-HT.dO ns.length 0 (some ((lo:Nat):Int))),?_,?_]
 ·unfold dR
  rw[K4,Nf,Oc]
 ·rw[Lf]
  have e1:HT.dO ns.length 0 (some ((lo:Nat):Int))=min lo ns.length:=HT.ig _ _ lo
  have e2:HT.dO ns.length ns.length (some ((hi:Nat):Int))=min hi ns.length:=HT.ig _ _ hi
  rw[e1,e2,Mp]
  lia
def jN(H:Hp)(a:Addr)(ms:List Mv):Prop:=∃qs:List Addr,H a=some (.lst (qs.map V.ref))/\Paired (uu H) ms qs
def jN.same{H H':Hp}{a:Addr}{ms:List Mv}(s:au H H')(h:jN H a ms):jN H' a ms:=by
 obtain⟨qs,h1,h2⟩:=h
 exact#[qs,s _ _ h1,Paired.cc h2 λm q #[l,g,e1,e2,e3]=>#[l,g,s _ _ e1,s _ _ e2,s _ _ e3]]
def gF{xs:List PySem.Str}(h:∀x∈xs,isNm x=true)(hl:xs.length<=200):Short xs:=#[hl,λx hx=>by have:=uc (h x hx);lia]
def hJ{xs:List PySem.Str}(h:∀x∈xs,isNm x=true)(hn:xs.Nodup):unlike xs=true:=by
 unfold unlike
 rw[Mz.mpr h,Lk hn]
 rfl
structure vE(ms:List Mv)(S:List PySem.Str):Prop where
 net:gO ms S=true
 fit:Fits ms S
def Ap(C:Addr):Sp:=λvs H Q _=>∃(d a l:Addr) (ms:List Mv) (S:List PySem.Str),vs=[.ref d]/\H d=some (.tup [.ref a,.ref l])/\jN H a ms/\H l=some (.lst (aE S))/\vE ms S/\∀H' p,au H H'->cB C H' p ms S->Q (.ref p) H'
def AG:aF ["_law_drawn"] ["_law_drawn"] (av xy):=ff
def Ds{f C fI:Addr}{fd fdI:FuncData}(F:dN K "_law_made" "_law_made" xy f fd)(T:Txt K mg)(mgC:mg "Net"=some (.ref C))(M:Mk K C fI)(bI:Binds K fdI ["self","moves","start"] [])(GI:bf P w K mg base cZ 5 fI fdI ["self","moves","start"] (Bz K C)):bf P w K mg base cZ 7 f fd ["_law_drawn"] (Ap C):=by
 apply F.oK AG λcdv A outer s H vs Q E hr h=>?_
 ·obtain⟨d,a,l,ms,S,rfl,hd,hrow,hl,ok,kk⟩:=h
  have hsl:=LG
  apply#[_,ak (aK (rD M GI hr rfl mgC bI .nil bR (aa (cE (N:=["_law_name_here","_law_takes","_law_gives"]) (n:=3) (ci:=[]) rfl (aZ (aQ cL (pv 0) aj (λ_ _=>rfl))) (oO AG) (λz=>#[(eD rfl (aU (kJ 0) (aU (kJ 1) (aU (kJ 2) di)))),cR,cX (aa (pv 0) (aa (a8 bF rfl T.lst dW (aa (pv 1) af)) (aa (a8 bF rfl T.lst dW (aa (pv 2) af)) af)))])) (aa (a8 bF rfl T.lst dW (aa (aQ cL (pv 0) aj (λ_ _=>rfl)) af)) af)))),?_]
  ac_rfl
  obtain⟨qs,hqs,pqs⟩:=id hrow
  have lqs:=Lz pqs
  have so:=uq ok.net
  have lm:=so.ml
  apply#[Z,d,_,0,Z,rfl,cz.of hd,aD (j:=0) rfl,a,rfl,#[_,aH.of hqs],λz D hD=>cv (a:=a) (xs:=qs.map V.ref) (λj ys H4=>∃qs':List Addr,ys=qs'.map V.ref/\H4 D=some (.lst ys)/\au H H4/\Paired (λ(m:Mv) q=>∃l g,H4 q=some (.tup [.str m.1,.ref l,.ref g])/\l≠D/\g≠D/\H4 l=some (.lst (aE m.2.1))/\H4 g=some (.lst (aE m.2.2))) (ms.take j) qs') #[[],rfl,ae,ao hD,.nil] (λj ys H4 _ #[_,_,_,s4,_]=>aH.of (s4 _ _ hqs)) ?_ ?_]
  ·rintro j v ys H4 hj ⟨qs',rfl,hys,s4,pq⟩
   obtain⟨q,hq,rfl⟩:=cO hj
   obtain⟨m,hm,l',g',e1,e2,e3⟩:=br pqs hq
   apply#[q,Z,cz.of (s4 _ _ e1),rfl,_,Z,_,Z,_,Z,rfl,?_]
   apply#[Z,Z,l',Z,.inl (aH.of (s4 _ _ e2)),λl1 nl1=>?_]
   have s5:au H4 (upd H4 l1 (.lst (aE m.2.1))):=ao nl1
   have hl1:(upd H4 l1 (.lst (aE m.2.1))) l1=some (.lst (aE m.2.1)):=ae
   have nl1D:l1≠D:=(aq hys nl1).symm
   generalize upd H4 l1 (.lst (aE m.2.1))=H5 at s5 hl1 ⊢
   apply#[Z,g',Z,.inl (aH.of ((s4.trans s5) _ _ e3)),λg1 ng1=>?_]
   have s6:au H5 (upd H5 g1 (.lst (aE m.2.2))):=ao ng1
   have hg1:(upd H5 g1 (.lst (aE m.2.2))) g1=some (.lst (aE m.2.2)):=ae
   have ng1D:g1≠D:=(aq (s5 _ _ hys) ng1).symm
   generalize upd H5 g1 (.lst (aE m.2.2))=H6 at s6 hg1 ⊢
   apply#[by show 3<=sizeLine;lia,λt nt=>?_]
   have s7:au H6 (upd H6 t (.tup [.str m.1,.ref l1,.ref g1])):=ao nt
   have ht:(upd H6 t (.tup [.str m.1,.ref l1,.ref g1])) t=some (.tup [.str m.1,.ref l1,.ref g1]):=ae
   have s47:=s5.trans (s6.trans s7)
   have hys7:=s47 _ _ hys
   have hl17:=(s6.trans s7) _ _ hl1
   have hg17:=s7 _ _ hg1
   have lq:=Lz pq
   rw[Lf]at lq
   generalize upd H6 t (.tup [.str m.1,.ref l1,.ref g1])=H7 at s7 ht s47 hys7 hl17 hg17 ⊢
   apply#[hys7,(by rw[K4];lia),qs'++[t],by rw[Ll];rfl,ae,aJ (s4.trans s47) hD,?_]
   rw[ay hm]
   apply ML (Paired.cc pq λm q #[l,g,e1,e2,e3,e4,e5]=>#[l,g,?_,e2,e3,?_,?_]) #[l1,g1,?_,nl1D,ng1D,?_,?_]
   ·rw[ai (aX (s47 _ _ e1) hys7 (λz=>nomatch z))];exact s47 _ _ e1
   ·rw[ai e2];exact s47 _ _ e4
   ·rw[ai e3];exact s47 _ _ e5
   ·rw[ai (aX ht hys7 (λz=>nomatch z))];exact ht
   ·rw[ai nl1D];exact hl17
   ·rw[ai ng1D];exact hg17
  ·rintro ys H4 ⟨qh,rfl,hD4,s4,pq⟩
   rw[K4,<-lqs,LH]at pq
   apply#[Z,d,_,1,Z,rfl,cz.of (s4 _ _ hd),aD (j:=1) rfl,l,aE S,rfl,.inl (aH.of (s4 _ _ hl)),λbe nbe=>?_]
   obtain⟨H5,eU,s5,hbe⟩:=fL nbe (.lst (aE S))
   rw[eU]
   intro x dx nx ndx nex
   have sn:au H5 (upd (upd H5 dx (.own x)) x (.ins C dx [])):=λb o e=>by
    rw[ai (aq e nx),ai (aq e ndx)]
    exact e
   apply#[x,dx,D,be,ms,S,rfl,ae,#[qh,aH.of ((s5.trans sn) _ _ hD4),Paired.cc pq λm q #[l,g,e1,_,_,e6,e7]=>#[l,g,(s5.trans sn) _ _ e1,(s5.trans sn) _ _ e6,(s5.trans sn) _ _ e7]],aH.of (sn _ _ hbe),ok.fit,ok.net,λH7 NA kp=>#[rfl,?_]]
   have s57:au H5 H7:=λb o e=>kp b o (sn b o e) (aq e nx)
   exact kk H7 x (s4.trans (s5.trans s57)) #[NA,so]
abbrev rK:Stmt:=top 44
abbrev x3:Stmt:=top 45
def Ip(n:Int):PySem.Builtin.bitAnd n 1=n % 2:=PyProof.Rows.bitAnd_m1 n
def ints_get{cs:List Int}{i:Nat}{v:V}(h:(cs.map V.int)[i]?=some v):∃c,cs[i]?=some c/\v=.int c:=by
 rw[LD]at h
 cases e:cs[i]? with
 |none=>rw[e]at h;cases h
 |some c=>rw[e]at h;cases h;exact#[c,rfl,rfl]
def ints_snoc(xs:List Int)(x:Int):xs.map V.int++[V.int x]=(xs++[x]).map V.int:=by rw[Ll];rfl
def pre(ss:List Int)(j:Nat):Int:=(ss.take j).sum
def iO{ss:List Int}{j:Nat}{x:Int}(h:ss[j]?=some x):pre ss (j+1)=pre ss j+x:=by
 unfold pre
 rw[OE,h]
 simp
def gp{ss:List Int}(h:∀x∈ss,1<=x/\x<=4):∀{i j:Nat},i<=j->pre ss i<=pre ss j:=λ{i j} hij=>by
 induction j with
 |zero =>
  have:i=0:=by lia
  subst this
  exact Int.le_refl _
 |succ j ih =>
  by_cases e:i=j+1
  ·subst e
   exact Int.le_refl _
  ·have h1:=ih (by lia)
   cases hx:ss[j]? with
   |none =>
    have:pre ss (j+1)=pre ss j:=by
     unfold pre
     rw[OE,hx]
     simp
    lia
   |some x =>
    have:=iO hx
    have:=h x (Lg hx)
    lia
def qT{ss:List Int}(h:∀x∈ss,1<=x/\x<=4):∀j,pre ss j<=4*(j:Int):=λj=>by
 induction j with
 |zero=>simp[pre]
 |succ j ih =>
  cases hx:ss[j]? with
  |none =>
   have:pre ss (j+1)=pre ss j:=by
    unfold pre
    rw[OE,hx]
    simp
   lia
  |some x =>
   have:=iO hx
   have:=h x (Lg hx)
   lia
structure jJ(ss:List Int)(n:Nat)(ps:List (Nat×Int)):Prop where
 inc:(ps.map (·.1)).Pairwise (· < ·)
 lt:∀q∈ps,q.1<n
 at':∀q∈ps,pre ss q.1<=q.2/\q.2<pre ss (q.1+1)
def jJ.skip{ss:List Int}{n:Nat}{ps:List (Nat×Int)}(h:jJ ss n ps):jJ ss (n+1) ps:=#[h.inc,λq hq=>L3 (h.lt q hq),h.at']
def jJ.snoc{ss:List Int}{n:Nat}{ps:List (Nat×Int)}{p:Int}(h:jJ ss n ps)(h1:pre ss n<=p)(h2:p<pre ss (n+1)):jJ ss (n+1) (ps++[(n,p)]):=by
 apply#[?_,λq hq=>?_,λq hq=>?_]
 ·rw[Ll]
  apply List.pairwise_append.mpr #[h.inc,by simp,λa ha b hb=>?_]
  obtain⟨q,hq,rfl⟩:=LQ.mp ha
  have:b=n:=by simpa using hb
  rw[this]
  exact h.lt q hq
 ·rcases K9.mp hq with z|z
  ·exact L3 (h.lt q z)
  ·have:q=(n,p):=by simpa using z
   rw[this]
   exact MS n
 ·rcases K9.mp hq with z|z
  ·exact h.at' q z
  ·have:q=(n,p):=by simpa using z
   rw[this]
   exact#[h1,h2]
def jJ.len{ss:List Int}:∀{n:Nat} {ps:List (Nat×Int)},jJ ss n ps->ps.length<=n:=λ{n ps} h=>by
 have nd:(ps.map (·.1)).Nodup:=h.inc.imp λz=>LB z
 have:(ps.map (·.1)).length<=(List.range n).length:=dZ nd λx hx=>by
  obtain⟨q,hq,rfl⟩:=LQ.mp hx
  exact M7.mpr (h.lt q hq)
 simpa using this
structure Ad(ss:List Int)(ps qs:List (Nat×Int)):Prop where
 p:jJ ss ss.length ps
 q:jJ ss ss.length qs
 ne:ps≠[]
 sub:∀q∈qs,∃p∈ps,p.1=q.1
def xm:Sp:=λvs H Q _=>∃hd:Int,vs=[.int hd]/\∀H' q (ss:List Int),au H H'->H q=none->H' q=some (.lst (ss.map V.int))->1<=ss.length->ss.length<=3->(∀x∈ss,1<=x/\x<=4)->Q (.ref q) H'
def jW:aF ["_law_head","_law_sizes_here","_law_rest","_law_j"] ["_law_head"] (av rK):=ff
inductive SzI(H:Hp)(hd:Int)(q:Addr)(i:Nat)(σ:St)(H2:Hp):Prop
 |mk (r:Int) (v3:Option V) (ss:List Int) (q0:σ=[some (.int hd),some (.ref q),some (.int r),v3]) (q1:au H H2) (q2:H2 q=some (.lst (ss.map V.int))) (q3:ss.length=i) (q4:∀x∈ss,1<=x/\x<=4)
def CL{f:Addr}{fd:FuncData}(F:dN K "_law_sizes" "_law_sizes" rK f fd)(T2:Txt2 mg):bf P w K mg base cZ 1 f fd ["_law_head"] xm:=by
 apply F.oK jW λcdv A outer s H vs Q E hr h=>?_
 ·obtain⟨hd,rfl,kk⟩:=h
  have hsl:=LG
  apply#[_,ag (cM 1 jW (bu af))
   (ag (cM 2 jW (aw bU (pv 0) aj))
   (ag (bO LC rfl (fj rfl T2.rng (aa (aw eE aj (aw bH (pv 0) aj)) af)) (fE 3 jW)
    (ag (a9 (df Lr Lv Lw bb (pv 1) (aa (aQ aI (bu (aa aj (aa aj (aa aj (aa aj (aa aj (aa aj (aa aj (aa aj af))))))))) (aw bH (pv 2) aj) (λ_ _=>rfl)) af)))
    (ak (cM 2 jW (aw bU (pv 2) aj)))))
   (ak (aK (pv 1))))),?_]
  ac_rfl
  apply#[LA _,λq nq=>?_]
  have s1:au H (upd H q (.lst [])):=ao nq
  have hq:(upd H q (.lst [])) q=some (.lst (([]:List Int).map V.int)):=ae
  generalize upd H q (.lst [])=H1 at s1 hq ⊢
  apply#[Z,_,Z,rfl,#[by decide,by decide],?_]
  apply#[Z,_,Z,rfl,(by show(0:Int)<3;decide),_,Z,rfl,Z,by lia,by lia,g0 (lo:=0) (n:=(1+hd % 3).toNat) (SzI H hd q) #[_,none,[],rfl,s1,hq,rfl,λx hx=>by simp at hx] ?_ ?_]
  ·rintro i σ H2 hi ⟨r,v3,ss,rfl,sm,hq2,ls,hss⟩
   apply#[Z,.inl #[rfl,_,aH.of hq2],by show 8<=sizeLine;lia,λl nl=>?_]
   have sl:au H2 (upd H2 l (.lst (([2,3,1,4,2,3,2,1]:List Int).map V.int))):=ao nl
   have hl:(upd H2 l (.lst (([2,3,1,4,2,3,2,1]:List Int).map V.int))) l=some (.lst (([2,3,1,4,2,3,2,1]:List Int).map V.int)):=ae
   have r8:0<=r % 8/\r % 8<8:=by lia
   apply#[Z,_,Z,rfl,(by show(0:Int)<8;decide),l,_,_,Z,rfl,aH.of hl,nF (by lia) (by show _<((8:Nat):Int);lia),?_]
   have g8:∀k:Nat,k<8->1<=([2,3,1,4,2,3,2,1]:List Int).getD k 0/\([2,3,1,4,2,3,2,1]:List Int).getD k 0<=4:=by decide
   have hx:=g8 (r % 8).toNat (by lia)
   generalize ([2,3,1,4,2,3,2,1]:List Int).getD (r % 8).toNat 0=x at hx
   have sm2:=sm.trans sl
   have hq3:=sl _ _ hq2
   have eL:upd H2 l (.lst (([2,3,1,4,2,3,2,1]:List Int).map V.int))=upd H2 l (.lst [V.int 2,V.int 3,V.int 1,V.int 4,V.int 2,V.int 3,V.int 2,V.int 1]):=rfl
   rw[eL]at sm2 hq3
   generalize upd H2 l (.lst [V.int 2,V.int 3,V.int 1,V.int 4,V.int 2,V.int 3,V.int 2,V.int 1])=H3 at sm2 hq3 ⊢
   apply#[q,_,Z,rfl,hq3,by rw[K4];lia,?_]
   rw[ints_snoc]
   apply#[Z,_,Z,rfl,#[by decide,by decide],?_]
   apply#[_,_,ss++[x],rfl,aJ sm2 nq,ae,by rw[K5,ls];rfl,λy hy=>?_]
   rcases K9.mp hy with z|z
   ·exact hss y z
   ·have:y=x:=by simpa using z
    rw[this]
    exact hx
  ·rintro σ H2 ⟨r,v3,ss,rfl,sm,hq2,ls,hss⟩
   exact#[Z,kk _ q ss sm nq hq2 (by lia) (by lia) hss]
open UfB
abbrev mM:Stmt:=top 54
abbrev sW:Stmt:=top 55
abbrev yk:Stmt:=top 56
def c9(md sq cq pq tq dq:Addr):List (Key×V):=[(Sum.inr "moves",.ref md),(Sum.inr "spots",.ref sq),(Sum.inr "came",.ref cq),(Sum.inr "past",.ref pq),(Sum.inr "takers",.ref tq),(Sum.inr "side",.ref dq)]
structure dQ(H:Hp)(w md sq cq pq tq dq:Addr)(f:WF):Prop where
 w:H w=some (.dK (c9 md sq cq pq tq dq))
 sp:∃qs,H sq=some (.lst (qs.map V.ref))/\fh H f.W.sp qs
 tk:H tq=some (.lst (nats f.W.tk))
 be:H dq=some (.lst (nats f.W.be))
 own:H pq=some (.lst (nats f.own))
def AS{md sq cq pq tq dq:Addr}:dE (c9 md sq cq pq tq dq) (Sum.inr "spots")=some (.ref sq):=by
 unfold c9
 rw[bA (by dsimp only;decide +kernel),cx rfl]
def Du{md sq cq pq tq dq:Addr}:dE (c9 md sq cq pq tq dq) (Sum.inr "came")=some (.ref cq):=by
 unfold c9
 rw[bA (by dsimp only;decide +kernel),bA (by dsimp only;decide +kernel),cx rfl]
def DI{md sq cq pq tq dq:Addr}:dE (c9 md sq cq pq tq dq) (Sum.inr "past")=some (.ref pq):=by
 unfold c9
 rw[bA (by dsimp only;decide +kernel),bA (by dsimp only;decide +kernel),bA (by dsimp only;decide +kernel),cx rfl]
def qF{md sq cq pq tq dq:Addr}:dE (c9 md sq cq pq tq dq) (Sum.inr "takers")=some (.ref tq):=by
 unfold c9
 rw[bA (by dsimp only;decide +kernel),bA (by dsimp only;decide +kernel),bA (by dsimp only;decide +kernel),bA (by dsimp only;decide +kernel),cx rfl]
def x8{md sq cq pq tq dq:Addr}:dE (c9 md sq cq pq tq dq) (Sum.inr "side")=some (.ref dq):=by
 unfold c9
 rw[bA (by dsimp only;decide +kernel),bA (by dsimp only;decide +kernel),bA (by dsimp only;decide +kernel),bA (by dsimp only;decide +kernel),bA (by dsimp only;decide +kernel),cx rfl]
def uG{md sq cq pq tq dq:Addr}:dE (c9 md sq cq pq tq dq) (Sum.inr "moves")=some (.ref md):=by
 unfold c9
 rw[cx rfl]
section
variable {H:Hp}{w md sq cq pq tq dq:Addr}{f:WF}
def dQ.kQ(h:dQ H w md sq cq pq tq dq f):dI H w (.str "spots") (some (.ref sq)):=AS ▸ dI.k (k:=Sum.inr "spots") h.w
def dQ.uS(h:dQ H w md sq cq pq tq dq f):dI H w (.str "came") (some (.ref cq)):=Du ▸ dI.k (k:=Sum.inr "came") h.w
def dQ.FC(h:dQ H w md sq cq pq tq dq f):dI H w (.str "past") (some (.ref pq)):=DI ▸ dI.k (k:=Sum.inr "past") h.w
def dQ.j8(h:dQ H w md sq cq pq tq dq f):dI H w (.str "takers") (some (.ref tq)):=qF ▸ dI.k (k:=Sum.inr "takers") h.w
def dQ.Cz(h:dQ H w md sq cq pq tq dq f):dI H w (.str "side") (some (.ref dq)):=x8 ▸ dI.k (k:=Sum.inr "side") h.w
def dQ.CK(h:dQ H w md sq cq pq tq dq f):dI H w (.str "moves") (some (.ref md)):=uG ▸ dI.k (k:=Sum.inr "moves") h.w
end
def two(x:Nat):Bool:=(x &&& (x-1)) != 0
def oB(tk:List Nat)(b:Nat):Bool:=tk.any λm=>two (m &&& b)
def two_int(x:Nat):(!decide (V.int (Builtin.bitAnd (x:Int) ((x:Int)-1))=V.int 0))=two x:=by
 have e:Builtin.bitAnd (x:Int) ((x:Int)-1)=((x &&& (x-1):Nat):Int):=by
  cases x with
  |zero=>rfl
  |succ n =>
   rw[show((n+1:Nat):Int)-1=((n:Nat):Int) by lia,jj]
   rfl
 rw[e]
 unfold two
 by_cases h:x &&& (x-1)=0
 ·rw[h];rfl
 ·have:¬V.int ((x &&& (x-1):Nat):Int)=V.int 0:=λz=>h (by have:=V.int.inj z;lia)
  rw[Lq this]
  exact(OC.mpr h).symm
def fc(f:WF)(s:Nat):Nat:=match eY f.W.sp s with|some g=>f.own.getD g 0|none=>0
def dz(f:WF)(a b:Nat):Bool:=!((f.W.tk.getD a 0 &&& fc f b) != 0 || (f.W.tk.getD b 0 &&& fc f a) != 0)&&(a != b && !oB f.W.tk (fc f a ||| fc f b))
def sM:Sp:=λvs H Q _=>∃(w md sq cq pq tq dq:Addr) (f:WF) (b:Nat),vs=[.ref w,nat b]/\dQ H w md sq cq pq tq dq f/\Q (.bl (oB f.W.tk b)) H
def tD:aF ["_law_web","_law_both","_law_mask"] ["_law_web","_law_both"] (av mM):=ff
inductive FkI(H:Hp)(w:Addr)(b:Nat)(tk:List Nat)(i:Nat)(σ:St)(H2:Hp):Prop
 |mk (v2:Option V) (q0:σ=[some (.ref w),some (nat b),v2]) (q1:H2=H) (q2:(tk.take i).any (λm=>two (m &&& b))=false)
def zr{f:Addr}{fd:FuncData}(F:dN K "_law_forked" "_law_forked" mM f fd):bf P w K mg base cZ 1 f fd ["_law_web","_law_both"] sM:=by
 apply F.oK tD λcdv A outer s H vs Q E hr h=>?_
 ·obtain⟨w,md,sq,cq,pq,tq,dq,f,b,rfl,O,kk⟩:=h
  have hu:=c7 hr
  apply#[_,ag (bO LC rfl (aZ (bC hu (pv 0) bX (λ_ _=>rfl))) (fE 2 tD)
    (ak (bK (aY ou (aw gr (aw gr (pv 2) (pv 1)) (aw iN (aw gr (pv 2) (pv 1)) aj)) aj (bp _)) (ak (aK iz)) aM)))
   (ak (aK iz)),?_]
  ac_rfl
  apply#[Z,w,Z,O.j8,tq,rfl,#[_,aH.of O.tk],bJ (K:=K) (a:=tq) (xs:=nats f.W.tk) (FkI H w b f.W.tk) #[none,rfl,rfl,rfl] (λi σ H2 _ h=>by cases h;subst_vars;exact aH.of O.tk) ?_ ?_]
  ·rintro i v σ H2 hi ⟨v2,rfl,rfl,hf⟩
   have hil:i<f.W.tk.length:=by
    have:=(Lh.mp hi).1
    rwa[bD]at this
   rw[cV hil]at hi
   have hm:f.W.tk[i]?=some (f.W.tk.getD i 0):=by rw[K7 hil,Lb,K7 hil];rfl
   obtain rfl:=LS hi
   generalize f.W.tk.getD i 0=m at hm
   apply#[Z,Z,_,Z,rfl,Z,Z,_,Z,rfl,_,Z,rfl,_,Z,rfl,rfl,Z,?_]
   rw[jj,two_int]
   cases c:two (m &&& b) with
   |true =>
    apply cy ?_
    have:oB f.W.tk b=true:=MH.mpr #[m,Lg hm,c]
    rw[this]at kk
    exact kk
   |false =>
    apply bz ?_
    apply#[Z,rfl,?_]
    rw[ay hm,List.any_append,hf]
    simp[c]
  ·rintro σ H2 ⟨v2,rfl,rfl,hf⟩
   rw[bD,LH]at hf
   have:oB f.W.tk b=false:=hf
   rw[this]at kk
   exact kk
structure kX(f:WF)(s:Nat):Prop where
 lt:s<f.W.sp.length
 g:∀g,eY f.W.sp s=some g->g<f.own.length
def vH:Sp:=λvs H Q _=>∃(w md sq cq pq tq dq:Addr) (f:WF) (s:Nat),vs=[.ref w,nat s]/\dQ H w md sq cq pq tq dq f/\kX f s/\Q (nat (fc f s)) H
def Bm:aF ["_law_web","_law_spot","_law_giver"] ["_law_web","_law_spot"] (av sW):=ff
def EY{f:Addr}{fd:FuncData}(F:dN K "_law_past" "_law_past" sW f fd):bf P w K mg base cZ 1 f fd ["_law_web","_law_spot"] vH:=by
 apply F.oK Bm λcdv A outer s H vs Q E hr h=>?_
 ·obtain⟨w,md,sq,cq,pq,tq,dq,f,n,rfl,O,so,kk⟩:=h
  have hu:=c7 hr
  apply#[_,ag (cM 2 Bm (aQ cL (aQ aI (bC hu (pv 0) bX (λ_ _=>rfl)) (pv 1) (λ_ _=>rfl)) aj (λ_ _=>rfl)))
   (ag (bK (aY F1 (pv 2) jG (bp _)) (ak (aK aj)) aM)
   (ak (aK (aQ aI (bC hu (pv 0) bX (λ_ _=>rfl)) (pv 2) (λ_ _=>rfl))))),?_]
  ac_rfl
  obtain⟨qs,hqs,hp⟩:=O.sp
  have lq:=Lz hp
  have hlt:=so.lt
  have hqn:qs[n]?=some (qs[n]'(by lia)):=K7 (by lia)
  obtain⟨p,hpn,hq⟩:=br hp hqn
  generalize qs[n]'(by lia)=q at hqn hq
  have eg:eY f.W.sp n=p.2:=by unfold eY;rw[hpn];rfl
  apply#[Z,w,Z,O.kQ,Z,sq,_,_,Z,rfl,aH.of hqs,aD (j:=n) (by rw[LD,hqn];rfl),q,_,1,Z,rfl,cz.of hq,aD (j:=1) rfl,?_]
  unfold fc at kk
  rw[eg]at kk
  have hg:=so.g
  rw[eg]at hg
  obtain⟨x,g⟩:=p
  cases g with
  |none =>
   apply#[Z,rfl,Z,?_]
   apply cy ?_
   exact kk
  |some g =>
   apply#[Z,rfl,Z,?_]
   apply bz ?_
   have hgl:=hg g rfl
   exact#[Z,w,Z,O.FC,Z,pq,_,_,Z,rfl,aH.of O.own,aD (j:=g) (cV hgl),kk]
def C0(x y:Nat):(!decide (V.int (Builtin.bitAnd (x:Int) (y:Int))=V.int 0))=((x &&& y) != 0):=by
 rw[jj]
 by_cases h:x &&& y=0
 ·rw[h];rfl
 ·have:¬V.int ((x &&& y:Nat):Int)=V.int 0:=λz=>h (by have:=V.int.inj z;lia)
  rw[Lq this]
  exact(OC.mpr h).symm
def Gg(a b:Nat):(!decide (nat a=nat b))=(a != b):=by
 by_cases h:a=b
 ·subst h
  simp
 ·have:¬nat a=nat b:=λz=>h (by have:=V.int.inj z;lia)
  rw[Lq this]
  exact(OC.mpr h).symm
def Ao:Sp:=λvs H Q _=>∃(w md sq cq pq tq dq:Addr) (f:WF) (a b:Nat),vs=[.ref w,nat a,nat b]/\dQ H w md sq cq pq tq dq f/\f.W.tk.length=f.W.sp.length/\kX f a/\kX f b/\Q (.bl (dz f a b)) H
def vP:aF ["_law_web","_law_one","_law_other","_law_ones","_law_others"] ["_law_web","_law_one","_law_other"] (av yk):=ff
def Dz{f:Addr}{fd:FuncData}(F:dN K "_law_near" "_law_near" yk f fd)
  (DP:gG P w K mg base "_law_past" sW ["_law_web","_law_spot"] 1 vH)
  (DF:gG P w K mg base "_law_forked" mM ["_law_web","_law_both"] 1 sM) :
  bf P w K mg base cZ 2 f fd ["_law_web","_law_one","_law_other"] Ao:=by
 apply F.oK vP λcdv A outer s H vs Q E hr h=>?_
 ·obtain⟨w,md,sq,cq,pq,tq,dq,f,a,b,rfl,O,tl,sa,sb,kk⟩:=h
  have hu:=c7 hr
  apply#[_,ag (cM 3 vP (eV DP hr (aa (pv 0) (aa (pv 1) af))))
   (ag (cM 4 vP (eV DP hr (aa (pv 0) (aa (pv 2) af))))
   (ag (bK (PW.pt (pw_or (aY ou (aw gr (aQ aI (bC hu (pv 0) bX (λ_ _=>rfl)) (pv 1) (λ_ _=>rfl)) (pv 4)) aj (bp _)) (pw_or1 (aY ou (aw gr (aQ aI (bC hu (pv 0) bX (λ_ _=>rfl)) (pv 2) (λ_ _=>rfl)) (pv 3)) aj (bp _))))) (ak (aK iz)) aM)
   (ak (aK (jA (dP ou (pv 1) (pv 2) (bp _)) (jI (Bd (eV DF hr (aa (pv 0) (aa (aw iU (pv 3) (pv 4)) af)))))))))),?_]
  ac_rfl
  apply#[Z,Z,w,md,sq,cq,pq,tq,dq,f,a,rfl,O,sa,?_]
  apply#[Z,Z,w,md,sq,cq,pq,tq,dq,f,b,rfl,O,sb,?_]
  have ha:=sa.lt
  have hb:=sb.lt
  apply#[Z,w,Z,O.j8,Z,tq,_,_,Z,rfl,aH.of O.tk,aD (j:=a) (cV (by lia)),Z,_,Z,rfl,rfl,Z,?_]
  rw[C0]
  cases c1:(f.W.tk.getD a 0 &&& fc f b) != 0 with
  |true =>
   apply cy (cy ?_)
   have:dz f a b=false:=by unfold dz;rw[c1];rfl
   rw[this]at kk
   exact kk
  |false =>
   apply bz ?_
   apply#[Z,w,Z,O.j8,Z,tq,_,_,Z,rfl,aH.of O.tk,aD (j:=b) (cV (by lia)),Z,_,Z,rfl,rfl,Z,?_]
   rw[C0]
   cases c2:(f.W.tk.getD b 0 &&& fc f a) != 0 with
   |true =>
    apply cy ?_
    have:dz f a b=false:=by unfold dz;rw[c1,c2];rfl
    rw[this]at kk
    exact kk
   |false =>
    apply bz ?_
    have en:dz f a b=(a != b && !oB f.W.tk (fc f a ||| fc f b)):=by unfold dz;rw[c1,c2];rfl
    rw[en]at kk
    apply#[Z,Z,rfl,Z,?_]
    rw[Gg]
    cases c3:a != b with
    |false =>
     apply bz ?_
     rw[c3]at kk
     exact kk
    |true =>
     apply cy ?_
     rw[c3]at kk
     apply#[Z,Z,Z,_,Z,rfl,w,md,sq,cq,pq,tq,dq,f,fc f a ||| fc f b,?_,O,Z,kk]
     try dsimp only
     rw[gL]
     rfl
end Uf
section
set_option maxHeartbeats 400000
namespace Uf
open PySem L2 UfB UfM
def ql{x:Nat}(h:x≠0):∃i,x.testBit i=true:=by
 apply Ol λn=>h (Ny λi=>?_)
 rw[M6]
 cases e:x.testBit i with
 |false=>rfl
 |true=>exact absurd #[i,e] n
def kZ{x i:Nat}(h:x.testBit i=true):x≠0:=λz=>by
 rw[z,M6]at h
 cases h
def wX(x y:Nat):((x &&& y) != 0)=true↔∃o,x.testBit o=true/\y.testBit o=true:=by
 rw[OC]
 constructor
 ·intro h
  obtain⟨i,hi⟩:=ql h
  rw[Nc,Md]at hi
  exact#[i,hi]
 ·rintro⟨o,h⟩
  exact kZ (i:=o) (by rw[Nc,h.1,h.2];rfl)
def two_iff(x:Nat):two x=true↔∃i j,i≠j/\x.testBit i=true/\x.testBit j=true:=by
 unfold two
 rw[OC]
 by_cases h0:x=0
 ·subst h0
  constructor
  ·intro h
   exact absurd (Nat.zero_and _) h
  ·rintro⟨i,j,_,h,_⟩
   rw[M6]at h
   cases h
 ·obtain⟨k,L⟩:=Aa x (Nat.pos_of_ne_zero h0)
  rw[L.clear]
  constructor
  ·intro h
   obtain⟨i,hi⟩:=ql h
   rw[L.rest,Md,LP]at hi
   exact#[i,k,hi.2,hi.1,L.bit]
  ·rintro⟨i,j,n,hi,hj⟩
   by_cases e:i=k
   ·have hne:j≠k:=λz=>n (e.trans z.symm)
    exact kZ (i:=j) (by rw[L.rest,hj,Lk hne];rfl)
   ·exact kZ (i:=i) (by rw[L.rest,hi,Lk e];rfl)
def dA{f:WF}(s o:Nat):(fc f s).testBit o=true↔(wb f).past s o:=by
 unfold fc
 cases h:eY f.W.sp s with
 |none =>
  show(0:Nat).testBit o=true↔_
  rw[M6]
  constructor
  ·intro z;cases z
  ·rintro⟨g,hg,_⟩
   have hg:eY f.W.sp s=some g:=hg
   rw[h]at hg
   cases hg
 |some g =>
  constructor
  ·intro z
   exact#[g,h,z]
  ·rintro⟨g',hg,z⟩
   have hg:eY f.W.sp s=some g':=hg
   rw[h]at hg
   cases hg
   exact z
def BV{f:WF}(b:Nat):oB f.W.tk b=true↔(wb f).forked λo=>b.testBit o=true:=by
 unfold oB
 rw[MH]
 constructor
 ·rintro⟨m,hm,h⟩
  obtain⟨i,j,n,hi,hj⟩:=(two_iff _).mp h
  rw[Nc,Md]at hi hj
  obtain⟨u,hu⟩:=Qh.mp hm
  have e:f.W.tk.getD u 0=m:=by rw[Lb,hu];rfl
  apply#[i,j,u,n,hi.2,hj.2,?_,?_]
  ·show(f.W.tk.getD u 0).testBit i=true
   rw[e];exact hi.1
  ·show(f.W.tk.getD u 0).testBit j=true
   rw[e];exact hj.1
 ·rintro⟨i,j,u,n,bi,bj,ti,tj⟩
  have ti:(f.W.tk.getD u 0).testBit i=true:=ti
  have tj:(f.W.tk.getD u 0).testBit j=true:=tj
  have hu:u<f.W.tk.length:=by
   apply OO λz=>?_
   rw[gq z,M6]at ti
   cases ti
  apply#[f.W.tk.getD u 0,?_,(two_iff _).mpr #[i,j,n,?_,?_]]
  ·rw[Lb,K7 hu]
   exact Oa _
  ·rw[Nc,ti,bi];rfl
  ·rw[Nc,tj,bj];rfl
def tm{f:WF}(a b:Nat):dz f a b=true↔a≠b/\(wb f).mq a b:=by
 unfold dz
 rw[Md,Md,Bool.not_eq_true',Bool.not_eq_true',OC,Bool.or_eq_false_iff,<-PH,<-PH,<-PH,wX,wX,BV]
 constructor
 ·rintro⟨⟨h1,h2⟩,h3,h4⟩
  apply#[h3,λo p q=>h1 #[o,p,(dA b o).mpr q],λo p q=>h2 #[o,p,(dA a o).mpr q],λ#[o1,o2,u,n,p1,p2,t1,t2]=>h4 #[o1,o2,u,n,?_,?_,t1,t2]]
  ·dsimp only
   rw[M9,M0,dA,dA];exact p1
  ·dsimp only
   rw[M9,M0,dA,dA];exact p2
 ·rintro⟨h3,N⟩
  apply#[#[λ#[o,p,q]=>N.ab o p ((dA b o).mp q),λ#[o,p,q]=>N.ba o p ((dA a o).mp q)],h3,λ#[o1,o2,u,n,p1,p2,t1,t2]=>N.nf #[o1,o2,u,n,?_,?_,t1,t2]]
  ·dsimp only at p1
   rw[M9,M0,dA,dA]at p1;exact p1
  ·dsimp only at p2
   rw[M9,M0,dA,dA]at p2;exact p2
end Uf
end
section
set_option maxHeartbeats 400000
namespace Uf
open PySem L2 UfB UfM
def iy(near:Nat->Bool)(n:Nat)(bs:List Nat)(i:Nat):List Nat:=(List.range i).foldl (λbs k=>if near k then fY (fY bs k n) n k else bs) bs
def jB(near:Nat->Bool)(n:Nat)(bs:List Nat)(i:Nat):iy near n bs (i+1)=if near i then fY (fY (iy near n bs i) i n) n i else iy near n bs i:=by
 unfold iy
 rw[Om,MZ]
 rfl
def jT(bs:List Nat)(j n:Nat):(fY bs j n).length=bs.length:=by unfold fY;rw[List.length_set]
theorem eK(near:Nat->Bool)(n:Nat)(bs:List Nat):∀i,(iy near n bs i).length=bs.length
 |0=>rfl
 |i+1=>by
  rw[jB]
  split
  ·rw[jT,jT,eK near n bs i]
  ·exact eK near n bs i
theorem kS{near:Nat->Bool}{n:Nat}{bs:List Nat}(hl:bs.length=n+1)(a c:Nat):∀i,i<=n->((iy near n bs i).getD a 0).testBit c=((bs.getD a 0).testBit c || (decide (a<i)&&near a&&decide (c=n)) || (decide (a=n)&&decide (c<i)&&near c))
 |0,_=>by simp[iy]
 |i+1,h=>by
  have ih:=kS (near:=near) hl a c i (by lia)
  have hlen:=eK near n bs i
  rw[jB]
  cases hn:near i with
  |false =>
   rw[Le (by simp),ih]
   by_cases e1:a=i
   ·subst e1
    have:¬a=n:=by lia
    simp[hn,this]
   ·have e1':decide (a<i+1)=decide (a<i):=by rw[Mi];lia
    rw[e1']
    by_cases e2:c=i
    ·subst e2
     simp[hn]
    ·have e2':decide (c<i+1)=decide (c<i):=by rw[Mi];lia
     rw[e2']
  |true =>
   rw[Ls rfl,oQ (by rw[jT];lia),oQ (by lia),ih]
   by_cases e1:a=i
   ·subst e1
    have:¬a=n:=by lia
    simp[hn,this]
   ·have e1':decide (a<i+1)=decide (a<i):=by rw[Mi];lia
    rw[e1',Lq e1]
    by_cases e2:c=i
    ·subst e2
     simp[hn]
    ·have e2':decide (c<i+1)=decide (c<i):=by rw[Mi];lia
     rw[e2',Lq e2]
     simp
def px(f:WF)(x:Str)(g:Option Nat):WF:=#[#[f.W.sp++[(x,g)],f.W.tk++[0],f.W.be++[0],f.W.pl],f.oc,f.own]
def iB(f:WF)(x:Str)(g:Option Nat)(i:Nat):WF:=#[#[f.W.sp++[(x,g)],f.W.tk++[0],iy (λk=>dz (px f x g) k f.W.sp.length) f.W.sp.length (f.W.be++[0]) i,f.W.pl],f.oc,f.own]
def xF(f:WF)(x:Str)(g:Option Nat):WF:=iB f x g f.W.sp.length
structure Alike(f f':WF):Prop where
 sp:f.W.sp=f'.W.sp
 tk:f.W.tk=f'.W.tk
 be:f.W.be=f'.W.be
 own:f.own=f'.own
def lz{xs ys:List Nat}(hl:xs.length=ys.length)(h:∀a c,a<xs.length->(xs.getD a 0).testBit c=(ys.getD a 0).testBit c):xs=ys:=by
 apply List.ext_getElem hl λi h1 h2=>?_
 have:xs.getD i 0=ys.getD i 0:=Ny λc=>h i c h1
 rw[Lb,Lb,K7 h1,K7 h2]at this
 exact this
def rT{f f':WF}(a b:Nat)(h1:f.W.sp=f'.W.sp)(h2:f.W.tk=f'.W.tk)(h3:f.own=f'.own):dz f a b=dz f' a b:=by
 unfold dz fc
 rw[h1,h2,h3]
def yQ{f:WF}{m:Str}{T:List Nat}{gs:List Str}(g:Good f)(h:uz f T gs){k:Nat}{x:Str}(hx:gs[k]?=some x):Alike (xF (bN f m T (gs.take k)) x (some f.oc.length)) (bN f m T (gs.take (k+1))):=by
 have hk:k<gs.length:=(Lh.mp hx).1
 have gX:=h.gX
 have mk:∀j,j<=gs.length->uz f T (gs.take j):=λj hj=>#[h.lt,h.ne,h.side,by rw[Lf];lia]
 have g1:=kY (m:=m) g (mk (k+1) (by lia))
 have A:=gU g (mk k (by lia))
 have etk:gs.take (k+1)=gs.take k++[x]:=ay hx
 have lk:(gs.take k).length=k:=by rw[Lf];lia
 have e1:(bN f m T (gs.take (k+1))).W=(gJ (some f.oc.length) (bx (some f.oc.length) (#[f.W.sp,bL f.W.tk T f.oc.length,f.W.be,f.W.pl],fb f T) (gs.take k)) x).1:=by
  show(bx _ _ (gs.take (k+1))).1=_
  rw[etk]
  unfold bx
  rw[MZ]
  rfl
 have e0:(bN f m T (gs.take k)).W=(bx (some f.oc.length) (#[f.W.sp,bL f.W.tk T f.oc.length,f.W.be,f.W.pl],fb f T) (gs.take k)).1:=rfl
 have eown:(bN f m T (gs.take k)).own=(bN f m T (gs.take (k+1))).own:=rfl
 have lb:=A.bl
 have hbt:=A.b
 have hsp:=A.sp
 have ltk:=A.tk
 generalize bx (some f.oc.length) (#[f.W.sp,bL f.W.tk T f.oc.length,f.W.be,f.W.pl],fb f T) (gs.take k)=p at e0 e1 lb hbt hsp ltk
 have n_eq:p.1.sp.length=f.W.sp.length+k:=by rw[hsp,K5,K4,lk]
 have b_lt:∀c,p.2.testBit c=true->c<p.1.sp.length:=λc hc=>by
  rw[hbt]at hc
  rw[n_eq]
  rcases M0 _ _ |>.mp hc with z|z
  ·have z:(fb f T).testBit c=true:=z
   have hlt:=rC (T:=T) g
   apply OO λq=>?_
   rw[MM (LF hlt (LX (by decide) (by lia)))]at z
   cases z
  ·simp[lk]at z
   lia
 have b256:p.2<2 ^ 256:=LF (Nz _ λi hi=>by
  cases z:p.2.testBit i with
  |false=>rfl
  |true=>exact absurd (b_lt i z) (by lia)) (LX (by decide) (show p.1.sp.length<=256 by lia))
 have lbe:p.1.be.length=p.1.sp.length:=by rw[lb,n_eq,lk]
 have esp:(bN f m T (gs.take (k+1))).W.sp=p.1.sp++[(x,some f.oc.length)]:=by rw[e1];rfl
 have etk2:(bN f m T (gs.take (k+1))).W.tk=p.1.tk++[0]:=by rw[e1];rfl
 have ebe:(bN f m T (gs.take (k+1))).W.be=bL (p.1.be++[p.2]) (mem p.2) p.1.sp.length:=by rw[e1];rfl
 have hmlt:∀j∈mem p.2,j<(p.1.be++[p.2]).length:=λj hj=>by
  have:=b_lt j ((mem_iff b256).mp hj)
  rw[K5,lbe]
  lia
 have bits:∀a c,(((bN f m T (gs.take (k+1))).W.be).getD a 0).testBit c=(((p.1.be++[p.2]).getD a 0).testBit c || (p.2.testBit a&&decide (c=p.1.sp.length))):=λa c=>by
  rw[ebe,gc hmlt]
  congr 2
  rw[LV,LP,mem_iff b256]
 have nb:∀a,a<p.1.sp.length->dz (px (bN f m T (gs.take k)) x (some f.oc.length)) a p.1.sp.length=p.2.testBit a:=λa ha=>by
  have en:dz (px (bN f m T (gs.take k)) x (some f.oc.length)) a p.1.sp.length=dz (bN f m T (gs.take (k+1))) a p.1.sp.length:=rT _ _ (by rw[esp];show(bN f m T (gs.take k)).W.sp++_=_;rw[e0]) (by rw[etk2];show(bN f m T (gs.take k)).W.tk++_=_;rw[e0]) eown
  rw[en,LV,tm]
  have l1:(bN f m T (gs.take (k+1))).W.sp.length=p.1.sp.length+1:=by rw[esp,K5];rfl
  have:=g1.be p.1.sp.length a (by lia) (by lia)
  rw[bits,fe,Le (by lia),lbe,NF]at this
  have e:((([p.2]:List Nat).getD 0 0).testBit a || (p.2.testBit p.1.sp.length&&decide (a=p.1.sp.length)))=p.2.testBit a:=by
   rw[Lq (by lia:¬a=p.1.sp.length),OA,NK]
   rfl
  rw[e]at this
  rw[this]
  exact#[λz=>#[z.1.symm,z.2.symm],λz=>#[z.1.symm,z.2.symm]]
 apply#[?_,?_,?_,eown]
 ·rw[esp]
  show(bN f m T (gs.take k)).W.sp++_=_
  rw[e0]
 ·rw[etk2]
  show(bN f m T (gs.take k)).W.tk++_=_
  rw[e0]
 ·show iy (λj=>dz (px (bN f m T (gs.take k)) x (some f.oc.length)) j (bN f m T (gs.take k)).W.sp.length) (bN f m T (gs.take k)).W.sp.length ((bN f m T (gs.take k)).W.be++[0]) (bN f m T (gs.take k)).W.sp.length=_
  rw[e0]
  have l0:(p.1.be++[0]).length=p.1.sp.length+1:=by rw[K5,lbe];rfl
  apply lz ?_ λa c ha=>?_
  ·rw[eK,l0,ebe,de,K5,lbe]
   rfl
  ·rw[eK,l0]at ha
   rw[kS l0 a c _ (La _),bits,fe,fe,lbe]
   by_cases h1:a<p.1.sp.length
   ·rw[Ls h1,Ls h1,Lk h1,nb a h1,Lq (by lia:¬a=p.1.sp.length)]
    simp
   ·have h2:a=p.1.sp.length:=by lia
    rw[Le h1,Le h1,Lq h1,Lk h2,h2,NF]
    have q:p.2.testBit p.1.sp.length=false:=by
     cases z:p.2.testBit p.1.sp.length with
     |false=>rfl
     |true=>exact absurd (b_lt _ z) (Me _)
    rw[q]
    by_cases hc:c<p.1.sp.length
    ·rw[Lk hc,nb c hc]
     simp
    ·rw[Lq hc]
     have q2:p.2.testBit c=false:=by
      cases z:p.2.testBit c with
      |false=>rfl
      |true=>exact absurd (b_lt _ z) hc
     simp[q2]
end Uf
end
namespace Uf
open PySem L2 UfB
abbrev nA:Stmt:=top 57
def Bx(x n:Nat):Builtin.bitOr (x:Int) (1*2 ^ ((n:Nat):Int).toNat)=((x ||| 2 ^ n:Nat):Int):=by
 rw[QD,LW,show(2:Int) ^ n=((2 ^ n:Nat):Int) by push_cast;rfl,gL]
def dgT{H:Hp}{w md sq cq pq tq dq:Addr}(h:H w=some (.dK (c9 md sq cq pq tq dq))):dI H w (.str "takers") (some (.ref tq)):=qF ▸ dI.k (k:=Sum.inr "takers") h
def JE{H:Hp}{w md sq cq pq tq dq:Addr}(h:H w=some (.dK (c9 md sq cq pq tq dq))):dI H w (.str "side") (some (.ref dq)):=x8 ▸ dI.k (k:=Sum.inr "side") h
structure Sep(cq pq sq tq dq:Addr):Prop where
 st:sq≠tq
 sd:sq≠dq
 td:tq≠dq
 ps:pq≠sq
 pt:pq≠tq
 pd:pq≠dq
 cs:cq≠sq
 ct:cq≠tq
 cd:cq≠dq
 cp:cq≠pq
structure Ax(f:WF)(g:Option Nat):Prop where
 tl:f.W.tk.length=f.W.sp.length
 bl:f.W.be.length=f.W.sp.length
 gX:f.W.sp.length<250
 so:∀s<f.W.sp.length,kX f s
 g:∀j,g=some j->j<f.own.length
def Ax.AH{f:WF}{g:Option Nat}{x:Str}{i s:Nat}(h:Ax f g)(hs:s<f.W.sp.length+1):kX (iB f x g i) s:=by
 apply#[by show s<(f.W.sp++[(x,g)]).length;rw[K5];exact hs,λj hj=>?_]
 have hj:eY (f.W.sp++[(x,g)]) s=some j:=hj
 unfold eY at hj
 by_cases h1:s<f.W.sp.length
 ·rw[Mb h1]at hj
  exact(h.so s h1).g j hj
 ·have e:s=f.W.sp.length:=by lia
  rw[e,MI (La _),NF]at hj
  exact h.g j hj
def rz:Sp:=λvs H Q _=>∃(w md sq cq pq tq dq:Addr) (f:WF) (x:Str) (g:Option Nat),vs=[.ref w,.str x,gv g]/\dQ H w md sq cq pq tq dq f/\Sep cq pq sq tq dq/\Ax f g /\
 ∀H',dQ H' w md sq cq pq tq dq (xF f x g)->cG [sq,tq,dq] H H'->Q .non H'
def rQ:aF ["_law_web","_law_place","_law_giver","_law_number","_law_spot"] ["_law_web","_law_place","_law_giver"] (av nA):=ff
inductive ScI(H:Hp)(w md sq cq pq tq dq:Addr)(f:WF)(x:Str)(g:Option Nat)(i:Nat)(σ:St)(H2:Hp):Prop
 |mk (v4:Option V) (q0:σ=[some (.ref w),some (.str x),some (gv g),some (nat f.W.sp.length),v4]) (q1:dQ H2 w md sq cq pq tq dq (iB f x g i)) (q2:cG [sq,tq,dq] H H2)
def BZ{f:Addr}{fd:FuncData}(F:dN K "_law_spot_comes" "_law_spot_comes" nA f fd)(T:Txt K mg)(T2:Txt2 mg)
  (DN:gG P w K mg base "_law_near" yk ["_law_web","_law_one","_law_other"] 2 Ao) :
  bf P w K mg base cZ 3 f fd ["_law_web","_law_place","_law_giver"] rz:=by
 apply F.oK rQ λcdv A outer s H vs Q E hr h=>?_
 ·obtain⟨w,md,sq,cq,pq,tq,dq,f,x,g,rfl,O,D,fo,kk⟩:=h
  have hu:=c7 hr
  have hsl:=LG
  apply#[_,ag (cM 3 rQ (aA bB rfl T.len cY (aa (bC hu (pv 0) bX (λ_ _=>rfl)) af)))
   (ag (a9 (df Lr Lv Lw bb (bC hu (pv 0) bX (λ_ _=>rfl)) (aa (cX (aa (pv 1) (aa (pv 2) af))) af)))
   (ag (a9 (df Lr Lv Lw bb (bC hu (pv 0) bX (λ_ _=>rfl)) (aa aj af)))
   (ag (a9 (df Lr Lv Lw bb (bC hu (pv 0) bX (λ_ _=>rfl)) (aa aj af)))
   (ak (bO LC rfl (fj rfl T2.rng (aa (pv 3) af)) (fE 4 rQ)
    (ak (bK (ck (eV DN hr (aa (pv 0) (aa (pv 4) (aa (pv 3) af)))))
     (ag (jz (aw iU (aQ aI (bC hu (pv 0) bX (λ_ _=>rfl)) (pv 4) (λ_ _=>rfl)) (aw kK aj (pv 3))) (k6 (bC hu (pv 0) bX (λ_ _=>rfl)) (pv 4) set_list))
     (ak (jz (aw iU (aQ aI (bC hu (pv 0) bX (λ_ _=>rfl)) (pv 3) (λ_ _=>rfl)) (aw kK aj (pv 4))) (k6 (bC hu (pv 0) bX (λ_ _=>rfl)) (pv 3) set_list)))) aM))))))),?_]
  ac_rfl
  obtain⟨qs,hqs,hp⟩:=O.sp
  have lq:=Lz hp
  have tl:=fo.tl
  have bl:=fo.bl
  have gX:=fo.gX
  apply#[Z,w,Z,O.kQ,_,qs.length,rfl,.inl #[_,aH.of hqs,by rw[K4]],?_]
  rw[<-lq]
  apply#[Z,w,Z,O.kQ,.inl #[rfl,_,aH.of hqs],Z,Z,by show 2<=sizeLine;lia,λt nt=>?_]
  obtain⟨H1,eU,s1,ht⟩:=fL nt (.tup [.str x,gv g])
  rw[eU]
  have hsq:=s1 _ _ hqs
  apply#[sq,_,Z,rfl,hsq,by rw[K4];lia,?_]
  have hp1:fh H1 f.W.sp qs:=Paired.cc hp λ_ _ e=>s1 _ _ e
  have hp2:fh H1 (f.W.sp++[(x,g)]) (qs++[t]):=ML hp1 ht
  have b1:cG [sq,tq,dq] H H1:=λc o e _=>s1 _ _ e
  have b2:=b1.upd (a:=sq) (o:=.lst (qs.map V.ref++[V.ref t])) (by simp)
  have hp3:=fh.put (o':=.lst (qs.map V.ref++[V.ref t])) hp2 hsq
  have hs2:(upd H1 sq (.lst (qs.map V.ref++[V.ref t]))) sq=some (.lst ((qs++[t]).map V.ref)):=by rw[ae,Ll];rfl
  have ht2:(upd H1 sq (.lst (qs.map V.ref++[V.ref t]))) tq=some (.lst (nats f.W.tk)):=by rw[ai D.st.symm];exact s1 _ _ O.tk
  have hd2:(upd H1 sq (.lst (qs.map V.ref++[V.ref t]))) dq=some (.lst (nats f.W.be)):=by rw[ai D.sd.symm];exact s1 _ _ O.be
  have hw2:(upd H1 sq (.lst (qs.map V.ref++[V.ref t]))) w=some (.dK (c9 md sq cq pq tq dq)):=by rw[ai (aX (s1 _ _ O.w) hsq (λz=>nomatch z))];exact s1 _ _ O.w
  generalize upd H1 sq (.lst (qs.map V.ref++[V.ref t]))=H2 at b2 hp3 hs2 ht2 hd2 hw2 ⊢
  apply#[Z,w,Z,dgT hw2,.inl #[rfl,_,aH.of ht2],tq,_,Z,rfl,ht2,by rw[bD];lia,?_]
  have b3:=b2.upd (a:=tq) (o:=.lst (nats f.W.tk++[V.int 0])) (by simp)
  have hp4:=fh.put (o':=.lst (nats f.W.tk++[V.int 0])) hp3 ht2
  have hs3:(upd H2 tq (.lst (nats f.W.tk++[V.int 0]))) sq=some (.lst ((qs++[t]).map V.ref)):=by rw[ai D.st];exact hs2
  have ht3:(upd H2 tq (.lst (nats f.W.tk++[V.int 0]))) tq=some (.lst (nats (f.W.tk++[0]))):=by rw[ae];exact L6 (λz=>some (HO.lst z)) (eI f.W.tk 0)
  have hd3:(upd H2 tq (.lst (nats f.W.tk++[V.int 0]))) dq=some (.lst (nats f.W.be)):=by rw[ai D.td.symm];exact hd2
  have hw3:(upd H2 tq (.lst (nats f.W.tk++[V.int 0]))) w=some (.dK (c9 md sq cq pq tq dq)):=by rw[ai (aX hw2 ht2 (λz=>nomatch z))];exact hw2
  generalize upd H2 tq (.lst (nats f.W.tk++[V.int 0]))=H3 at b3 hp4 hs3 ht3 hd3 hw3 ⊢
  apply#[Z,w,Z,JE hw3,.inl #[rfl,_,aH.of hd3],dq,_,Z,rfl,hd3,by rw[bD];lia,?_]
  have b4:=b3.upd (a:=dq) (o:=.lst (nats f.W.be++[V.int 0])) (by simp)
  have hp5:=fh.put (o':=.lst (nats f.W.be++[V.int 0])) hp4 hd3
  have hs4:(upd H3 dq (.lst (nats f.W.be++[V.int 0]))) sq=some (.lst ((qs++[t]).map V.ref)):=by rw[ai D.sd];exact hs3
  have ht4:(upd H3 dq (.lst (nats f.W.be++[V.int 0]))) tq=some (.lst (nats (f.W.tk++[0]))):=by rw[ai D.td];exact ht3
  have hd4:(upd H3 dq (.lst (nats f.W.be++[V.int 0]))) dq=some (.lst (nats (f.W.be++[0]))):=by rw[ae];exact L6 (λz=>some (HO.lst z)) (eI f.W.be 0)
  have hw4:(upd H3 dq (.lst (nats f.W.be++[V.int 0]))) w=some (.dK (c9 md sq cq pq tq dq)):=by rw[ai (aX hw3 hd3 (λz=>nomatch z))];exact hw3
  generalize upd H3 dq (.lst (nats f.W.be++[V.int 0]))=H4 at b4 hp5 hs4 ht4 hd4 hw4 ⊢
  have npq:pq∉[sq,tq,dq]:=by simp[D.ps,D.pt,D.pd]
  have O4:dQ H4 w md sq cq pq tq dq (iB f x g 0):=#[hw4,#[_,hs4,hp5],ht4,hd4,b4 _ _ O.own npq]
  clear hp5 hp4 hp3 hp2 hp1 hs4 hs3 hs2 ht4 ht3 ht2 hd4 hd3 hd2 hw4 hw3 hw2 b1 b2 b3 hsq
  apply#[Z,Z,by lia,by lia,g0 (lo:=0) (n:=f.W.sp.length) (ScI H w md sq cq pq tq dq f x g) #[none,rfl,O4,b4] ?_ ?_]
  ·rintro i σ H5 hi ⟨v4,rfl,O5,b5⟩
   rw[show(0:Int)+(i:Int)=i from OW _]
   have lsp:(iB f x g i).W.sp.length=f.W.sp.length+1:=by show(f.W.sp++[_]).length=_;rw[K5];rfl
   have ltk:(iB f x g i).W.tk.length=f.W.sp.length+1:=by show(f.W.tk++[_]).length=_;rw[K5,tl];rfl
   have lbe:(iB f x g i).W.be.length=f.W.sp.length+1:=by show(iy _ _ _ _).length=_;rw[eK,K5,bl];rfl
   apply#[Z,Z,Z,w,md,sq,cq,pq,tq,dq,iB f x g i,i,f.W.sp.length,rfl,O5,by rw[lsp,ltk],fo.AH (by lia),fo.AH (by lia),Z,?_]
   have en:dz (iB f x g i) i f.W.sp.length=dz (px f x g) i f.W.sp.length:=rT _ _ rfl rfl rfl
   rw[en]
   have esu:=jB (λk=>dz (px f x g) k f.W.sp.length) f.W.sp.length (f.W.be++[0]) i
   cases c:dz (px f x g) i f.W.sp.length with
   |false =>
    apply bz ?_
    have e:iB f x g (i+1)=iB f x g i:=by
     unfold iB
     rw[esu,Le (by rw[c];simp)]
    exact#[Z,by rw[e];exact O5,b5]
   |true =>
    apply cy ?_
    have e:iB f x g (i+1)=#[#[f.W.sp++[(x,g)],f.W.tk++[0],fY (fY (iB f x g i).W.be i f.W.sp.length) f.W.sp.length i,f.W.pl],f.oc,f.own]:=by
     show(#[#[_,_,iy _ _ _ (i+1),_],_,_]:WF)=_
     rw[esu,Ls c]
     rfl
    have set1:∀(bs:List Nat) (j n:Nat),(nats bs).set j (V.int (Builtin.bitOr ((bs.getD j 0:Nat):Int) (1*2 ^ ((n:Nat):Int).toNat)))=nats (fY bs j n):=λbs j n=>by
     rw[Bx]
     exact jY _ _ _
    apply#[Z,w,Z,O5.Cz,Z,dq,_,_,Z,rfl,aH.of O5.be,aD (j:=i) (cV (by lia)),Z,_,Z,rfl,#[by lia,by lia,by decide],_,Z,rfl,Z,w,Z,O5.Cz,Z,dq,_,_,i,rfl,rfl,O5.be,by rw[bD];exact jX (by lia),?_]
    dsimp only
    rw[set1]
    have hw6:(upd H5 dq (.lst (nats (fY (iB f x g i).W.be i f.W.sp.length)))) w=some (.dK (c9 md sq cq pq tq dq)):=by rw[ai (aX O5.w O5.be (λz=>nomatch z))];exact O5.w
    have hd6:(upd H5 dq (.lst (nats (fY (iB f x g i).W.be i f.W.sp.length)))) dq=some (.lst (nats (fY (iB f x g i).W.be i f.W.sp.length))):=ae
    have l6:(fY (iB f x g i).W.be i f.W.sp.length).length=f.W.sp.length+1:=by rw[jT,lbe]
    apply#[Z,w,Z,JE hw6,Z,dq,_,_,Z,rfl,aH.of hd6,aD (j:=f.W.sp.length) (cV (by lia)),Z,_,Z,rfl,#[by lia,by lia,by decide],_,Z,rfl,Z,w,Z,JE hw6,Z,dq,_,_,f.W.sp.length,rfl,rfl,hd6,by rw[bD];exact jX (by lia),?_]
    dsimp only
    rw[set1,x4]
    obtain⟨qs5,hq5,hp5⟩:=O5.sp
    apply#[Z,?_,b5.upd (by simp)]
    rw[e]
    exact#[by rw[ai (aX O5.w O5.be (λz=>nomatch z))];exact O5.w,#[qs5,by rw[ai D.sd];exact hq5,fh.put hp5 O5.be],by rw[ai D.td];exact O5.tk,ae,by rw[ai D.pd];exact O5.own]
  ·rintro σ H5 ⟨v4,rfl,O5,b5⟩
   exact kk _ O5 b5
end Uf
namespace L2
open PySem PySem.Spec PyProof.Rows UfSrt
section
variable {X:Cx}{tg:Expr}
end
theorem qL{α β:Type}{F:α->β->Prop}:∀{l:List α} {m:List β} {i:Nat} {a:α},Paired F l m->l[i]?=some a->∃b,m[i]?=some b/\F a b
 |_,_,_,_,.nil,e=>by simp at e
 |_,_,0,_,.cons r _,e=>by
  simp at e
  subst e
  exact#[Z,r]
 |_,_,i+1,_,.cons _ t,e=>by
  obtain⟨a,h1,h2⟩:=qL (i:=i) t (by simpa using e)
  exact#[a,by simpa using h1,h2]
def Iu(a:Addr)(o:Obj)(kvs:List (Key×V)):It :=
 #[λi H=>H a=some (.frz o (.dK kvs))/\i<kvs.length,λi H x H'=>∃p k v,x=.ref p/\H p=none/\H'=upd H p (.tup [kV k,v])/\kvs[i]?=some (k,v),λi H=>H a=some (.frz o (.dK kvs))/\i=kvs.length]
def vw{P:Program}{w:World}{K:PySem.W.Frag}{elts:List Expr}{x1}{pos:Pos}{a it:Addr}{o:Obj}{kvs:List (Key×V)}{es:Array DictEntry}{ep:Nat}(hd:o.data=.dict es ep) :
  Turn P w K (.Tuple elts x1 pos) (Iu a o kvs) [it] it (λi h=>∃ok ov,IsItemIter h it a i kvs.length ep ok ov) where
 mem:=by simp
 obj:=λi h st b hb=>by
  have e:b=it:=by simpa using hb
  subst e
  obtain⟨ok,ov,e⟩:=st
  exact#[_,e,λv z=>by
   have z':Data.fields _=Data.cell v:=z
   cases z']
 keep:=λi h h' st k=>let #[ok,ov,e]:=st;#[ok,ov,k it (by simp) _ e]
 item:=by
  intro X hP hw hK hc i pins s σ H E I hf st hg
  subst hP hw hK
  obtain⟨he,hi⟩:=hg
  obtain⟨vs,rel,hat,lo,hz⟩:=Bj I he hd
  obtain⟨ok,ov,hit⟩:=st
  have hl:kvs.length=vs.length:=rel.length
  have hx:kvs[i]?=some kvs[i]:=K7 hi
  obtain⟨⟨k',u⟩,hu,hrel⟩:=qL rel hx
  have hkk:kvs[i].1=k':=hrel.1
  rw[hl]at hit
  have ilt:it<s.heap.objs.size:=Li hit
  apply wpAny_pyNext_items_item hit hat hu λkey h1 hk ho hT hsz hkeep=>?_
  apply#[.ref s.heap.objs.size,rfl,wpAny_letOwnedTupleGo_items ho λh2 he2 hs2=>?_]
  have kk:∀b o,b∉[it]->s.heap.get? b=some o->h2.get? b=some o:=λb o hb q=>by
   have n1:b≠it:=λz=>hb (by simp[z])
   exact(hs2.2 b n1).trans (hkeep b o n1 q)
  have hT2:h2.get? s.heap.objs.size=some { cls:=.type "tuple",data:=.seq (List.toArray [key,u]) }:=(hs2.2 _ (M4 ilt)).trans hT
  have hn:=I.hok.fresh (La s.heap.objs.size)
  rw[<-hkk]at hk
  apply#[.ref s.heap.objs.size,upd H s.heap.objs.size (.tup [kV kvs[i].1,kvs[i].2]),I.qA (t':=s.toks) hf kk (La _) #[by show 2<=sizeLine;rw[L7];decide,[key,u],.cons (Jq hk) (.cons hrel.2 .nil),_,hT2,rfl,_,rfl],rfl,#[_,_,Z,hn,rfl,hx],#[_,_,by rw[hl];exact he2],λb hb=>?_]
  have z:b=it:=by simpa using hb
  rw[ai (by rw[z];exact LB ilt)]
  exact(hf b hb).1
 done:=by
  intro X hP hw hK hc i pins s σ H E I hf st hg
  subst hP hw hK
  obtain⟨he,hi⟩:=hg
  obtain⟨vs,rel,hat,lo,hz⟩:=Bj I he hd
  obtain⟨f0,f1,f2,f3,f4,f5⟩:=hf it (by simp)
  obtain⟨ok,ov,hit⟩:=st
  have hl:kvs.length=vs.length:=rel.length
  rw[hl]at hit hi
  exact wpAny_pyNext_items_end (I.ok.hd hc) hit hat (Ma (by lia)) λh' eb=>#[rfl,I.turned (t':=s.toks) (λb o hb e=>eb b o hb e) f0 f1 f3 f4 f5]
 self:=λ_ _ _ _ _ st h=>let #[_,_,e]:=st;PySem.W.kcp_self e h
section
variable {X:Cx}{elts:List Expr}{x1:Nat}{tpos:Pos}
def FX(tl:TE):TI:=λσ H R=>tl σ H λx H1=>∃a o kvs,x=.ref a/\H1 a=some (.frz o (.dK kvs))/\R (Iu a o kvs) H1
def AQ{l:Expr}{tl:TE}{apos cpos:Pos}(hl:PE X l tl)(hbase:attributeBase l "items" X.env (eval l X.env)=eval l X.env:=by rfl)(hline:(apos.endLine==cpos.line)=true:=by rfl):PI X (.Tuple elts x1 tpos) (.Call (.Attribute l "items" apos) [] [] cpos) (FX tl):=by
 intro pins s σ H R I h
 apply PL hbase hline (cD (hl pins s σ H _ I h) λv s1 hZ=>?_)
 obtain⟨x,H1,I1,r1,a,o,kvs,e,ea,q⟩:=hZ
 subst e
 cases r1
 obtain⟨ho,z,y,vs,rel,dd⟩:=(show cw X.prog X.w H1 s1.heap a (.frz o (.dK kvs)) from I1.hok a _ ea)
 obtain⟨ep,hat⟩:=dd.dictAt
 obtain⟨o',es,ho',hc',hd',_⟩:=id hat
 have ho2:=ho
 rw[ho]at ho'
 cases ho'
 have hl:kvs.length=vs.length:=rel.length
 apply#["dict","dict.items",PySem.F.plainAttrs_dict,PR,PySem.F.type_dict_items,dd.typeIs,?_,OI rfl (Qu ?_)]
 ·exact(Ho I1 (.inl #[kvs,.inr #[o,ea]])).2.1
 apply call_meetsIn PR dd.typeIs PySem.F.entry_dict_items (PySem.F.args_dict_items_1 _) (meets_dict_items _ a y) #[#[vs,dd],?_]
 apply wpAny_pyIter_items (kvs:=vs) (ep:=ep) (knd:=aV X.prog X.w) (v:=s1.heap.objs.size) (d:=a) #[_,Ly _ rfl,rfl,rfl] (hat.at' λo e=>K8 _ e) ?_
 apply#[_,[_],_,_,H1,rfl,I1.kept (t':=s1.toks) λb o e=>K8 _ (K8 _ e),vw (kvs:=kvs) hd',#[_,_,by rw[hl];exact Ly _ rfl],λb hb=>?_,q]
 have e:=LZ.mp hb
 subst e
 exact I1.zd (by rw[MJ];exact Mq _) (I1.hok.fresh (by rw[MJ];exact Mq _))
def IH(te:TE):TE:=λσ H Q=>te σ H λv H1=>∃a kvs,H1 a=some (.dK kvs)/\∀o,Q v (upd H1 a (.frz o (.dK kvs)))
def Ep{e:Expr}{te:TE}(he:PE X e te):PE X e (IH te):=by
 intro pins s σ H Q I h
 apply cD (he pins s σ H _ I h) λu s1 hZ=>?_
 obtain⟨v,H1,I1,r1,a,kvs,ea,q⟩:=hZ
 obtain⟨o,I2⟩:=I1.Jw ea
 exact#[v,_,I2,r1,q o]
end
def zg{a:Addr}{o:Obj}{kvs:List (Key×V)}{g:TG}{tb:TS}{D:Ends}{σ:St}{H:Hp}(Pv:Nat->St->Hp->Prop)(h0:Pv 0 σ H)(hl:∀i σ H,i<=kvs.length->Pv i σ H->H a=some (.frz o (.dK kvs)))
  (hs:∀i k v p σ H,kvs[i]?=some (k,v)->Pv i σ H->H p=none->g (.ref p) σ (upd H p (.tup [kV k,v])) λσ2 H2=>tb { D with nx:=Pv (i+1),ct:=Pv (i+1),bk:=D.nx } σ2 H2) (hd:∀σ H,Pv kvs.length σ H->D.nx σ H) :
  ∃W:Nat->Nat->St->Hp->Prop,(∃m,W 0 m σ H)/\∀i m σ H,W i m σ H ->
   ((Iu a o kvs).stop i H/\D.nx σ H)\/((Iu a o kvs).go i H/\∃N:St->Hp->Prop,(∀σ' H',N σ' H'->∃m',m'<m/\W (i+1) m' σ' H')/\∀x H',(Iu a o kvs).yld i H x H'->g x σ H' λσ2 H2=>tb { D with nx:=N,ct:=N,bk:=D.nx } σ2 H2):=by
 apply#[λi m σ H=>m=kvs.length-i/\i<=kvs.length/\Pv i σ H,#[kvs.length,by simp,LA _,h0],?_]
 rintro i m σ H ⟨rfl,hi,p⟩
 have q:=hl i σ H hi p
 by_cases hlt:i<kvs.length
 ·apply .inr ⟨⟨q,hlt⟩,Pv (i+1),λσ' H' p'=>⟨kvs.length-(i+1),by lia,rfl,hlt,p'⟩,λx H' y=>?_⟩
  obtain⟨pp,k,v,rfl,hn,rfl,hkv⟩:=y
  exact hs i k v pp σ _ hkv p hn
 ·have e:i=kvs.length:=by lia
  subst e
  exact .inl #[#[q,rfl],hd σ H p]
def dI.kf{H:Hp}{a:Addr}{o:Obj}{kvs:List (Key×V)}{k:Key}(e:H a=some (.frz o (.dK kvs))):dI H a (kV k) (dE kvs k):=.inl #[kvs,k,.inr #[o,e],rfl,rfl]
end L2
namespace Uf
open PySem L2 UfB UfSrt
abbrev rX:Stmt:=top 58
def dQ.alike{H:Hp}{w md sq cq pq tq dq:Addr}{f f':WF}(h:dQ H w md sq cq pq tq dq f)(a:Alike f f'):dQ H w md sq cq pq tq dq f' :=
 #[h.w,by rw[<-a.sp];exact h.sp,by rw[<-a.tk];exact h.tk,by rw[<-a.be];exact h.be,by rw[<-a.own];exact h.own]
abbrev EZ(H:Hp):List (Str×List Nat)->List Addr->Prop:=Paired λp q=>∃t,H q=some (.tup [.str p.1,.ref t])/\H t=some (.tup (nats p.2))
def F2(H:Hp)(as:List Addr)(m:Mv)(q:Addr):Prop:=∃l g,H q=some (.tup [.ref l,.ref g])/\H l=some (.lst (aE (aL m.2.1)))/\H g=some (.lst (aE (aL m.2.2)))/\l∉as/\g∉as
def lX:List Mv->List Addr->List (Key×V)
 |m::ms,q::qs=>(Sum.inr m.1,.ref q)::lX ms qs
 |_,_=>[]
theorem xQ{H:Hp}{as:List Addr}{m:Mv}:∀{ms:List Mv} {qs:List Addr},Paired (F2 H as) ms qs->(names ms).Nodup->m∈ms->∃q,dE (lX ms qs) (Sum.inr m.1)=some (.ref q)/\F2 H as m q
 |_,_,.nil,_,h=>nomatch h
 |m'::ms,q::qs,.cons e r,hn,h=>by
  obtain⟨n1,n2⟩:=Mo.mp (show(m'.1::names ms).Nodup from hn)
  rcases Lc.mp h with z|z
  ·subst z
   exact#[q,cx rfl,e]
  ·obtain⟨q',h1,h2⟩:=xQ r n2 z
   apply#[q',?_,h2]
   show dE ((Sum.inr m'.1,V.ref q)::lX ms qs) _=_
   rw[bA]
   ·exact h1
   ·intro e
    have e:m'.1=m.1:=NR e
    exact n1 (by rw[e];exact LQ.mpr #[m,z,rfl])
structure iG(H:Hp)(w md sq cq pq tq dq:Addr)(ms:List Mv)(f:WF):Prop where
 ow:dQ H w md sq cq pq tq dq f
 cm:∃qs,H cq=some (.lst (qs.map V.ref))/\EZ H f.oc qs
 mv:∃o qs,H md=some (.frz o (.dK (lX ms qs)))/\Paired (F2 H [cq,pq,sq,tq,dq]) ms qs
theorem qK(f:WF):∀(T:List Nat) (x a:Nat),T.foldl (λa t=>a ||| fc f t) (x ||| a)=x ||| T.foldl (λa t=>match eY f.W.sp t with|some g=>a ||| f.own.getD g 0|none=>a) a
 |[],x,a=>rfl
 |t::T,x,a=>by
  rw[MP,MP,Nat.or_assoc,qK f T]
  congr 1
  unfold fc
  cases eY f.W.sp t with
  |none=>rw[Nat.or_zero]
  |some g=>rfl
def Bw(f:WF)(T:List Nat)(x:Nat):T.foldl (λa t=>a ||| fc f t) x=x ||| cN f T:=by
 have:=qK f T x 0
 rwa[Nat.or_zero]at this
def xO:Sp:=λvs H Q _=>∃(w md sq cq pq tq dq tt:Addr) (ms:List Mv) (f:WF) (m:Mv) (T:List Nat),vs=[.ref w,.str m.1,.ref tt]/\iG H w md sq cq pq tq dq ms f/\Sep cq pq sq tq dq/\Good f/\(names ms).Nodup/\m∈ms/\H tt=some (.tup (nats T))/\uz f T (aL m.2.2)/\f.oc.length<=200 /\
 ∀H',iG H' w md sq cq pq tq dq ms (bN f m.1 T (aL m.2.2))->cG [cq,pq,sq,tq,dq] H H'->Q .non H'
def i9:aF ["_law_web","_law_move","_law_spots","_law_number","_law_past_here","_law_spot","_law_place"] ["_law_web","_law_move","_law_spots"] (av rX):=ff
def Ed(f:WF)(T:List Nat)(i:Nat):WF:=#[#[f.W.sp,bL f.W.tk (T.take i) f.oc.length,f.W.be,f.W.pl],f.oc,f.own]
inductive CoI(H:Hp)(w md sq cq pq tq dq tt:Addr)(f:WF)(m:Str)(T:List Nat)(i:Nat)(σ:St)(H2:Hp):Prop
 |mk (v5 v6:Option V) (q0:σ=[some (.ref w),some (.str m),some (.ref tt),some (nat f.oc.length),some (nat ((T.take i).foldl (λa t=>a ||| fc f t) (2 ^ f.oc.length))),v5,v6]) (q1:dQ H2 w md sq cq pq tq dq (Ed f T i)) (q2:cG [tq] H H2)
inductive CoJ(H:Hp)(w md sq cq pq tq dq tt:Addr)(f:WF)(m:Str)(T:List Nat)(gs:List Str)(v4 v5:Option V)(i:Nat)(σ:St)(H2:Hp):Prop
 |mk (v6:Option V) (q0:σ=[some (.ref w),some (.str m),some (.ref tt),some (nat f.oc.length),v4,v5,v6]) (q1:dQ H2 w md sq cq pq tq dq (bN f m T (gs.take i))) (q2:cG [sq,tq,dq] H H2)
def Cd{f:Addr}{fd:FuncData}(F:dN K "_law_comes" "_law_comes" rX f fd)(T0:Txt K mg)
  (DP:gG P w K mg base "_law_past" sW ["_law_web","_law_spot"] 1 vH)
  (DS:gG P w K mg base "_law_spot_comes" nA ["_law_web","_law_place","_law_giver"] 3 rz) :
  bf P w K mg base cZ 4 f fd ["_law_web","_law_move","_law_spots"] xO:=by
 apply F.oK i9 λcdv A outer s H vs Q E hr h=>?_
 ·obtain⟨w,md,sq,cq,pq,tq,dq,tt,ms,f,m,T,rfl,O,D,gd,hn,hm,htt,may,loc,kk⟩:=h
  have hu:=c7 hr
  have hsl:=LG
  apply#[_,ag (cM 3 i9 (aA bB rfl T0.len cY (aa (bC hu (pv 0) bX (λ_ _=>rfl)) af)))
   (ag (a9 (df Lr Lv Lw bb (bC hu (pv 0) bX (λ_ _=>rfl)) (aa (cX (aa (pv 1) (aa (pv 2) af))) af)))
   (ag (cM 4 i9 (aw kK aj (pv 3)))
   (ag (bO LC rfl (jM (pv 2)) (fE 5 i9)
    (ag (cM 4 i9 (aw iU (pv 4) (eV DP (hr.mono (by decide)) (aa (pv 0) (aa (pv 5) af)))))
    (ak (jz (aw iU (aQ aI (bC hu (pv 0) bX (λ_ _=>rfl)) (pv 5) (λ_ _=>rfl)) (aw kK aj (pv 3))) (k6 (bC hu (pv 0) bX (λ_ _=>rfl)) (pv 5) set_list)))))
   (ag (a9 (df Lr Lv Lw bb (bC hu (pv 0) bX (λ_ _=>rfl)) (aa (pv 4) af)))
   (ak (bO LC rfl (aZ (aQ cL (bC hu (bC hu (pv 0) bX (λ_ _=>rfl)) (pv 1) (λ_ _=>rfl)) aj (λ_ _=>rfl))) (fE 6 i9)
    (ak (a9 (eV DS hr (aa (pv 0) (aa (pv 6) (aa (pv 3) af)))))))))))),?_]
  ac_rfl
  obtain⟨qc,hqc,hcm⟩:=O.cm
  obtain⟨om,qm,hmd,hmv⟩:=O.mv
  have ow:=O.ow
  have lqc:=Lz hcm
  have lsts:∀c∈[cq,pq,sq,tq,dq],∃xs,H c=some (.lst xs):=λc hc=>by
   obtain⟨qs,hqs,_⟩:=ow.sp
   simp at hc
   rcases hc with rfl|rfl|rfl|rfl|rfl
   ·exact#[_,hqc]
   ·exact#[_,ow.own]
   ·exact#[_,hqs]
   ·exact#[_,ow.tk]
   ·exact#[_,ow.be]
  have noT:∀{c ys},H c=some (.tup ys)->c∉[cq,pq,sq,tq,dq]:=λ{c ys} e hc=>by
   obtain⟨xs,h⟩:=lsts c hc
   rw[e]at h
   cases h
  have noD:∀{c ys},H c=some (.dK ys)->c∉[cq,pq,sq,tq,dq]:=λ{c ys} e hc=>by
   obtain⟨xs,h⟩:=lsts c hc
   rw[e]at h
   cases h
  have noF:∀{c o ys},H c=some (.frz o (.dK ys))->c∉[cq,pq,sq,tq,dq]:=λ{c o ys} e hc=>by
   obtain⟨xs,h⟩:=lsts c hc
   rw[e]at h
   cases h
  apply#[Z,w,Z,ow.uS,_,qc.length,rfl,.inl #[_,aH.of hqc,by rw[K4]],?_]
  rw[<-lqc]
  apply#[Z,w,Z,ow.uS,.inl #[rfl,_,aH.of hqc],Z,Z,by show 2<=sizeLine;lia,λt nt=>?_]
  obtain⟨H1,eU,s1,ht⟩:=fL nt (.tup [.str m.1,.ref tt])
  rw[eU]
  apply#[cq,_,Z,rfl,s1 _ _ hqc,by rw[K4];lia,?_]
  have hc1:=s1 _ _ hqc
  have b2:cG [cq] H (upd H1 cq (.lst (qc.map V.ref++[V.ref t]))):=(show cG [cq] H H1 fromλc o e _=>s1 _ _ e).upd (by simp)
  have hc2:(upd H1 cq (.lst (qc.map V.ref++[V.ref t]))) cq=some (.lst ((qc++[t]).map V.ref)):=by rw[ae,Ll];rfl
  have ht2:(upd H1 cq (.lst (qc.map V.ref++[V.ref t]))) t=some (.tup [.str m.1,.ref tt]):=by rw[ai (aX ht hc1 (λz=>nomatch z))];exact ht
  generalize upd H1 cq (.lst (qc.map V.ref++[V.ref t]))=H2 at b2 hc2 ht2 ⊢
  have not1:∀{c},c∉[cq,pq,sq,tq,dq]->c∉[cq]:=λ{c} h z=>h (by simp at z;simp[z])
  have htt2:=b2 _ _ htt (not1 (noT htt))
  have hcm2:EZ H2 (f.oc++[(m.1,T)]) (qc++[t]):=ML (Paired.cc hcm λp q #[u,e1,e2]=>#[u,b2 _ _ e1 (not1 (noT e1)),b2 _ _ e2 (not1 (noT e2))]) #[tt,ht2,htt2]
  have O2:dQ H2 w md sq cq pq tq dq (Ed f T 0):=by
   obtain⟨qs,hqs,hp⟩:=ow.sp
   exact#[b2 _ _ ow.w (not1 (noD ow.w)),#[qs,b2 _ _ hqs (by simp[D.cs.symm]),Paired.cc hp λp q e=>b2 _ _ e (not1 (noT e))],b2 _ _ ow.tk (by simp[D.ct.symm]),b2 _ _ ow.be (by simp[D.cd.symm]),b2 _ _ ow.own (by simp[D.cp.symm])]
  have lt:=gd.tl
  apply#[Z,_,Z,rfl,#[by lia,by lia,by decide],?_]
  apply#[Z,tt,rfl,#[_,cz.of htt2],my (K:=K) (a:=tt) (xs:=nats T) (CoI H2 w md sq cq pq tq dq tt f m.1 T) #[none,none,?_,O2,λc o e _=>e] (λi σ H3 _ h=>?_) ?_ ?_]
  ·show _=[_,_,_,_,some (nat (2 ^ f.oc.length)),_,_]
   have e:V.int (1*2 ^ ((f.oc.length:Nat):Int).toNat)=nat (2 ^ f.oc.length):=by
    rw[QD,LW]
    unfold nat
    push_cast
    rfl
   rw[<-e]
   rfl
  ·obtain⟨_,_,_,_,b⟩:=h
   exact cz.of (b _ _ htt2 λz=>by
    have z:tt=tq:=by simpa using z
    have:=O2.tk
    rw[<-z,htt2]at this
    cases this)
  ·rintro i v σ H3 hi ⟨v5,v6,rfl,O3,b3⟩
   have hil:i<T.length:=by
    have:=(Lh.mp hi).1
    rwa[bD]at this
   rw[cV hil]at hi
   have hT:T[i]?=some (T.getD i 0):=by rw[K7 hil,Lb,K7 hil];rfl
   obtain rfl:=LS hi
   generalize T.getD i 0=t0 at hT
   have ht0:=may.lt t0 (Lg hT)
   have so:kX (Ed f T i) t0:=#[ht0,λg hg=>by
    show g<f.own.length
    rw[gd.wl]
    exact gd.gvlt t0 g hg]
   have l3:(Ed f T i).W.tk.length=f.W.sp.length:=by show(bL _ _ _).length=_;rw[de,lt]
   apply#[Z,Z,Z,w,md,sq,cq,pq,tq,dq,Ed f T i,t0,rfl,O3,so,_,Z,rfl,?_]
   have set1:∀(bs:List Nat) (j n:Nat),(nats bs).set j (V.int (Builtin.bitOr ((bs.getD j 0:Nat):Int) (1*2 ^ ((n:Nat):Int).toNat)))=nats (fY bs j n):=λbs j n=>by
    rw[Bx]
    exact jY _ _ _
   apply#[Z,w,Z,O3.j8,Z,tq,_,_,Z,rfl,aH.of O3.tk,aD (j:=t0) (cV (by lia)),Z,_,Z,rfl,#[by lia,by lia,by decide],_,Z,rfl,Z,w,Z,O3.j8,Z,tq,_,_,t0,rfl,rfl,O3.tk,by rw[bD];exact jX (by lia),?_]
   dsimp only
   rw[set1,gL]
   have e5:bL f.W.tk (T.take (i+1)) f.oc.length=fY (Ed f T i).W.tk t0 f.oc.length:=by
    rw[ay hT,jH]
    rfl
   obtain⟨qs3,hq3,hp3⟩:=O3.sp
   apply#[some (nat t0),v6,?_,#[by rw[ai (aX O3.w O3.tk (λz=>nomatch z))];exact O3.w,#[qs3,by rw[ai D.st];exact hq3,fh.put hp3 O3.tk],?_,by rw[ai D.td.symm];exact O3.be,by rw[ai D.pt];exact O3.own],b3.upd (by simp)]
   ·rw[ay hT,MZ]
    rfl
   ·rw[ae]
    show _=some (HO.lst (nats (bL f.W.tk (T.take (i+1)) f.oc.length)))
    rw[e5]
  ·rintro σ H3 ⟨v5,v6,rfl,O3,b3⟩
   have eT:T.take (nats T).length=T:=by rw[bD,LH]
   rw[eT,Bw]
   apply#[Z,w,Z,O3.FC,.inl #[rfl,_,aH.of O3.own],Z,pq,_,Z,rfl,O3.own,by rw[bD];show f.own.length<_;rw[gd.wl];lia,?_]
   rw[eI]
   have b4:=(show cG [pq] H3 H3 fromλc o e _=>e).upd (a:=pq) (o:=.lst (nats ((Ed f T (nats T).length).own++[2 ^ f.oc.length ||| cN f T]))) (by simp)
   have hq4:(upd H3 pq (.lst (nats ((Ed f T (nats T).length).own++[2 ^ f.oc.length ||| cN f T])))) pq=_:=ae
   generalize upd H3 pq (.lst (nats ((Ed f T (nats T).length).own++[2 ^ f.oc.length ||| cN f T])))=H4 at b4 hq4 ⊢
   have old4:∀{c o},H c=some o->c∉[cq,pq,sq,tq,dq]->H4 c=some o:=λ{c o} e n=>b4 _ _ (b3 _ _ (b2 _ _ e (not1 n)) (λz=>n (by simp at z;simp[z]))) (λz=>n (by simp at z;simp[z]))
   have hc4:H4 cq=some (.lst ((qc++[t]).map V.ref)):=b4 _ _ (b3 _ _ hc2 (by simp[D.ct])) (by simp[D.cp])
   have tup4:∀{c ys},H2 c=some (.tup ys)->H4 c=some (.tup ys):=λ{c ys} e=>by
    have n1:c∉[tq]:=λz=>by
     have z:c=tq:=by simpa using z
     have:=O2.tk
     rw[<-z,e]at this
     cases this
    have e3:=b3 _ _ e n1
    exact b4 _ _ e3 λz=>by
     have z:c=pq:=by simpa using z
     have:=O3.own
     rw[<-z,e3]at this
     cases this
   have hcm4:EZ H4 (f.oc++[(m.1,T)]) (qc++[t]):=Paired.cc hcm2 λp q #[u,e1,e2]=>#[u,tup4 e1,tup4 e2]
   have O4:dQ H4 w md sq cq pq tq dq (bN f m.1 T []):=by
    obtain⟨qs3,hq3,hp3⟩:=O3.sp
    apply#[old4 ow.w (noD ow.w),#[qs3,b4 _ _ hq3 (by simp[D.ps.symm]),?_],?_,b4 _ _ O3.be (by simp[D.pd.symm]),hq4]
    ·apply Paired.cc hp3 λp q e=>b4 _ _ e λz=>?_
     have z:q=pq:=by simpa using z
     have:=O3.own
     rw[<-z,e]at this
     cases this
    ·have:=b4 _ _ O3.tk (by simp[D.pt.symm])
     rw[this]
     show some (HO.lst (nats (bL f.W.tk (T.take (nats T).length) f.oc.length)))=_
     rw[eT]
     rfl
   obtain⟨q,hv,l,g,hq,hl,hg,nl,ng⟩:=xQ hmv hn hm
   have hmd4:=old4 hmd (noF hmd)
   have hg4:=old4 hg ng
   have ng3:g∉[sq,tq,dq]:=λz=>ng (by simp at z;rcases z with z|z|z <;> simp[z])
   apply#[Z,w,Z,O4.CK,Z,md,Z,hv ▸ dI.kf (k:=Sum.inr m.1) hmd4,q,_,1,Z,rfl,cz.of (old4 hq (noT hq)),aD (j:=1) rfl,g,rfl,#[_,aH.of hg4],bJ (K:=K) (a:=g) (xs:=aE (aL m.2.2)) (CoJ H4 w md sq cq pq tq dq tt f m.1 T (aL m.2.2) _ _) #[Z,O4,λc o e _=>e] (λi σ H5 _ h=>?_) ?_ ?_]
   ·obtain⟨_,_,_,b⟩:=h
    exact aH.of (b _ _ hg4 ng3)
   ·rintro i v σ H5 hi ⟨v6,rfl,O5,b5⟩
    obtain⟨x,hx,rfl⟩:=c6 hi
    have hil:i<(aL m.2.2).length:=(Lh.mp hx).1
    have gX:=may.gX
    have mayk:uz f T ((aL m.2.2).take i):=#[may.lt,may.ne,may.side,by rw[Lf];lia]
    have g5:=kY (m:=m.1) gd mayk
    have l5:(bN f m.1 T ((aL m.2.2).take i)).W.sp.length=f.W.sp.length+i:=by
     have A:=(gU gd mayk).sp
     show(bx _ _ _).1.sp.length=_
     rw[A,K5,K4,Lf]
     show f.W.sp.length+_=_
     lia
    have fit:Ax (bN f m.1 T ((aL m.2.2).take i)) (some f.oc.length):=#[g5.tl,g5.bl,by lia,λs hs=>#[hs,λj hj=>by rw[g5.wl];exact g5.gvlt s j hj],λj e=>by
     cases e
     rw[g5.wl]
     show f.oc.length<(f.oc++[_]).length
     simp]
    apply#[Z,Z,Z,w,md,sq,cq,pq,tq,dq,bN f m.1 T ((aL m.2.2).take i),x,some f.oc.length,rfl,O5,D,fit,λH6 O6 b6=>?_]
    exact#[Z,O6.alike (yQ gd may hx),λc o e n=>b6 _ _ (b5 _ _ e n) n]
   ·rintro σ H5 ⟨v6,rfl,O5,b5⟩
    rw[ar,LH]at O5
    have sub3:∀{c},c∉[cq,pq,sq,tq,dq]->c∉[sq,tq,dq]:=λ{c} n z=>n (by simp at z;rcases z with z|z|z <;> simp[z])
    have old5:∀{c o},H c=some o->c∉[cq,pq,sq,tq,dq]->H5 c=some o:=λ{c o} e n=>b5 _ _ (old4 e n) (sub3 n)
    have tup5:∀{c ys},H4 c=some (.tup ys)->H5 c=some (.tup ys):=λ{c ys} e=>b5 _ _ e λz=>by
     obtain⟨qs4,hq4s,_⟩:=O4.sp
     simp at z
     rcases z with rfl|rfl|rfl
     ·rw[e]at hq4s;cases hq4s
     ·have:=O4.tk;rw[e]at this;cases this
     ·have:=O4.be;rw[e]at this;cases this
    exact kk _ #[O5,#[qc++[t],b5 _ _ hc4 (by simp[D.cs,D.ct,D.cd]),Paired.cc hcm4 λp q #[u,e1,e2]=>#[u,tup5 e1,tup5 e2]],#[om,qm,old5 hmd (noF hmd),Paired.cc hmv λm q #[l,g,e1,e2,e3,n1,n2]=>#[l,g,old5 e1 (noT e1),old5 e2 n1,old5 e3 n2,n1,n2]]] λc o e n=>old5 e n
end Uf
section
set_option maxHeartbeats 400000
namespace Uf
open PySem L2 UfB UfM UfSrt
def cI(pl:List (Str×Nat))(xs:List Str):WF:=#[(bx none (#[[],[],[],pl],0) xs).1,[],[]]
def gf(pl:List (Str×Nat)){xs:List Str}(h:xs.length<=250):Hw none (#[[],[],[],pl],0) (bx none (#[[],[],[],pl],0) xs) xs 0 :=
 HU (n:=0) rfl rfl (show 0<2 ^ 0 by decide) _ xs rfl (by lia)
def rep0(n a:Nat):(List.replicate n 0).getD a 0=0:=by
 rw[Lb,NH]
 split <;> rfl
def jK(pl:List (Str×Nat)){xs:List Str}(h:xs.length<=250):Good (cI pl xs):=by
 have A:=gf pl h
 have hsp:(cI pl xs).W.sp=xs.map (λx=>(x,none)):=by
  have:=A.sp
  rw[PY]at this
  exact this
 have htk:(cI pl xs).W.tk=List.replicate xs.length 0:=by
  have:=A.tk
  rw[PY]at this
  exact this
 have lsp:(cI pl xs).W.sp.length=xs.length:=by rw[hsp,K4]
 have lbe:(cI pl xs).W.be.length=xs.length:=by
  have:=A.bl
  rwa[Nk]at this
 have ntk:∀s o,¬((cI pl xs).W.tk.getD s 0).testBit o=true:=λs o z=>by
  rw[htk,rep0,M6]at z
  cases z
 have ngv:∀s g,¬eY (cI pl xs).W.sp s=some g:=λs g z=>by
  rw[hsp]at z
  unfold eY at z
  rw[LD]at z
  cases e:xs[s]? with
  |none=>rw[e]at z;cases z
  |some x=>rw[e]at z;cases z
 have nfk:∀Pr,¬(wb (cI pl xs)).forked Pr:=λPr #[o1,_,u,_,_,_,t1,_]=>ntk u o1 t1
 have bits:∀i k,i<xs.length->((cI pl xs).W.be.getD i 0).testBit k=(decide (k<xs.length)&&decide (k≠i)):=λi k hi=>by
  have:=A.new i k hi
  rw[Nk,Nk]at this
  show((bx none (#[[],[],[],pl],0) xs).1.be.getD i 0).testBit k=_
  rw[this]
  simp
 apply#[by rw[lsp,htk,MQ],by rw[lbe,lsp],rfl,by rw[lsp];exact h,λs g z=>absurd z (ngv s g),λo j z=>?_,λs o z=>absurd z (ntk s o),λs o z=>absurd z (ntk s o),λs=>nfk _,λa k z=>?_,λa b ha hb=>?_]
 ·have z:(([]:List Nat).getD o 0).testBit j=true:=z
  rw[gq (LA _),M6]at z
  cases z
 ·rw[lsp]
  by_cases ha:a<xs.length
  ·rw[bits a k ha,Md,LP]at z
   exact z.1
  ·rw[gq (by rw[lbe];lia),M6]at z
   cases z
 ·rw[lsp]at ha hb
  rw[bits a b ha,Lk hb,Nt,LP]
  exact#[λz=>#[z.symm,λo t=>absurd t (ntk a o),λo t=>absurd t (ntk b o),nfk _],λz=>z.1.symm]
end Uf
end
section
set_option maxHeartbeats 400000
namespace Uf
open PySem L2 UfB UfM UfSrt
def Ac{f f1:WF}{p:qB×Nat}{x:Str}{g:Option Nat}(e0:f.W=p.1)(e1:f1.W=(gJ g p x).1)(eown:f.own=f1.own)(g1:Good f1)(b_lt:∀c,p.2.testBit c=true->c<p.1.sp.length)(lbe:p.1.be.length=p.1.sp.length)(gX:p.1.sp.length<=256):Alike (xF f x g) f1:=by
 have b256:p.2<2 ^ 256:=LF (Nz _ λi hi=>by
  cases z:p.2.testBit i with
  |false=>rfl
  |true=>exact absurd (b_lt i z) (by lia)) (LX (by decide) gX)
 have esp:f1.W.sp=p.1.sp++[(x,g)]:=by rw[e1];rfl
 have etk2:f1.W.tk=p.1.tk++[0]:=by rw[e1];rfl
 have ebe:f1.W.be=bL (p.1.be++[p.2]) (mem p.2) p.1.sp.length:=by rw[e1];rfl
 have hmlt:∀j∈mem p.2,j<(p.1.be++[p.2]).length:=λj hj=>by
  have:=b_lt j ((mem_iff b256).mp hj)
  rw[K5,lbe]
  lia
 have bits:∀a c,((f1.W.be).getD a 0).testBit c=(((p.1.be++[p.2]).getD a 0).testBit c || (p.2.testBit a&&decide (c=p.1.sp.length))):=λa c=>by
  rw[ebe,gc hmlt]
  congr 2
  rw[LV,LP,mem_iff b256]
 have nb:∀a,a<p.1.sp.length->dz (px f x g) a p.1.sp.length=p.2.testBit a:=λa ha=>by
  have en:dz (px f x g) a p.1.sp.length=dz f1 a p.1.sp.length:=rT _ _ (by rw[esp];show f.W.sp++_=_;rw[e0]) (by rw[etk2];show f.W.tk++_=_;rw[e0]) eown
  rw[en,LV,tm]
  have l1:f1.W.sp.length=p.1.sp.length+1:=by rw[esp,K5];rfl
  have:=g1.be p.1.sp.length a (by lia) (by lia)
  rw[bits,fe,Le (by lia),lbe,NF]at this
  have e:((([p.2]:List Nat).getD 0 0).testBit a || (p.2.testBit p.1.sp.length&&decide (a=p.1.sp.length)))=p.2.testBit a:=by
   rw[Lq (by lia:¬a=p.1.sp.length),OA,NK]
   rfl
  rw[e]at this
  rw[this]
  exact#[λz=>#[z.1.symm,z.2.symm],λz=>#[z.1.symm,z.2.symm]]
 apply#[?_,?_,?_,eown]
 ·rw[esp]
  show f.W.sp++_=_
  rw[e0]
 ·rw[etk2]
  show f.W.tk++_=_
  rw[e0]
 ·show iy (λj=>dz (px f x g) j f.W.sp.length) f.W.sp.length (f.W.be++[0]) f.W.sp.length=_
  rw[e0]
  have l0:(p.1.be++[0]).length=p.1.sp.length+1:=by rw[K5,lbe];rfl
  apply lz ?_ λa c ha=>?_
  ·rw[eK,l0,ebe,de,K5,lbe]
   rfl
  ·rw[eK,l0]at ha
   rw[kS l0 a c _ (La _),bits,fe,fe,lbe]
   by_cases h1:a<p.1.sp.length
   ·rw[Ls h1,Ls h1,Lk h1,nb a h1,Lq (by lia:¬a=p.1.sp.length)]
    simp
   ·have h2:a=p.1.sp.length:=by lia
    rw[Le h1,Le h1,Lq h1,Lk h2,h2,NF]
    have q:p.2.testBit p.1.sp.length=false:=by
     cases z:p.2.testBit p.1.sp.length with
     |false=>rfl
     |true=>exact absurd (b_lt _ z) (Me _)
    rw[q]
    by_cases hc:c<p.1.sp.length
    ·rw[Lk hc,nb c hc]
     simp
    ·rw[Lq hc]
     have q2:p.2.testBit c=false:=by
      cases z:p.2.testBit c with
      |false=>rfl
      |true=>exact absurd (b_lt _ z) hc
     simp[q2]
def vn(pl:List (Str×Nat)){xs:List Str}(h:xs.length<=250){k:Nat}{x:Str}(hx:xs[k]?=some x):Alike (xF (cI pl (xs.take k)) x none) (cI pl (xs.take (k+1))):=by
 have hk:k<xs.length:=(Lh.mp hx).1
 have lk:(xs.take k).length=k:=by rw[Lf];lia
 have A:=gf pl (xs:=xs.take k) (by lia)
 have lsp:(bx none (#[[],[],[],pl],0) (xs.take k)).1.sp.length=k:=by
  rw[A.sp]
  simp
  lia
 apply Ac (p:=bx none (#[[],[],[],pl],0) (xs.take k)) rfl ?_ rfl (jK pl (by rw[Lf];lia)) (λc hc=>?_) (by rw[A.bl,lsp,lk,Nk]) (by lia)
 ·show(bx none (⟨[],[],[],pl⟩,0) (xs.take (k+1))).1=_
  rw[ay hx]
  unfold bx
  rw[MZ]
  rfl
 ·rw[A.b,lk]at hc
  simp at hc
  lia
end Uf
end
namespace Uf
open PySem L2 UfSrt UfStr UfFin
def mO(ps:List (Nat×Int)):List V:=(ps.map (·.2)).map V.int
def sU(ps:List (Nat×Int))(n:Nat)(p:Int):mO ps++[V.int p]=mO (ps++[(n,p)]):=by
 unfold mO
 rw[Ll,Ll]
 rfl
def mS(ps:List (Nat×Int)):(mO ps).length=ps.length:=by unfold mO;rw[List.length_map,List.length_map]
def A0(K:PySem.W.Frag):Sp:=λvs H Q _=>∃(c:Int) (a:Addr) (ss:List Int),vs=[.int c,.ref a]/\aH K H a (ss.map V.int)/\1<=ss.length/\ss.length<=3/\(∀x∈ss,1<=x/\x<=4) /\
 ∀H' q a0 a1 ps qs,au H H'->H q=none->H' q=some (.lst [.ref a0,.ref a1])->H' a0=some (.lst (mO ps))->H' a1=some (.lst (mO qs))->Ad ss ps qs->Q (.ref q) H'
def ir:aF ["_law_cell","_law_sizes_here","_law_ends","_law_base","_law_ways","_law_rest","_law_j","_law_size"] ["_law_cell","_law_sizes_here"] (av x3):=ff
inductive Kr(H:Hp)(c wh:Int)(a en a0 a1:Addr)(ss:List Int)(i:Nat)(σ:St)(H2:Hp):Prop
 |mk (r:Int) (v6 v7:Option V) (ps qs:List (Nat×Int)) (q0:σ=[some (.int c),some (.ref a),some (.ref en),some (.int (pre ss i)),some (.int wh),some (.int r),v6,v7]) (q1:au H H2) (q2:H2 en=some (.lst [.ref a0,.ref a1])) (q3:H2 a0=some (.lst (mO ps))) (q4:H2 a1=some (.lst (mO qs)))
   (q5:jJ ss i ps) (q6:jJ ss i qs) (q7:∀q∈qs,∃p∈ps,p.1=q.1) (q8:ps≠[]\/wh % 2 ^ i=0)
def Kr.same{H:Hp}{c wh:Int}{a en a0 a1:Addr}{ss:List Int}{i:Nat}{σ:St}{H2:Hp}(h:Kr H c wh a en a0 a1 ss i σ H2):au H H2:=by
 cases h
 assumption
def C7{f:Addr}{fd:FuncData}(F:dN K "_law_step" "_law_step" x3 f fd)(T:Txt K mg)(T2:Txt2 mg):bf P w K mg base cZ 1 f fd ["_law_cell","_law_sizes_here"] (A0 K):=by
 apply F.oK ir λcdv A outer s H vs Q E hr h=>?_
 ·obtain⟨c,a,ss,rfl,ha,l1,l3,hss,kk⟩:=h
  have hsl:=LG
  apply#[_,ag (cM 2 ir (bu (aa (bu af) (aa (bu af) af))))
   (ag (cM 3 ir aj)
   (ag (cM 4 ir (aw eE aj (aw bH (pv 0) (aw iN (aw kK aj (aA bB rfl T.len cY (aa (pv 1) af))) aj))))
   (ag (cM 5 ir (aw bU (pv 0) aj))
   (ag (bO LC rfl (r9 rfl T2.enm (aa (pv 1) af)) (eD rfl (aU (fE 6 ir) (aU (fE 7 ir) di)))
    (ag (bK (aY fJ (aw gr (aw rJ (pv 4) (pv 6)) aj) aj (bp _))
     (ag (a9 (df Lr Lv Lw bb (aQ aI (pv 2) aj (λ_ _=>rfl)) (aa (aw eE (pv 3) (aw bH (aw bH (pv 5) aj) (pv 7))) af)))
     (ak (bK (aY uk (aw bH (aw bU (pv 5) aj) aj) aj (bp _))
      (ak (a9 (df Lr Lv Lw bb (aQ aI (pv 2) aj (λ_ _=>rfl)) (aa (aw eE (pv 3) (aw bH (aw bH (aw bU (pv 5) aj) aj) (pv 7))) af)))) aM))) aM)
    (ag (cM 5 ir (aw bU (pv 5) aj))
    (ak (cM 3 ir (aw eE (pv 3) (pv 7)))))))
   (ak (aK (pv 2))))))),?_]
  ac_rfl
  apply#[LA _,λa0 n0=>?_]
  have s1:au H (upd H a0 (.lst [])):=ao n0
  have h0:(upd H a0 (.lst [])) a0=some (.lst (mO [])):=ae
  generalize upd H a0 (.lst [])=H1 at s1 h0 ⊢
  apply#[LA _,λa1 n1=>?_]
  have n01:a0≠a1:=aq h0 n1
  have n10:H a1=none:=s1.free n1
  have s2:au H1 (upd H1 a1 (.lst [])):=ao n1
  have h1:(upd H1 a1 (.lst [])) a1=some (.lst (mO [])):=ae
  have h0:=s2 _ _ h0
  have s02:=s1.trans s2
  generalize upd H1 a1 (.lst [])=H2 at s2 h1 h0 s02 ⊢
  apply#[by show 2<=sizeLine;lia,λen nen=>?_]
  have ne0:a0≠en:=aq h0 nen
  have ne1:a1≠en:=aq h1 nen
  have nen0:H en=none:=s02.free nen
  have s3:au H2 (upd H2 en (.lst [.ref a0,.ref a1])):=ao nen
  have hen:(upd H2 en (.lst [.ref a0,.ref a1])) en=some (.lst [.ref a0,.ref a1]):=ae
  have h0:=s3 _ _ h0
  have h1:=s3 _ _ h1
  have s03:=s02.trans s3
  generalize upd H2 en (.lst [.ref a0,.ref a1])=H3 at s3 hen h0 h1 s03 ⊢
  have hlen:∀{H':Hp},au H H'->Je K (.ref a) H' ss.length:=λs=>.inl #[_,s.seq ha,by rw[K4]]
  have p2:∃q:Int,(1:Int)*2 ^ ((ss.length:Nat):Int).toNat-1=q/\1<=q/\q+1=2 ^ ss.length:=by
   rw[LW]
   have:ss.length=1\/ss.length=2\/ss.length=3:=by lia
   rcases this with e|e|e <;> rw[e]
   ·exact#[1,by decide,by decide,by decide]
   ·exact#[3,by decide,by decide,by decide]
   ·exact#[7,by decide,by decide,by decide]
  obtain⟨q,eq,q1,q2⟩:=p2
  apply#[Z,Z,_,Z,hlen s03,_,Z,rfl,#[by first|lia|decide,by first|lia|decide,by first|lia|decide],_,Z,rfl,_,Z,rfl,(by rw[eq];lia),_,Z,rfl,?_]
  dsimp only[fi]
  rw[eq]
  have w0:1<=1+c % q/\1+c % q<=q:=by
   have:=Mc c (show q≠0 by lia)
   have:=L9 c (show 0<q by lia)
   lia
  generalize 1+c % q=wh at w0
  apply#[Z,_,Z,rfl,#[by decide,by decide],?_]
  apply#[Z,a,rfl,#[_,s03.seq ha],sH (K:=K) (a:=a) (xs:=ss.map V.int) (Kr H c wh a en a0 a1 ss)
   #[_,none,none,[],[],rfl,s03,hen,h0,h1,#[by simp,λx hx=>by simp at hx,λx hx=>by simp at hx],#[by simp,λx hx=>by simp at hx,λx hx=>by simp at hx],λx hx=>by simp at hx,.inr (by simp)] (λi σ H4 _ h=>h.same.seq ha) ?_ ?_]
  ·rintro i v pr σ H4 hi ⟨r,v6,v7,ps,qs,rfl,sm,hen4,h04,h14,rp,rq,sub,hne⟩ np
   obtain⟨sz,hsz,rfl⟩:=ints_get hi
   have hi2:i<ss.length:=(Lh.mp hsz).1
   have zz:=hss sz (Lg hsz)
   have epre:=iO hsz
   have lp:=rp.len
   have lq:=rq.len
   apply#[pr,Z,cz.of ae,rfl,_,Z,_,Z,rfl,?_]
   have s5:au H4 (upd H4 pr (.tup [.int (i:Int),.int sz])):=ao np
   have sm5:=sm.trans s5
   have hen5:=s5 _ _ hen4
   have h05:=s5 _ _ h04
   have h15:=s5 _ _ h14
   generalize upd H4 pr (.tup [.int (i:Int),.int sz])=H5 at s5 sm5 hen5 h05 h15 ⊢
   have e2:((i:Nat):Int).toNat=i:=LW i
   apply#[Z,Z,_,Z,rfl,(by lia),_,Z,rfl,rfl,Z,?_]
   apply pB (λc=>?_) (λc=>?_)
   ·have j0:0<=r % 4 % sz/\r % 4 % sz<sz:=⟨Mc _ (by lia),L9 _ (by lia)⟩
    apply#[Z,en,_,0,Z,rfl,aH.of hen5,aD (j:=0) rfl,.inl #[rfl,_,aH.of h05],Z,Z,_,Z,rfl,(by show(0:Int)<4;decide),Z,_,Z,rfl,(by lia),_,Z,rfl,a0,_,Z,rfl,h05,by rw[mS];lia,?_]
    have rp2:jJ ss (i+1) (ps++[(i,pre ss i+r % 4 % sz)]):=rp.snoc (by lia) (by lia)
    have sub2:∀q∈qs,∃p∈ps++[(i,pre ss i+r % 4 % sz)],p.1=q.1:=λq hq=>let #[p,hp,e]:=sub q hq;#[p,Lj _ hp,e]
    have eapp:mO ps++[V.int (pre ss i+r % 4 % sz)]=mO (ps++[(i,pre ss i+r % 4 % sz)]):=sU _ _ _
    have sm6:au H (upd H5 a0 (.lst (mO ps++[V.int (pre ss i+r % 4 % sz)]))):=aJ sm5 n0
    have h06:(upd H5 a0 (.lst (mO ps++[V.int (pre ss i+r % 4 % sz)]))) a0=some (.lst (mO (ps++[(i,pre ss i+r % 4 % sz)]))):=by rw[ae,eapp]
    have h16:(upd H5 a0 (.lst (mO ps++[V.int (pre ss i+r % 4 % sz)]))) a1=some (.lst (mO qs)):=by rw[ai n01.symm];exact h15
    have hen6:(upd H5 a0 (.lst (mO ps++[V.int (pre ss i+r % 4 % sz)]))) en=some (.lst [.ref a0,.ref a1]):=by rw[ai ne0.symm];exact hen5
    generalize upd H5 a0 (.lst (mO ps++[V.int (pre ss i+r % 4 % sz)]))=H6 at sm6 h06 h16 hen6
    apply#[Z,_,Z,rfl,#[by decide,by decide],_,Z,rfl,(by show(0:Int)<9;decide),_,Z,rfl,Z,?_]
    apply pB (λ_=>?_) (λ_=>?_)
    ·have m0:0<=r / 4 % 9 % sz/\r / 4 % 9 % sz<sz:=⟨Mc _ (by lia),L9 _ (by lia)⟩
     apply#[Z,en,_,1,Z,rfl,aH.of hen6,aD (j:=1) rfl,.inl #[rfl,_,aH.of h16],Z,Z,_,Z,rfl,#[by decide,by decide],_,Z,rfl,(by show(0:Int)<9;decide),Z,_,Z,rfl,(by lia),_,Z,rfl,a1,_,Z,rfl,h16,by rw[mS];lia,?_]
     have rq2:jJ ss (i+1) (qs++[(i,pre ss i+r / 4 % 9 % sz)]):=rq.snoc (by lia) (by lia)
     apply#[Z,_,Z,rfl,#[by decide,by decide],Z,Z,_,Z,rfl,?_]
     apply#[_,_,_,_,qs++[(i,pre ss i+r / 4 % 9 % sz)],by rw[epre];rfl,aJ sm6 n10,by rw[ai ne1.symm];exact hen6,by rw[ai n01];exact h06,by rw[ae];exact L6 (λz=>some (HO.lst z)) (sU _ _ _),rp2,rq2,λq hq=>?_,.inl (by simp)]
     rcases K9.mp hq with z|z
     ·exact sub2 q z
     ·have:q=(i,pre ss i+r / 4 % 9 % sz):=by simpa using z
      exact#[_,Lp _ (LZ.mpr rfl),by rw[this]]
    ·apply⟨_,rfl,_,_,rfl,rfl,⟨by decide,by decide⟩,_,rfl,_,rfl,_,_,rfl,rfl,?_⟩
     exact#[_,_,_,_,qs,by rw[epre];rfl,sm6,hen6,h06,h16,rp2,rq.skip,sub2,.inl (by simp)]
   ·have c1:¬wh / 2 ^ ((i:Nat):Int).toNat % 2=1:=λz=>c (Lk (show V.int (PySem.Builtin.bitAnd (wh / 2 ^ ((i:Nat):Int).toNat) 1)=V.int 1 by rw[Ip,z]))
    apply#[Z,_,Z,rfl,#[by decide,by decide],Z,Z,_,Z,rfl,?_]
    apply#[_,_,_,ps,qs,by rw[epre];rfl,sm5,hen5,h05,h15,rp.skip,rq.skip,sub,?_]
    rcases hne with z|z
    ·exact .inl z
    ·rw[e2]at c1
     have i012:i=0\/i=1\/i=2:=by lia
     rcases i012 with rfl|rfl|rfl
     ·exact .inr (by simp at c1 ⊢;lia)
     ·exact .inr (by simp at c1 z ⊢;lia)
     ·exact .inr (by simp at c1 z ⊢;lia)
  ·rintro σ H4 ⟨r,v6,v7,ps,qs,rfl,sm,hen4,h04,h14,rp,rq,sub,hne⟩
   rw[K4]at rp rq hne
   have hne':ps≠[]:=by
    rcases hne with z|z
    ·exact z
    ·exfalso
     rw[<-q2]at z
     have:=Int.emod_eq_of_lt (show 0<=wh by lia) (show wh<q+1 by lia)
     lia
   exact#[Z,kk _ en a0 a1 ps qs sm nen0 hen4 h04 h14 #[rp,rq,hne',sub]]
def FP(xs:List V)(lo hi:Nat):dR xs (some (lo:Int)) (some (hi:Int))=(xs.drop lo).take (hi-lo):=by
 unfold dR
 have e1:HT.dO xs.length 0 (some (lo:Int))=min lo xs.length:=HT.ig _ _ lo
 have e2:HT.dO xs.length xs.length (some (hi:Int))=min hi xs.length:=HT.ig _ _ hi
 rw[e1,e2]
 by_cases h1:lo<=xs.length
 ·rw[OX h1]
  by_cases h2:hi<=xs.length
  ·rw[OX h2]
  ·rw[PJ (by lia),MN (by rw[Mp];lia),MN (by rw[Mp];lia)]
 ·rw[show min lo xs.length=xs.length by lia,List.drop_length,Ni (show xs.length<=lo by lia)]
  simp
def Ba(xs:List V)(hi:Nat):dR xs none (some (hi:Int))=xs.take hi:=by
 unfold dR
 have e1:HT.dO xs.length 0 none=0:=HT.oh _ _
 have e2:HT.dO xs.length xs.length (some (hi:Int))=min hi xs.length:=HT.ig _ _ hi
 rw[e1,e2,OB,QA]
 by_cases h:hi<=xs.length
 ·rw[OX h]
 ·rw[PJ (by lia),MN (La _),MN (by lia)]
def Hf(xs:List V)(lo:Nat):dR xs (some (lo:Int)) none=xs.drop lo:=by
 unfold dR
 have e1:HT.dO xs.length 0 (some (lo:Int))=min lo xs.length:=HT.ig _ _ lo
 have e2:HT.dO xs.length xs.length none=xs.length:=HT.oh _ _
 rw[e1,e2]
 by_cases h:lo<=xs.length
 ·rw[OX h,MN (by rw[Mp];lia)]
 ·rw[PJ (by lia),List.drop_length,Ni (by lia)]
  simp
def BM(r:List PySem.Str)(lo hi:Nat):dR (aE r) (some (lo:Int)) (some (hi:Int))=aE ((r.drop lo).take (hi-lo)):=by
 rw[FP]
 unfold aE
 rw[Nf,Oc]
def xa(r:List PySem.Str)(hi:Nat):dR (aE r) none (some (hi:Int))=aE (r.take hi):=by
 rw[Ba]
 unfold aE
 rw[Nf]
def FO(r:List PySem.Str)(lo:Nat):dR (aE r) (some (lo:Int)) none=aE (r.drop lo):=by
 rw[Hf]
 unfold aE
 rw[Oc]
abbrev qO:Stmt:=top 46
def iF{t u:TS}{D:Ends}{σ:St}{H:Hp}(F:St->Hp->Prop)(hu:∀σ H,F σ H->u D σ H)(ht:(∀σ H,F σ H->u D σ H)->t { D with nx:=u D } σ H):uK t u D σ H:=ht hu
def ja(a b:List PySem.Str):aE a++aE b=aE (a++b):=(Ll ..).symm
def iq(H:Hp)(e:List PySem.Str×List PySem.Str)(q:Addr):Prop:=∃l g,H q=some (.tup [.ref l,.ref g])/\H l=some (.lst (aE e.1))/\H g=some (.lst (aE e.2))
def mJ(H:Hp)(a:Addr)(es:List (List PySem.Str×List PySem.Str)):Prop:=∃qs:List Addr,H a=some (.lst (qs.map V.ref))/\Paired (iq H) es qs
def iq.same{H H':Hp}{e:List PySem.Str×List PySem.Str}{q:Addr}(s:au H H')(h:iq H e q):iq H' e q:=by
 obtain⟨l,g,h1,h2,h3⟩:=h
 exact#[l,g,s _ _ h1,s _ _ h2,s _ _ h3]
inductive wz(Nm:List PySem.Str)(b sz:Nat):List (List PySem.Str×List PySem.Str)->Prop
 |mk (i:Nat) (hi:i<sz) (s0 s1 s2 s3:PySem.Str) (e:(Nm.drop b).take 4=[s0,s1,s2,s3]) (mo:List PySem.Str) (hmo:mo=[]\/mo=[s3]) (on:List PySem.Str) (hon:on=[]\/on=[s2]) (ho:List PySem.Str) (hho:ho=[]\/∃j,j<sz/\ho=[Nm.getD j ""]) :
   wz Nm b sz [([Nm.getD i ""],[s0,s1]++mo),([s1],on),([s0,s2]++mo,ho)]
def xv(K:PySem.W.Frag):Sp:=λvs H Q _=>∃(a:Addr) (b sz:Nat) (c:Int) (Nm:List PySem.Str),vs=[.ref a,.int (b:Int),.int (sz:Int),.int c]/\aH K H a (aE Nm)/\b+4<=Nm.length/\Nm.length<=12/\1<=sz/\sz<=4 /\
 ∀H' q es,au H H'->H q=none->mJ H' q es->wz Nm b sz es->Q (.ref q) H'
def iu:aF ["_law_names","_law_base","_law_size","_law_cell","_law_some","_law_begin","_law_home","_law_more","_law_onward"] ["_law_names","_law_base","_law_size","_law_cell"] (av qO):=ff
inductive SlI(H:Hp)(a so ho mo:Addr)(b sz c:Int)(bg:PySem.Str)(s2:PySem.Str)(σ:St)(H2:Hp):Prop
 |mk (on:Addr) (on':List PySem.Str) (q0:σ=[some (.ref a),some (.int b),some (.int sz),some (.int c),some (.ref so),some (.str bg),some (.ref ho),some (.ref mo),some (.ref on)]) (q1:au H H2) (q2:H2 on=some (.lst (aE on'))) (q3:on'=[]\/on'=[s2])
def Ef{Nm:List PySem.Str}{b:Nat}(h:b+4<=Nm.length):∃s0 s1 s2 s3,(Nm.drop b).take 4=[s0,s1,s2,s3]:=by
 have hl:((Nm.drop b).take 4).length=4:=by rw[Lf,Mp];lia
 match (Nm.drop b).take 4,hl with
 |[s0,s1,s2,s3],_=>exact#[s0,s1,s2,s3,rfl]
def take_one(x:PySem.Str):∀k:Nat,[x].take k=[]\/[x].take k=[x]
 |0=>.inl rfl
 |k+1=>.inr (by simp)
def gz{xs:List PySem.Str}{i:Int}(h0:0<=i)(h1:i<xs.length):zW (aE xs) i=some (.str (xs.getD i.toNat "")):=by
 have h2:i.toNat<xs.length:=by lia
 have e:i=((i.toNat:Nat):Int):=by lia
 rw[e]
 apply aD ?_
 unfold aE
 rw[LD,LW,K7 h2,Lb,K7 h2]
 rfl
def CN{f:Addr}{fd:FuncData}(F:dN K "_law_split" "_law_split" qO f fd):bf P w K mg base cZ 1 f fd ["_law_names","_law_base","_law_size","_law_cell"] (xv K):=by
 apply F.oK iu λcdv A outer s H vs Q E hr h=>?_
 ·obtain⟨a,b,sz,c,Nm,rfl,ha,hb4,lN,z1,z4,kk⟩:=h
  have hsl:=LG
  apply#[_,ag (cM 4 iu (bY cT (pv 0) (bV (pv 1)) (bV (aw eE (pv 1) aj))))
   (ag (cM 5 iu (aQ aI (pv 0) (aw bH (pv 3) (pv 2)) (λ_ _=>rfl)))
   (ag (cM 6 iu (bY cT (bu (aa (aQ aI (pv 0) (aw bH (aw bU (pv 3) aj) (pv 2)) (λ_ _=>rfl)) af)) cU (bV (aw bH (aw bU (pv 3) aj) aj))))
   (ag (cM 7 iu (bY cT (bY cT (pv 4) (bV aj) cU) cU (bV (aw bH (aw bU (pv 3) aj) aj))))
   (ag (cM 8 iu (bY cT (pv 4) (bV aj) (bV aj)))
   (ag (bK (aY fJ (aw bH (aw bU (pv 3) aj) aj) aj (bp _)) (ak (cM 8 iu (bu af))) aM)
   (ak (aK (bu (aa (cX (aa (bu (aa (pv 5) af)) (aa (aw eC (bY cT (pv 4) cU (bV aj)) (pv 7)) af)))
    (aa (cX (aa (bu (aa (aQ aI (pv 4) aj (λ_ _=>rfl)) af)) (aa (pv 8) af)))
    (aa (cX (aa (aw eC (bu (aa (aQ aI (pv 4) aj (λ_ _=>rfl)) (aa (aQ aI (pv 4) aj (λ_ _=>rfl)) af))) (pv 7)) (aa (pv 6) af))) af))))))))))),?_]
  ac_rfl
  obtain⟨s0,s1,s2,s3,e4⟩:=Ef hb4
  apply#[Z,Z,(b:Int),rfl,Z,_,Z,rfl,((b+4:Nat):Int),by push_cast;rfl,a,Z,ha,λso nso=>?_]
  rw[BM,show b+4-b=4 by lia,e4]
  obtain⟨H1,eU,t1,hso⟩:=fL nso (.lst (aE [s0,s1,s2,s3]))
  rw[eU]
  have i0:0<=c % (sz:Int)/\c % (sz:Int)<(sz:Int):=#[Mc _ (by lia),L9 _ (by lia)]
  have j0:0<=c / 4 % (sz:Int)/\c / 4 % (sz:Int)<(sz:Int):=#[Mc _ (by lia),L9 _ (by lia)]
  apply#[Z,Z,Z,_,Z,rfl,(by lia),a,_,_,Z,rfl,t1.seq ha,gz (by lia) (by lia),?_]
  apply#[Z,Z,_,Z,rfl,#[by decide,by decide],Z,_,Z,rfl,(by lia),a,_,_,Z,rfl,t1.seq ha,gz (by lia) (by lia),by show 1<=sizeLine;lia,λh1 nh1=>?_]
  have hjz:(c / 4 % (sz:Int)).toNat<sz:=by lia
  have hiz:(c % (sz:Int)).toNat<sz:=by lia
  generalize (c / 4 % (sz:Int)).toNat=j at hjz
  generalize (c % (sz:Int)).toNat=i at hiz
  have t2:au H1 (upd H1 h1 (.lst [V.str (Nm.getD j "")])):=ao nh1
  have hh1:(upd H1 h1 (.lst [V.str (Nm.getD j "")])) h1=some (.lst (aE [Nm.getD j ""])):=ae
  generalize upd H1 h1 (.lst [V.str (Nm.getD j "")])=H2 at t2 hh1 ⊢
  have k4:0<=c / 16 % 4:=by lia
  obtain⟨k,ek⟩:=Mw k4
  apply#[Z,_,Z,rfl,#[by decide,by decide],_,Z,rfl,(by show(0:Int)<4;decide),(k:Int),L6 V.int ek,h1,Z,aH.of hh1,λho nho=>?_]
  rw[xa]
  have hho:([Nm.getD j ""].take k=[])\/∃j',j'<sz/\[Nm.getD j ""].take k=[Nm.getD j' ""]:=take_one (Nm.getD j "") k |>.imp id λz=>#[j,hjz,z]
  generalize [Nm.getD j ""].take k=hom at hho
  have t3:au H2 (upd H2 ho (.lst (aE hom))):=ao nho
  have hhom:(upd H2 ho (.lst (aE hom))) ho=some (.lst (aE hom)):=ae
  have t13:=t2.trans t3
  generalize upd H2 ho (.lst (aE hom))=H3 at t3 hhom t13 ⊢
  have hso3:=t13 _ _ hso
  apply#[Z,Z,so,Z,aH.of hso3,λm1 nm1=>?_]
  rw[show dR (aE [s0,s1,s2,s3]) (some (3:Int)) none=aE [s3] from FO [s0,s1,s2,s3] 3]
  obtain⟨H4,eU,t4,hm1⟩:=fL nm1 (.lst (aE [s3]))
  rw[eU]
  have k2:0<=c / 64 % 2:=by lia
  obtain⟨k',ek'⟩:=Mw k2
  apply#[Z,_,Z,rfl,#[by decide,by decide],_,Z,rfl,(by show(0:Int)<2;decide),(k':Int),L6 V.int ek',m1,Z,aH.of hm1,λmo nmo=>?_]
  rw[xa]
  have hmor:=take_one s3 k'
  generalize [s3].take k'=mor at hmor
  have lmor:mor.length<=1:=by rcases hmor with z|z <;> rw[z] <;> simp
  have t5:au H4 (upd H4 mo (.lst (aE mor))):=ao nmo
  have hmo:(upd H4 mo (.lst (aE mor))) mo=some (.lst (aE mor)):=ae
  have t35:=t4.trans t5
  generalize upd H4 mo (.lst (aE mor))=H5 at t5 hmo t35 ⊢
  have hso5:=t35 _ _ hso3
  apply#[Z,Z,Z,so,Z,aH.of hso5,λon non=>?_]
  rw[show dR (aE [s0,s1,s2,s3]) (some (2:Int)) (some (3:Int))=aE [s2] from BM [s0,s1,s2,s3] 2 3]
  have t6:au H5 (upd H5 on (.lst (aE [s2]))):=ao non
  have hon:(upd H5 on (.lst (aE [s2]))) on=some (.lst (aE [s2])):=ae
  have t16:=t13.trans (t35.trans t6)
  have t06:=t1.trans t16
  have hso6:=t6 _ _ hso5
  have hmo6:=t6 _ _ hmo
  have hho6:=(t35.trans t6) _ _ hhom
  generalize upd H5 on (.lst (aE [s2]))=H6 at t6 hon t16 t06 hso6 hmo6 hho6 ⊢
  clear t1 t2 t3 t4 t5 t6 t13 t16 t35 hso hso3 hso5 hmo hhom hm1 hh1 nso nh1 nho nm1 nmo
  dsimp only[fi]
  apply iF (SlI H6 a so ho mo (b:Int) (sz:Int) c (Nm.getD i "") s2) ?_ (λcont=>?_)
  ·rintro σ H7 ⟨on,on',rfl,t7,hon,hon'⟩
   have hso:=t7 _ _ hso6
   have hmo:=t7 _ _ hmo6
   have hho7:=t7 _ _ hho6
   have t07:=t06.trans t7
   clear t7 hso6 hmo6 hho6
   apply#[Z,by show 1<=sizeLine;lia,λl1 nl1=>?_]
   have u1:au H7 (upd H7 l1 (.lst [V.str (Nm.getD i "")])):=ao nl1
   have hl1:(upd H7 l1 (.lst [V.str (Nm.getD i "")])) l1=some (.lst (aE [Nm.getD i ""])):=ae
   generalize upd H7 l1 (.lst [V.str (Nm.getD i "")])=J1 at u1 hl1 ⊢
   apply#[Z,Z,so,Z,aH.of (u1 _ _ hso),λc1 nc1=>?_]
   rw[show dR (aE [s0,s1,s2,s3]) none (some (2:Int))=aE [s0,s1] from xa [s0,s1,s2,s3] 2]
   obtain⟨J2,eU,u2,hc1⟩:=fL nc1 (.lst (aE [s0,s1]))
   rw[eU]
   have u02:=u1.trans u2
   apply#[Z,c1,mo,_,Z,rfl,hc1,u02 _ _ hmo,by rw[ar,ar];show 2+_<=_;lia,λg1 ng1=>?_]
   rw[ja]
   obtain⟨J3,eU,u3,hg1⟩:=fL ng1 (.lst (aE ([s0,s1]++mor)))
   rw[eU]
   apply#[by show 2<=sizeLine;lia,λq1 nq1=>?_]
   obtain⟨J4,eU,u4,hq1⟩:=fL nq1 (.tup [.ref l1,.ref g1])
   rw[eU]
   have e1:iq J4 ([Nm.getD i ""],[s0,s1]++mor) q1:=#[l1,g1,hq1,(u2.trans (u3.trans u4)) _ _ hl1,u4 _ _ hg1]
   have u04:=u02.trans (u3.trans u4)
   apply#[Z,so,_,1,Z,rfl,aH.of (u04 _ _ hso),aD (j:=1) rfl,by show 1<=sizeLine;lia,λl2 nl2=>?_]
   have u5:au J4 (upd J4 l2 (.lst [V.str s1])):=ao nl2
   have hl2:(upd J4 l2 (.lst [V.str s1])) l2=some (.lst (aE [s1])):=ae
   generalize upd J4 l2 (.lst [V.str s1])=J5 at u5 hl2 ⊢
   apply#[Z,by show 2<=sizeLine;lia,λq2 nq2=>?_]
   obtain⟨J6,eU,u6,hq2⟩:=fL nq2 (.tup [.ref l2,.ref on])
   rw[eU]
   have u46:=u5.trans u6
   have u06:=u04.trans u46
   have e2:iq J6 ([s1],on') q2:=#[l2,on,hq2,u6 _ _ hl2,u06 _ _ hon]
   apply#[Z,so,_,0,Z,rfl,aH.of (u06 _ _ hso),aD (j:=0) rfl,Z,so,_,2,Z,rfl,aH.of (u06 _ _ hso),aD (j:=2) rfl,by show 2<=sizeLine;lia,λc3 nc3=>?_]
   have u7:au J6 (upd J6 c3 (.lst [V.str s0,V.str s2])):=ao nc3
   have hc3:(upd J6 c3 (.lst [V.str s0,V.str s2])) c3=some (.lst (aE [s0,s2])):=ae
   generalize upd J6 c3 (.lst [V.str s0,V.str s2])=J7 at u7 hc3 ⊢
   apply#[Z,c3,mo,_,Z,rfl,hc3,(u06.trans u7) _ _ hmo,by rw[ar,ar];show 2+_<=_;lia,λl3 nl3=>?_]
   rw[ja]
   obtain⟨J8,eU,u8,hl3⟩:=fL nl3 (.lst (aE ([s0,s2]++mor)))
   rw[eU]
   apply#[Z,by show 2<=sizeLine;lia,λq3 nq3=>?_]
   obtain⟨J9,eU,u9,hq3⟩:=fL nq3 (.tup [.ref l3,.ref ho])
   rw[eU]
   have u69:=u7.trans (u8.trans u9)
   have u09:=u06.trans u69
   have e3:iq J9 ([s0,s2]++mor,hom) q3:=#[l3,ho,hq3,u9 _ _ hl3,u09 _ _ hho7]
   apply#[by show 3<=sizeLine;lia,λq nq=>?_]
   have u10:au J9 (upd J9 q (.lst [.ref q1,.ref q2,.ref q3])):=ao nq
   have u010:=t07.trans (u09.trans u10)
   exact kk _ q _ u010 ((t07.trans u09).free nq) #[[q1,q2,q3],ae,.cons (e1.same (u46.trans (u69.trans u10))) (.cons (e2.same (u69.trans u10)) (.cons (e3.same u10) .nil))] (.mk i hiz s0 s1 s2 s3 e4 mor hmor on' hon' hom hho)
  ·apply⟨_,rfl,_,_,rfl,rfl,⟨by decide,by decide⟩,_,_,rfl,rfl,(by show(0:Int)<6;decide),rfl,_,rfl,?_⟩
   apply pB (λ_=>?_) (λ_=>cont _ _ #[on,[s2],rfl,au.refl _,hon,.inr rfl])
   exact#[LA _,λo2 no2=>cont _ _ #[o2,[],rfl,ao no2,ae,.inl rfl]]
end Uf
namespace L2
open PySem PySem.Spec PyProof.Rows UfSrt
section
variable {X:Cx}
def yT{pins:List (Addr×Obj)}{s:Shared}{σ:St}{H:Hp}{A:Around}{p q:Addr}{a b:List Str}(I:Inv X pins σ H s)(h1:cz X.K H p (aE a))(h2:cz X.K H q (aE b))(hu:A.units<cLine):SeqAt.EqAt A s (.ref p) (.ref q) (decide (a=b)):=by
 obtain⟨its,r1,p1,_⟩:=I.tuple h1
 obtain⟨its2,r2,p2,_⟩:=I.tuple h2
 have inj:∀{a b:List Str},aE a=aE b->a=b:=λ{a b} e=>by
  unfold aE at e
  exact Ph (λ_ _ z=>by injection z) |>.mp e
 by_cases e:p=q
 ·subst e
  have:a=b:=inj (I.qq h1 h2)
  rw[Lk this]
  exact NP _
 ·have l1:=r1.length
  have l2:=r2.length
  unfold aE at l1 l2
  rw[K4]at l1 l2
  have:=NV (A:=A) (e:=λj=>decide (a[j]?=b[j]?)) p1 p2 hu λj h1 h2=>by
   have h1':j<its.length:=by simpa using h1
   have h2':j<its2.length:=by simpa using h2
   have g1:a[j]?=some a[j]:=K7 (by lia)
   have g2:b[j]?=some b[j]:=K7 (by lia)
   obtain⟨w,e1,e2⟩:=r1.get (show(aE a)[j]?=some (.str a[j]) by unfold aE;rw[List.getElem?_map,g1];rfl)
   obtain⟨w',e3,e4⟩:=r2.get (show(aE b)[j]?=some (.str b[j]) by unfold aE;rw[List.getElem?_map,g2];rfl)
   rw[K7 h1']at e1
   rw[K7 h2']at e3
   cases e1
   cases e3
   have:=iV (A:=A.in1) (s:=s) e2 e4 rfl rfl
   have e5:ue (.str a[j]) (.str b[j])=decide (a[j]?=b[j]?):=by
    show(a[j]==b[j])=_
    rw[LV,Nx,LP,g1,g2]
    exact#[λz=>by rw[z],λz=>LS z]
   rw[e5]at this
   exact this
  have e6:((List.range (min its.toArray.size its2.toArray.size)).all (λj=>decide (a[j]?=b[j]?))&&its.toArray.size==its2.toArray.size)=decide (a=b):=by
   rw[Lu,Lu,<-l1,<-l2,LV,Md,Mz,Nx,LP]
   constructor
   ·rintro⟨h,hl⟩
    apply List.ext_getElem? λj=>?_
    by_cases hj:j<a.length
    ·exact Ml (h j (M7.mpr (by lia)))
    ·rw[Ma (by lia),Ma (by lia)]
   ·rintro rfl
    exact#[λj _=>Lk rfl,rfl]
  rw[e6]at this
  exact .of_refs e this
def EN(X:Cx):R2:=λx y H Q=>∃p q qs ts t,x=.ref p/\y=.ref q/\X.A.units+1<cLine/\H p=some (.tup (aE t))/\H q=some (.lst (qs.map V.ref))/\Paired (λt q=>H q=some (.tup (aE t))) ts qs/\Q (.bl (!decide (t∈ts))) H
def pC:gW X (compareOp .NotIn) (EN X):=by
 intro pins s σ H x y v u Q I rx ry h
 obtain⟨p,q,qs,ts,t,rfl,rfl,hu,hp,hq,hpq,k⟩:=h
 cases rx
 cases ry
 obtain⟨its,r,pl,hz⟩:=I.list (aH.of (K:=X.K) hq)
 let e:Value->Bool:=λu=>match u with
  |.ref b=>match H b with
   |some (.tup xs)=>decide (xs=aE t)
   |_=>false
  |_=>false
 have inj:∀{a b:List Str},aE a=aE b->a=b:=λ{a b} z=>by
  unfold aE at z
  exact Ph (λ_ _ z=>by injection z) |>.mp z
 have he:∀(b:Addr) (t':List Str),H b=some (.tup (aE t'))->e (.ref b)=decide (t'=t):=λb t' hb=>by
  show(match H b with|some (.tup xs)=>decide (xs=aE t)|_=>false)=_
  rw[hb]
  exact Mi.mpr #[inj,λz=>by rw[z]]
 have all:∀{ts:List (List Str)} {qs:List Addr} {us:List Value},Paired (λt q=>H q=some (.tup (aE t))) ts qs->Vals (qs.map V.ref) us->(∀w∈us,SeqAt.EqAt X.A.in1 s w (.ref p) (e w))/\us.any e=decide (t∈ts):=by
  intro ts qs us h
  induction h generalizing us with
  |nil =>
   intro hv
   cases hv
   exact#[(λw hw=>by cases hw),by simp]
  |@cons t' q' ts qs h0 ht ih =>
   intro hv
   cases hv with
   |cons r0 rt =>
    cases r0
    obtain⟨i1,i2⟩:=ih rt
    apply#[λw hw=>?_,?_]
    ·rcases Lc.mp hw with rfl|hw
     ·rw[he q' t' h0]
      exact yT I (cz.of h0) (cz.of hp) (by show X.A.units+1<cLine;exact hu)
     ·exact i1 w hw
    ·rw[Nd,i2,he q' t' h0]
     rw[LV,M0,LP,LP,LP,Lc]
     exact#[λz=>z.imp Eq.symm id,λz=>z.imp Eq.symm id]
 obtain⟨a1,a2⟩:=all hpq r
 apply Pd e pl.isList (λw hw=>a1 w (by simpa using hw)) #[.bl _,H,I,rfl,?_]
 rw[show its.toArray.any e=its.any e by simp,a2]
 exact k
end
end L2

namespace Uf
open PySem L2 UfSrt UfStr UfFin
abbrev jZ:Stmt:=top 47
def lI(H:Hp)(a:Addr)(ts:List (List PySem.Str)):Prop:=∃qs:List Addr,H a=some (.lst (qs.map V.ref))/\Paired (λt q=>H q=some (.tup (aE t))) ts qs
def lI.AX{H H':Hp}{a:Addr}{ts:List (List PySem.Str)}(s:au H H')(h:lI H a ts):lI H' a ts:=by
 obtain⟨qs,h1,h2⟩:=h
 exact#[qs,s _ _ h1,Paired.cc h2 λ_ _ e=>s _ _ e]
structure xk(L:List PySem.Str)(es:List (List PySem.Str×List PySem.Str)):Prop where
 nd:L.Nodup
 ll:L.length<=12
 le:es.length<=20
 t:∀e∈es,(∀x∈e.1,x∈L)/\e.1.length<=12
 g:∀e∈es,(∀x∈e.2,x∈L)/\e.2.length<=12/\e.2.Nodup
structure vQ(L t:List PySem.Str):Prop where
 ris:dD t
 sub:∀x∈t,x∈L
def vQ.len{L t:List PySem.Str}(hl:L.length<=12)(h:vQ L t):t.length<=12:=LM (dZ h.ris.nd h.sub) hl
def vQ.next{L t tk gv:List PySem.Str}(h:vQ L t)(hg:∀x∈gv,x∈L)(gn:gv.Nodup)(hs:second tk gv t=false):vQ L (behind tk gv t):=by
 apply#[dD.aL (L1.mpr #[h.ris.nd.sublist Og,gn,λa ha b hb=>?_]),λx hx=>?_]
 ·rintro rfl
  obtain⟨h1,h2⟩:=L4.mp ha
  have h3:second tk gv t=true:=MH.mpr #[a,hb,by simp at h2;simp[h1,h2]]
  rw[hs]at h3
  cases h3
 ·unfold behind at hx
  rcases K9.mp (cQ.mp hx) with z|z
  ·exact h.sub x (L4.mp z).1
  ·exact hg x z
structure oy(es:List (List PySem.Str×List PySem.Str))(s0:List PySem.Str)(W:List (List PySem.Str)):Prop where
 st:s0∈W
 go:∀t∈W,∀e∈es,dH e.1 t=false->second e.1 e.2 t=false/\behind e.1 e.2 t∈W
structure Ji(L:List PySem.Str)(es:List (List PySem.Str×List PySem.Str))(s0:List PySem.Str)(k:Nat)(ts:List (List PySem.Str)):Prop where
 nd:ts.Nodup
 inn:∀t∈ts,vQ L t
 st:s0∈ts
 le:k<=ts.length
 go:∀j t,j<k->ts[j]?=some t->∀e∈es,dH e.1 t=false->second e.1 e.2 t=false/\behind e.1 e.2 t∈ts
def Ji.gX{L:List PySem.Str}{es:List (List PySem.Str×List PySem.Str)}{s0:List PySem.Str}{k:Nat}{ts:List (List PySem.Str)}(hL:L.Nodup)(ll:L.length<=12)(h:Ji L es s0 k ts):ts.length<=4096:=by
 have h1:ts.length<=(subs (aL L)).length:=dZ h.nd λt ht=>(h.inn t ht).ris.yc (dD.aL hL) λx hx=>cQ.mpr ((h.inn t ht).sub x hx)
 rw[oV,cP]at h1
 exact LM h1 (LX (by decide) ll:2 ^ L.length<=2 ^ 12)
def Eu{qs:List Addr}{i:Nat}{v:V}(h:(qs.map V.ref)[i]?=some v):∃q,qs[i]?=some q/\v=.ref q:=by
 rw[LD]at h
 cases e:qs[i]? with
 |none=>rw[e]at h;cases h
 |some c=>rw[e]at h;cases h;exact#[c,rfl,rfl]
def y9(tk s:List PySem.Str):(tk.map λx=>decide (x∈s)).all id = !dH tk s:=by
 unfold dH
 rw[NZ,List.not_any_eq_all_not]
 congr 1
 funext x
 simp
def vT(tk gv s:List PySem.Str):(gv.map λx=>decide (x∈s.filter λy=>!decide (y∈tk))).any id=second tk gv s:=by
 unfold second
 rw[OU]
 congr 1
 funext x
 rw[LV]
 simp[L4]
def qd(K:PySem.W.Frag):Sp:=λvs H Q _=>∃(a b:Addr) (L S:List PySem.Str) (es:List (List PySem.Str×List PySem.Str)),vs=[.ref a,.ref b]/\mJ H a es/\xk L es/\aH K H b (aE S)/\S.Nodup/\(∀x∈S,x∈L) /\
 ∀H' r,au H H'->(r=true->∃W,oy es (aL S) W)->Q (.bl r) H'
def cS:aF ["_law_steps","_law_beads","_law_waiting","_law_at_here","_law_here","_law_takes","_law_gives","_law_rest","_law_there"] ["_law_steps","_law_beads"] (av jZ):=ff
inductive OdI(H:Hp)(a b wq:Addr)(L s0:List PySem.Str)(es:List (List PySem.Str×List PySem.Str))(m:Nat)(σ:St)(H2:Hp):Prop
 |mk (k:Nat) (ts:List (List PySem.Str)) (v4 v5 v6 v7 v8:Option V) (q0:σ=[some (.ref a),some (.ref b),some (.ref wq),some (.int (k:Int)),v4,v5,v6,v7,v8]) (q1:au H H2) (q2:lI H2 wq ts) (q3:Ji L es s0 k ts) (q4:m=5000-k)
inductive Js(H:Hp)(a b wq hq:Addr)(L s0 t:List PySem.Str)(es:List (List PySem.Str×List PySem.Str))(k:Nat)(i:Nat)(σ:St)(H2:Hp):Prop
 |mk (ts:List (List PySem.Str)) (v5 v6 v7 v8:Option V) (q0:σ=[some (.ref a),some (.ref b),some (.ref wq),some (.int ((k:Int)+1)),some (.ref hq),v5,v6,v7,v8]) (q1:au H H2) (q2:lI H2 wq ts) (q3:Ji L es s0 k ts) (q4:ts[k]?=some t) (q5:∀e∈es.take i,dH e.1 t=false->second e.1 e.2 t=false/\behind e.1 e.2 t∈ts) (q6:H2 hq=some (.tup (aE t)))
def Js.same{H:Hp}{a b wq hq:Addr}{L s0 t:List PySem.Str}{es:List (List PySem.Str×List PySem.Str)}{k i:Nat}{σ:St}{H2:Hp}(h:Js H a b wq hq L s0 t es k i σ H2):au H H2:=by
 cases h
 assumption
def vy{f:Addr}{fd:FuncData}(F:dN K "_law_orderly" "_law_orderly" jZ f fd)(T:Txt K mg)(T2:Txt2 mg):bf P w K mg base cZ 1 f fd ["_law_steps","_law_beads"] (qd K):=by
 apply F.oK cS λcdv A outer s H vs Q E hr h=>?_
 ·obtain⟨a,b,L,S,es,rfl,hsa,hin,hb,Sn,SL,kk⟩:=h
  have hsl:=LG
  have hu1:=c7 hr
  apply#[_,ag (cM 2 cS (bu (aa (a8 cj rfl T.tup eA (aa (aA cu rfl T.aL cf (aa (pv 1) af)) af)) af)))
   (ag (cM 3 cS aj)
   (ag (oN LC (aY uk (pv 3) (aA bB rfl T.len cY (aa (pv 2) af)) (bp _))
    (ag (cM 4 cS (aQ aI (pv 2) (pv 3) (λ_ _=>rfl)))
    (ag (cM 3 cS (aw eE (pv 3) aj))
    (ak (bO LC rfl (aZ (pv 0)) (eD rfl (aU (fE 5 cS) (aU (fE 6 cS) di)))
     (ak (bK (ck (aA (gY rfl) rfl T.all qk (aa (cE (N:=["_law_place","_law_here"]) (n:=1) (ci:=[4]) rfl (aZ (pv 5))
       (oO cS)
       (λz=>#[kJ 0,cR,dP k8 (pv 0) (pv 1) (by with_unfolding_all rfl)])) af)))
      (ag (cM 7 cS (cE (N:=["_law_place","_law_takes"]) (n:=1) (ci:=[5]) rfl (jM (pv 4))
       (oO cS)
       (λz=>#[kJ 0,ko (aY fX (pv 0) (pv 1) (by with_unfolding_all rfl)),pv 0])))
      (ag (bK (ck (aA (oe rfl) rfl T2.any AZ (aa (cE (N:=["_law_place","_law_rest"]) (n:=1) (ci:=[7]) rfl (aZ (pv 6))
       (oO cS)
       (λz=>#[kJ 0,cR,dP k8 (pv 0) (pv 1) (by with_unfolding_all rfl)])) af))) (ak (aK iz)) aM)
      (ag (cM 8 cS (a8 cj rfl T.tup eA (aa (aA cu rfl T.aL cf (aa (aw eC (pv 7) (pv 6)) af)) af)))
      (ak (bK (aY pC (pv 8) (pv 2) (by with_unfolding_all rfl)) (ak (a9 (df Lr Lv Lw bb (pv 2) (aa (pv 8) af)))) aM))))) aM)))))))
   (ak (aK iz)))),?_]
  ac_rfl
  have ll:=hin.ll
  have lS:S.length<=12:=LM (dZ Sn SL) ll
  obtain⟨qs0,hqs0,hpe⟩:=hsa
  apply#[Z,b,S,rfl,hb,by lia,λq1 n1=>#[q1,Z,.inl #[aH.of ae,λa0 na0=>?_]]]
  have s1:=(ao (o:=.lst (aE (aL S))) n1).trans (ao (o:=.tup (aE (aL S))) na0)
  have ha0:(upd (upd H q1 (.lst (aE (aL S)))) a0 (.tup (aE (aL S)))) a0=some (.tup (aE (aL S))):=ae
  generalize upd (upd H q1 (.lst (aE (aL S)))) a0 (.tup (aE (aL S)))=H1 at s1 ha0 ⊢
  apply#[by show 1<=sizeLine;lia,λwq nwq=>?_]
  have nwq0:H wq=none:=s1.free nwq
  have s2:au H1 (upd H1 wq (.lst [.ref a0])):=ao nwq
  have hwq:(upd H1 wq (.lst [.ref a0])) wq=some (.lst ([a0].map V.ref)):=ae
  have ha2:=s2 _ _ ha0
  generalize upd H1 wq (.lst [.ref a0])=H2 at s2 hwq ha2 ⊢
  have s02:=s1.trans s2
  have st0:vQ L (aL S):=#[dD.aL Sn,λx hx=>SL x (cQ.mp hx)]
  apply#[OdI H a b wq L (aL S) es,#[_,0,[aL S],none,none,none,none,none,rfl,s02,#[[a0],hwq,.cons ha2 .nil],#[by simp,λt ht=>by
   have:t=aL S:=by simpa using ht
   rw[this];exact st0,by simp,LA _,λj t hj=>absurd hj (by lia)],rfl],?_]
  rintro m σ H3 ⟨k,ts,v4,v5,v6,v7,v8,rfl,s3,sts,oq,rfl⟩
  have gX:=oq.gX hin.nd ll
  obtain⟨qs,hqs,hpq⟩:=id sts
  have lpq:=Lz hpq
  apply#[Z,Z,_,ts.length,rfl,.inl #[_,aH.of hqs,by rw[K4,lpq]],_,Z,rfl,Z,?_]
  by_cases hk:k<ts.length
  ·rw[Lk (show((k:Nat):Int)<((ts.length:Nat):Int) by lia)]
   apply cy #[λσ' H'=>∃m',m'<5000-k/\OdI H a b wq L (aL S) es m' σ' H',λσ' H' h=>h,?_]
   have htk:ts[k]?=some ts[k]:=K7 hk
   have hqk:qs[k]?=some (qs[k]'(by lia)):=K7 (by lia)
   obtain⟨t',ht',hq'⟩:=br hpq hqk
   generalize qs[k]'(by lia)=hq at hqk hq'
   rw[htk]at ht'
   obtain rfl:ts[k]=t':=LS ht'
   generalize ts[k]=t at htk hq'
   have hst:=oq.inn t (Lg htk)
   have lt12:=hst.len ll
   apply#[Z,Z,wq,_,_,Z,rfl,aH.of hqs,aD (j:=k) (by rw[LD,hqk];rfl),?_]
   apply#[Z,_,Z,rfl,?_]
   apply#[Z,a,rfl,#[_,aH.of (s3 _ _ hqs0)],bJ (K:=K) (a:=a) (xs:=qs0.map V.ref) (Js H a b wq hq L (aL S) t es k)
    #[ts,v5,v6,v7,v8,rfl,s3,sts,oq,htk,(λe he=>by simp at he),hq'] (λi σ H4 _ h=>aH.of (h.same _ _ hqs0)) ?_ ?_]
   ·rintro i v σ H4 hi ⟨ts,v5,v6,v7,v8,rfl,s4,sts,oq,htk,hgo,hq4⟩
    obtain⟨q,hqi,rfl⟩:=Eu hi
    obtain⟨e,hei,l,g,htq,hl,hg⟩:=br hpe hqi
    have hemem:=Lg hei
    obtain⟨et1,et2⟩:=hin.t e hemem
    obtain⟨eg1,eg2,eg3⟩:=hin.g e hemem
    have etk:es.take (i+1)=es.take i++[e]:=ay hei
    have addE:∀{ts':List (List PySem.Str)},(∀x∈ts,x∈ts')->(dH e.1 t=false->second e.1 e.2 t=false/\behind e.1 e.2 t∈ts')->∀e'∈es.take (i+1),dH e'.1 t=false->second e'.1 e'.2 t=false/\behind e'.1 e'.2 t∈ts':=λ{ts'} hsub hne e' he' hl'=>by
     rw[etk]at he'
     rcases K9.mp he' with z|z
     ·have:=hgo e' z hl'
      exact#[this.1,hsub _ this.2]
     ·have:e'=e:=by simpa using z
      subst this
      exact hne hl'
    apply#[q,Z,cz.of (s4 _ _ htq),rfl,_,Z,_,Z,rfl,?_]
    apply#[Z,l,rfl,#[_,aH.of (s4 _ _ hl)],λz D hD=>cv (a:=l) (xs:=aE e.1) (λi ys H5=>ys=(e.1.take i).map (λx=>V.bl (decide (x∈t)))/\H5 D=some (.lst ys)/\au H4 H5) #[rfl,ae,ao hD] (λi ys H5 _ p=>aH.of (p.2.2 _ _ (s4 _ _ hl))) ?_ ?_]
    ·rintro i' vv ys H5 hi' ⟨rfl,hys,s5⟩
     obtain⟨x,hx,rfl⟩:=c6 hi'
     apply#[Z,Z,hq,aE t,rfl,.inr (cz.of (s5 _ _ hq4)),rfl,da t,hys,?_,?_,ae,aJ s5 hD]
     ·rw[K4,Lf]
      lia
     ·rw[ay hx,Ll,jE]
      rfl
    rintro ys H5 ⟨rfl,hys,s5⟩
    rw[ar,LH]at hys
    apply#[D,e.1.map λx=>decide (x∈t),rfl,aH.of (by rw[hys,LY];rfl),?_]
    rw[y9]
    apply#[Z,?_]
    have s05:=s4.trans s5
    have sts5:=lI.AX s5 sts
    have hq5:=s5 _ _ hq4
    cases c1:dH e.1 t with
    |true =>
     apply bz ?_
     exact#[ts,_,_,_,Z,s05,sts5,oq,htk,addE (λx hx=>hx) (λz=>by rw[c1]at z;cases z),hq5]
    |false =>
     apply cy ?_
     clear hys hD
     apply#[Z,hq,rfl,#[_,cz.of hq5],λz D1 hD1=>oF (a:=hq) (xs:=aE t) (λi ys H6=>ys=aE ((t.take i).filter λx=>!decide (x∈e.1))/\H6 D1=some (.lst ys)/\au H5 H6) #[rfl,ae,ao hD1] (λi ys H6 _ p=>cz.of (p.2.2 _ _ hq5)) ?_ ?_]
     ·rintro i' vv ys H6 hi' ⟨rfl,hys,s6⟩
      obtain⟨x,hx,rfl⟩:=c6 hi'
      apply#[Z,Z,l,aE e.1,rfl,.inl (aH.of ((s05.trans s6) _ _ hl)),rfl,da _,Z,?_]
      show if (!Gm (V.str x) (aE e.1))=true then _ else _
      rw[jE]
      have hlen:(aE ((t.take i').filter λx=>!decide (x∈e.1))).length<sizeLine:=by
       rw[ar]
       have:=MD (λx=>!decide (x∈e.1)) (t.take i')
       rw[Lf]at this
       lia
      cases c2:decide (x∈e.1) with
      |true =>
       apply bz #[?_,hys,s6]
       rw[ay hx,My]
       simp[c2]
      |false =>
       apply cy #[Z,hys,hlen,?_,ae,aJ s6 hD1]
       rw[ay hx,My]
       unfold aE
       simp[c2]
     rintro ys H6 ⟨rfl,hre,s6⟩
     rw[ar,LH]at hre
     have lre:(t.filter λx=>!decide (x∈e.1)).length<=12:=LM (MD _ _) lt12
     generalize D1=rq at hre
     clear hD1
     have s06:=s05.trans s6
     apply#[Z,g,rfl,#[_,aH.of (s06 _ _ hg)],λz D2 hD2=>cv (a:=g) (xs:=aE e.2) (λi ys H7=>ys=(e.2.take i).map (λx=>V.bl (decide (x∈t.filter λy=>!decide (y∈e.1))))/\H7 D2=some (.lst ys)/\au H6 H7) #[rfl,ae,ao hD2] (λi ys H7 _ p=>aH.of ((s06.trans p.2.2) _ _ hg)) ?_ ?_]
     ·rintro i' vv ys H7 hi' ⟨rfl,hys,s7⟩
      obtain⟨x,hx,rfl⟩:=c6 hi'
      apply#[Z,Z,rq,aE (t.filter λy=>!decide (y∈e.1)),rfl,.inl (aH.of (s7 _ _ hre)),rfl,da _,hys,?_,?_,ae,aJ s7 hD2]
      ·rw[K4,Lf]
       lia
      ·rw[ay hx,Ll,jE]
       rfl
     rintro ys H7 ⟨rfl,hys,s7⟩
     rw[ar,LH]at hys
     apply#[D2,e.2.map λx=>decide (x∈t.filter λy=>!decide (y∈e.1)),rfl,aH.of (by rw[hys,LY];rfl),?_]
     rw[vT]
     apply#[Z,?_]
     have s07:=s06.trans s7
     cases c2:second e.1 e.2 t with
     |true =>
      apply cy ?_
      exact kk _ false s07 λz=>nomatch z
     |false =>
      apply bz ?_
      clear hys hD2
      have hre7:=s7 _ _ hre
      have hg7:=s07 _ _ hg
      have sts7:=lI.AX (s6.trans s7) sts5
      have hq7:=(s6.trans s7) _ _ hq5
      apply#[Z,Z,rq,g,_,Z,rfl,hre7,hg7,by rw[ar,ar];lia,λc3 nc3=>?_]
      rw[ja]
      obtain⟨H8,eU,s8,hc3⟩:=fL nc3 (.lst (aE ((t.filter λx=>!decide (x∈e.1))++e.2)))
      rw[eU]
      apply#[c3,Z,aH.of hc3,by rw[K5];lia,λq4 n4=>#[q4,Z,.inl #[aH.of ae,λtq ntq=>?_]]]
      have s9:=(ao (o:=.lst (aE (aL ((t.filter λx=>!decide (x∈e.1))++e.2)))) n4).trans (ao (o:=.tup (aE (aL ((t.filter λx=>!decide (x∈e.1))++e.2)))) ntq)
      have htq9:(upd (upd H8 q4 (.lst (aE (aL ((t.filter λx=>!decide (x∈e.1))++e.2))))) tq (.tup (aE (aL ((t.filter λx=>!decide (x∈e.1))++e.2))))) tq=some (.tup (aE (behind e.1 e.2 t))):=ae
      generalize upd (upd H8 q4 (.lst (aE (aL ((t.filter λx=>!decide (x∈e.1))++e.2))))) tq (.tup (aE (aL ((t.filter λx=>!decide (x∈e.1))++e.2))))=H9 at s9 htq9 ⊢
      have s79:=s8.trans s9
      have s09:=s07.trans s79
      have sts9:=lI.AX s79 sts7
      have hq9:=s79 _ _ hq7
      obtain⟨qs,hqs,hpq⟩:=id sts9
      have gX:=oq.gX hin.nd ll
      have lpq:=Lz hpq
      apply#[Z,Z,tq,wq,qs,ts,behind e.1 e.2 t,rfl,rfl,hu1,htq9,hqs,hpq,Z,?_]
      by_cases hb':behind e.1 e.2 t∈ts
      ·rw[Lk hb']
       apply bz ?_
       exact#[ts,_,_,_,Z,s09,sts9,oq,htk,addE (λx hx=>hx) (λ_=>#[c2,hb']),hq9]
      ·rw[Lq hb']
       apply cy ?_
       apply#[Z,.inl #[rfl,_,aH.of hqs],Z,wq,_,Z,rfl,hqs,by rw[K4];lia,?_]
       have up:∀{b:Addr} {xs:List V},H9 b=some (.tup xs)->(upd H9 wq (.lst (qs.map V.ref++[V.ref tq]))) b=some (.tup xs):=λ{b xs} e=>by rw[ai (aX e hqs (λz=>nomatch z))];exact e
       have hlt:k<ts.length:=(Lh.mp htk).1
       apply#[ts++[behind e.1 e.2 t],_,_,_,Z,aJ s09 nwq0,#[qs++[tq],by rw[ae,Ll];rfl,ML (Paired.cc hpq λ_ _ e=>up e) (up htq9)],#[?_,λt' ht'=>?_,Lj _ oq.st,by have:=oq.le;rw[K5];lia,λj t' hj hjt e' he' hl'=>?_],by rw[Mb hlt];exact htk,addE (λx hx=>Lj _ hx) (λ_=>#[c2,Lp _ (LZ.mpr rfl)]),up hq9]
       ·apply L1.mpr ⟨oq.nd,by simp,λx hx y hy=>?_⟩
        have:y=behind e.1 e.2 t:=by simpa using hy
        rw[this]
        rintro rfl
        exact hb' hx
       ·rcases K9.mp ht' with z|z
        ·exact oq.inn t' z
        ·have:t'=behind e.1 e.2 t:=by simpa using z
         rw[this]
         exact hst.next eg1 eg3 c2
       ·rw[Mb (by have:=oq.le;lia)]at hjt
        have:=oq.go j t' hj hjt e' he' hl'
        exact#[this.1,Lj _ this.2]
   ·rintro σ H4 ⟨ts,v5,v6,v7,v8,rfl,s4,sts,oq,htk,hgo,hq4⟩
    rw[K4,<-Lz hpe,LH]at hgo
    have hk2:k<ts.length:=(Lh.mp htk).1
    have gX:=oq.gX hin.nd ll
    apply#[5000-(k+1),by lia,k+1,ts,_,_,_,_,_,by push_cast;rfl,s4,sts,#[oq.nd,oq.inn,oq.st,hk2,λj t' hj hjt=>?_],rfl]
    by_cases e:j=k
    ·subst e
     rw[htk]at hjt
     cases hjt
     exact hgo
    ·exact oq.go j t' (by lia) hjt
  ·rw[Lq (show ¬((k:Nat):Int)<((ts.length:Nat):Int) by lia)]
   apply bz ?_
   have ek:k=ts.length:=by have:=oq.le;lia
   apply kk _ true s3 λ_=>#[ts,oq.st,λt ht=>?_]
   obtain⟨j,hj⟩:=Qh.mp ht
   exact oq.go j t (by rw[ek];exact(Lh.mp hj).1) hj
end Uf
namespace L2
open PySem PySem.Spec PyProof.Rows UfSrt
def rm(H:Hp)(D:Addr):Hp:=λb=>if b=D then none else H b
def km{H:Hp}{D:Addr}:rm H D D=none:=Ls rfl
def lO{H:Hp}{D b:Addr}(h:b≠D):rm H D b=H b:=Le h
def ik{H H':Hp}(D:Addr)(s:au H H'):au (rm H D) (rm H' D):=λb o e=>by
 by_cases h:b=D
 ·subst h
  rw[km]at e
  cases e
 ·rw[lO h]at e ⊢
  exact s b o e
def qv(H:Hp)(D:Addr):au (rm H D) H:=λb o e=>by
 by_cases h:b=D
 ·subst h
  rw[km]at e
  cases e
 ·rwa[lO h]at e
def BF{H:Hp}{D:Addr}{o:HO}:rm (upd H D o) D=rm H D:=by
 funext b
 by_cases h:b=D
 ·subst h
  rw[km,km]
 ·rw[lO h,lO h,ai h]
def qa{H:Hp}{D b:Addr}{o:HO}(e:H b=some o)(h:b≠D):rm H D b=some o:=by rw[lO h];exact e
end L2
namespace Uf
open PySem L2 UfSrt UfStr UfFin
abbrev mC:Stmt:=top 49
def dU(H:Hp)(a:Addr)(es:List (List PySem.Str×List PySem.Str)):Prop:=∃qs:List Addr,H a=some (.lst (qs.map V.ref))/\Paired (iq (rm H a)) es qs
def dU.at'{H:Hp}{a:Addr}{es:List (List PySem.Str×List PySem.Str)}(h:dU H a es):mJ H a es:=by
 obtain⟨qs,h1,h2⟩:=h
 exact#[qs,h1,Paired.cc h2 λ_ _ z=>z.same (qv _ _)]
theorem dU.same{H H':Hp}{a:Addr}{es:List (List PySem.Str×List PySem.Str)}(s:au H H')(h:dU H a es):dU H' a es:=by
 obtain⟨qs,h1,h2⟩:=h
 exact#[qs,s _ _ h1,Paired.cc h2 λ_ _ z=>z.same (ik a s)]
def dU.push{H:Hp}{a t l g:Addr}{es:List (List PySem.Str×List PySem.Str)}{T G:List PySem.Str}{qs:List Addr}(h:Paired (iq (rm H a)) es qs)(ht:H t=some (.tup [.ref l,.ref g]))(hl:H l=some (.lst (aE T)))(hg:H g=some (.lst (aE G)))(nt:t≠a)(nl:l≠a)(ng:g≠a) :
  dU (upd H a (.lst (qs.map V.ref++[V.ref t]))) a (es++[(T,G)]):=by
 apply#[qs++[t],by rw[ae,Ll];rfl,?_]
 rw[BF]
 exact ML h #[l,g,qa ht nt,qa hl nl,qa hg ng]
def ur(K:PySem.W.Frag):Sp:=λvs H Q _=>∃(c b d:Addr) (cs:List Int) (L S:List PySem.Str),vs=[.ref c,.ref b,.ref d]/\aH K H c (cs.map V.int)/\cs.length<=8/\aH K H b (aE L)/\L.Nodup/\1<=L.length/\L.length<=12/\aH K H d (aE S)/\S.Nodup/\(∀x∈S,x∈L) /\
 ∀H' q es,au H H'->H q=none->dU H' q es->es.length<=cs.length->(∀e∈es,gA L e.1 e.2)->(∃W,oy es (aL S) W)->Q (.ref q) H'
def kg:aF ["_law_cells","_law_names","_law_beads","_law_steps","_law_cell","_law_step_here"] ["_law_cells","_law_names","_law_beads"] (av mC):=ff
inductive Jv(H:Hp)(c b d st:Addr)(L S:List PySem.Str)(i:Nat)(σ:St)(H2:Hp):Prop
 |mk (v4 v5:Option V) (es:List (List PySem.Str×List PySem.Str)) (q0:σ=[some (.ref c),some (.ref b),some (.ref d),some (.ref st),v4,v5]) (q1:au H H2) (q2:dU H2 st es) (q3:es.length<=i) (q4:∀e∈es,gA L e.1 e.2) (q5:∃W,oy es (aL S) W)
def Jv.same{H:Hp}{c b d st:Addr}{L S:List PySem.Str}{i:Nat}{σ:St}{H2:Hp}(h:Jv H c b d st L S i σ H2):au H H2:=by
 cases h
 assumption
def EB{L:List PySem.Str}{es:List (List PySem.Str×List PySem.Str)}(hn:L.Nodup)(hl:L.length<=12)(le:es.length<=20)(h:∀e∈es,gA L e.1 e.2):xk L es :=
 #[hn,hl,le,λe he=>#[(h e he).ti,by have:=(h e he).t4;lia],λe he=>#[(h e he).gi,by have:=(h e he).g4;lia,(h e he).gn]]
def yY{f:Addr}{fd:FuncData}(F:dN K "_law_loose" "_law_loose" mC f fd)
  (DL:gG P w K mg base "_law_loose_step" qS ["_law_cell","_law_names"] 1 (x6 K))
  (DO:gG P w K mg base "_law_orderly" jZ ["_law_steps","_law_beads"] 1 (qd K)) :
  bf P w K mg base cZ 2 f fd ["_law_cells","_law_names","_law_beads"] (ur K):=by
 apply F.oK kg λcdv A outer s H vs Q E hr h=>?_
 ·obtain⟨c,b,d,cs,L,S,rfl,hc,lc,hb,Ln,l1,l12,hd,Sn,SL,kk⟩:=h
  have hsl:=LG
  apply#[_,ag (cM 3 kg (bu af))
   (ag (bO LC rfl (aZ (pv 0)) (fE 4 kg)
    (ag (cM 5 kg (eV DL hr (aa (pv 4) (aa (pv 1) af))))
    (ak (bK (ck (eV DO hr (aa (aw eC (pv 3) (bu (aa (pv 5) af))) (aa (pv 2) af))))
     (ak (a9 (df Lr Lv Lw bb (pv 3) (aa (pv 5) af)))) aM))))
   (ak (aK (pv 3)))),?_]
  ac_rfl
  apply#[LA _,λst nst=>?_]
  have s1:au H (upd H st (.lst [])):=ao nst
  apply#[Z,c,rfl,#[_,s1.seq hc],bJ (K:=K) (a:=c) (xs:=cs.map V.int) (Jv H c b d st L S)
   #[none,none,[],rfl,s1,#[[],ae,.nil],La _,(λe he=>nomatch he),#[[aL S],by simp,λt _ e he=>nomatch he]] (λi σ H2 _ h=>h.same.seq hc) ?_ ?_]
  ·rintro i v σ H2 hi ⟨v4,v5,es,rfl,sm,sr,le,hen,hcl⟩
   obtain⟨ce,hce,rfl⟩:=ints_get hi
   have hil:i<cs.length:=(Lh.mp hce).1
   obtain⟨qs,hqs,hpq⟩:=id sr
   have lpq:=Lz hpq
   apply#[Z,Z,ce,b,L,rfl,sm.seq hb,Ln,l1,l12,λH3 t l g T G s3 nt nl ng ht hl hg en=>?_]
   have sm3:=sm.trans s3
   have ntq:t≠st:=(aq hqs nt).symm
   have nlq:l≠st:=(aq hqs nl).symm
   have ngq:g≠st:=(aq hqs ng).symm
   have hqs3:=s3 _ _ hqs
   have hpq3:=Paired.cc hpq λ_ _ z=>z.same (ik st s3)
   apply#[Z,Z,by show 1<=sizeLine;lia,λq1 nq1=>?_]
   obtain⟨H4,eU,s4,hq1⟩:=fL nq1 (.lst [.ref t])
   rw[eU]
   apply#[st,q1,_,Z,rfl,s4 _ _ hqs3,hq1,by rw[K4];show _+1<=_;lia,λq2 nq2=>?_]
   have s5:au H4 (upd H4 q2 (.lst (qs.map V.ref++[.ref t]))):=ao nq2
   have hq2:(upd H4 q2 (.lst (qs.map V.ref++[.ref t]))) q2=some (.lst ((qs++[t]).map V.ref)):=by rw[ae,Ll];rfl
   generalize upd H4 q2 (.lst (qs.map V.ref++[.ref t]))=H5 at s5 hq2 ⊢
   have s35:=s4.trans s5
   have sm5:=sm3.trans s35
   have hen':∀e∈es++[(T,G)],gA L e.1 e.2:=λe he=>by
    rcases K9.mp he with z|z
    ·exact hen e z
    ·have:e=(T,G):=by simpa using z
     rw[this]
     exact en
   apply#[Z,q2,d,L,S,es++[(T,G)],rfl,#[qs++[t],hq2,ML (Paired.cc hpq3 λ_ _ z=>(z.same (qv _ _)).same s35) #[l,g,s35 _ _ ht,s35 _ _ hl,s35 _ _ hg]],EB Ln l12 (by rw[K5];show _+1<=20;lia) hen',sm5.seq hd,Sn,SL,λH6 r s6 hr=>#[Z,?_]]
   have s36:=s35.trans s6
   have sm6:=sm3.trans s36
   have hpq6:=Paired.cc hpq3 λ_ _ z=>z.same (ik st s36)
   cases r with
   |false =>
    apply bz ?_
    exact#[_,_,es,rfl,sm6,#[qs,s36 _ _ hqs3,hpq6],by lia,hen,hcl]
   |true =>
    apply cy ?_
    apply#[Z,.inl #[rfl,_,aH.of (s36 _ _ hqs3)],Z,st,_,Z,rfl,s36 _ _ hqs3,by rw[K4];lia,?_]
    exact#[_,_,es++[(T,G)],rfl,aJ sm6 nst,dU.push hpq6 (s36 _ _ ht) (s36 _ _ hl) (s36 _ _ hg) ntq nlq ngq,by rw[K5];show _+1<=_;lia,hen',hr rfl]
  ·rintro σ H2 ⟨v4,v5,es,rfl,sm,sr,le,hen,hcl⟩
   rw[K4]at le
   exact#[Z,kk _ st es sm nst sr le hen hcl]
abbrev mP:Stmt:=top 50
def bQ(Nm:List PySem.Str)(ps:List (Nat×Int)):List PySem.Str:=ps.map λq=>Nm.getD q.2.toNat ""
def eJ(Nm:List PySem.Str)(ps:List (Nat×Int)):(bQ Nm ps).length=ps.length:=K4 _
def lQ(Nm:List PySem.Str)(ss:List Int)(e:List PySem.Str×List PySem.Str):Prop:=∃ps qs,Ad ss ps qs/\e=(bQ Nm ps,bQ Nm qs)
def xR{ps:List (Nat×Int)}{i:Nat}{v:V}(h:(mO ps)[i]?=some v):∃q,ps[i]?=some q/\v=.int q.2:=by
 unfold mO at h
 rw[LY,LD]at h
 cases e:ps[i]? with
 |none=>rw[e]at h;cases h
 |some c=>rw[e]at h;cases h;exact#[c,rfl,rfl]
def jJ.fits{ss:List Int}(h:∀x∈ss,1<=x/\x<=4)(l3:ss.length<=3){ps:List (Nat×Int)}(r:jJ ss ss.length ps){q:Nat×Int}(hq:q∈ps):0<=q.2/\q.2<12:=by
 have h1:=r.lt q hq
 have h2:=r.at' q hq
 have h3:=qT h (q.1+1)
 have h4:pre ss 0<=pre ss q.1:=gp h (LA _)
 have h5:pre ss 0=0:=by simp[pre]
 constructor
 ·lia
 ·push_cast at h3
  lia
def m7{Nm:List PySem.Str}{ps:List (Nat×Int)}{i:Nat}{q:Nat×Int}(h:ps[i]?=some q):aE (bQ Nm (ps.take i))++[V.str (Nm.getD q.2.toNat "")]=aE (bQ Nm (ps.take (i+1))):=by
 rw[ay h]
 unfold bQ aE
 rw[Ll,Ll]
 rfl
def tK(K:PySem.W.Frag):Sp:=λvs H Q _=>∃(c b z:Addr) (cs ss:List Int) (Nm:List PySem.Str),vs=[.ref c,.ref b,.ref z]/\aH K H c (cs.map V.int)/\cs.length<=8/\aH K H b (aE Nm)/\Nm.length=12/\aH K H z (ss.map V.int)/\1<=ss.length/\ss.length<=3/\(∀x∈ss,1<=x/\x<=4) /\
 ∀H' q es,au H H'->H q=none->dU H' q es->es.length<=cs.length->(∀e∈es,lQ Nm ss e)->Q (.ref q) H'
def gP:aF ["_law_cells","_law_names","_law_sizes_here","_law_steps","_law_cell","_law_ends"] ["_law_cells","_law_names","_law_sizes_here"] (av mP):=ff
inductive K0(H:Hp)(c b z st:Addr)(Nm:List PySem.Str)(ss:List Int)(i:Nat)(σ:St)(H2:Hp):Prop
 |mk (v4 v5:Option V) (es:List (List PySem.Str×List PySem.Str)) (q0:σ=[some (.ref c),some (.ref b),some (.ref z),some (.ref st),v4,v5]) (q1:au H H2) (q2:dU H2 st es) (q3:es.length<=i) (q4:∀e∈es,lQ Nm ss e)
def K0.same{H:Hp}{c b z st:Addr}{Nm:List PySem.Str}{ss:List Int}{i:Nat}{σ:St}{H2:Hp}(h:K0 H c b z st Nm ss i σ H2):au H H2:=by
 cases h
 assumption
def zp{f:Addr}{fd:FuncData}(F:dN K "_law_ringed" "_law_ringed" mP f fd)
  (DS:gG P w K mg base "_law_step" x3 ["_law_cell","_law_sizes_here"] 1 (A0 K)) :
  bf P w K mg base cZ 2 f fd ["_law_cells","_law_names","_law_sizes_here"] (tK K):=by
 apply F.oK gP λcdv A outer s H vs Q E hr h=>?_
 ·obtain⟨c,b,z,cs,ss,Nm,rfl,hc,lc,hb,lN,hz,z1,z3,hss,kk⟩:=h
  have hsl:=LG
  apply#[_,ag (cM 3 gP (bu af))
   (ag (bO LC rfl (aZ (pv 0)) (fE 4 gP)
    (ag (cM 5 gP (eV DS hr (aa (pv 4) (aa (pv 2) af))))
    (ak (a9 (df Lr Lv Lw bb (pv 3) (aa (cX
     (aa (cE (N:=["_law_p","_law_names"]) (n:=1) (ci:=[1]) rfl (aZ (aQ aI (pv 5) aj (λ_ _=>rfl)))
       (oO gP)
       (λz=>#[kJ 0,cR,aQ aI (pv 1) (pv 0) (λ_ _=>rfl)]))
     (aa (cE (N:=["_law_p","_law_names"]) (n:=1) (ci:=[1]) rfl (aZ (aQ aI (pv 5) aj (λ_ _=>rfl)))
       (oO gP)
       (λz=>#[kJ 0,cR,aQ aI (pv 1) (pv 0) (λ_ _=>rfl)])) af))) af))))))
   (ak (aK (pv 3)))),?_]
  ac_rfl
  apply#[LA _,λst nst=>?_]
  have s1:au H (upd H st (.lst [])):=ao nst
  apply#[Z,c,rfl,#[_,s1.seq hc],bJ (K:=K) (a:=c) (xs:=cs.map V.int) (K0 H c b z st Nm ss)
   #[none,none,[],rfl,s1,#[[],ae,.nil],La _,(λe he=>nomatch he)] (λi σ H2 _ h=>h.same.seq hc) ?_ ?_]
  ·rintro i v σ H2 hi ⟨v4,v5,es,rfl,sm,sr,le,hen⟩
   obtain⟨ce,hce,rfl⟩:=ints_get hi
   have hil:i<cs.length:=(Lh.mp hce).1
   obtain⟨qs,hqs,hpq⟩:=id sr
   have lpq:=Lz hpq
   apply#[Z,Z,ce,z,ss,rfl,sm.seq hz,z1,z3,hss,λH3 en a0 a1 p0 p1 s3 nen hen3 h0 h1 sp=>?_]
   have sm3:=sm.trans s3
   have hqs3:=s3 _ _ hqs
   have hpq3:=Paired.cc hpq λ_ _ z=>z.same (ik st s3)
   apply#[Z,.inl #[rfl,_,aH.of hqs3],?_]
   apply#[Z,en,_,0,Z,rfl,aH.of hen3,aD (j:=0) rfl,a0,rfl,#[_,aH.of h0],λz D hD=>cv (a:=a0) (xs:=mO p0) (λi ys H5=>ys=aE (bQ Nm (p0.take i))/\H5 D=some (.lst ys)/\au H3 H5) #[rfl,ae,ao hD] (λi ys H5 _ p=>aH.of (p.2.2 _ _ h0)) ?_ ?_]
   ·rintro i' vv ys H5 hi' ⟨rfl,hys,s5⟩
    obtain⟨q,hq,rfl⟩:=xR hi'
    have fq:=jJ.fits hss z3 sp.p (Lg hq)
    have hi2:i'<p0.length:=(Lh.mp hq).1
    have l0:=sp.p.len
    apply#[Z,Z,b,_,_,Z,rfl,(sm3.trans s5).seq hb,gz fq.1 (by lia),hys,?_,m7 hq,ae,aJ s5 hD]
    rw[ar,eJ,Lf]
    lia
   rintro ys H5 ⟨rfl,hl,s5⟩
   rw[mS,LH]at hl
   have nlq:D≠st:=(aq hqs3 hD).symm
   clear hD
   rename Addr=>l
   have sm5:=sm3.trans s5
   apply#[Z,en,_,1,Z,rfl,aH.of (s5 _ _ hen3),aD (j:=1) rfl,a1,rfl,#[_,aH.of (s5 _ _ h1)],λz D hD=>cv (a:=a1) (xs:=mO p1) (λi ys H6=>ys=aE (bQ Nm (p1.take i))/\H6 D=some (.lst ys)/\au H5 H6) #[rfl,ae,ao hD] (λi ys H6 _ p=>aH.of ((s5.trans p.2.2) _ _ h1)) ?_ ?_]
   ·rintro i' vv ys H6 hi' ⟨rfl,hys,s6⟩
    obtain⟨q,hq,rfl⟩:=xR hi'
    have fq:=jJ.fits hss z3 sp.q (Lg hq)
    have hi2:i'<p1.length:=(Lh.mp hq).1
    have l0:=sp.q.len
    apply#[Z,Z,b,_,_,Z,rfl,(sm5.trans s6).seq hb,gz fq.1 (by lia),hys,?_,m7 hq,ae,aJ s6 hD]
    rw[ar,eJ,Lf]
    lia
   rintro ys H6 ⟨rfl,hg,s6⟩
   rw[mS,LH]at hg
   have ngq:D≠st:=(aq (s5 _ _ hqs3) hD).symm
   clear hD
   rename Addr=>g
   have s36:=s5.trans s6
   apply#[by show 2<=sizeLine;lia,λt nt=>?_]
   have ntq:t≠st:=(aq (s36 _ _ hqs3) nt).symm
   obtain⟨H7,eU,s7,ht⟩:=fL nt (.tup [.ref l,.ref g])
   rw[eU]
   have s37:=s36.trans s7
   apply#[st,_,Z,rfl,s37 _ _ hqs3,by rw[K4];lia,?_]
   apply#[_,_,es++[(bQ Nm p0,bQ Nm p1)],rfl,aJ (sm3.trans s37) nst,dU.push (Paired.cc hpq3 λ_ _ z=>z.same (ik st s37)) ht ((s6.trans s7) _ _ hl) (s7 _ _ hg) ntq nlq ngq,by rw[K5];show _+1<=_;lia,λe he=>?_]
   rcases K9.mp he with x|x
   ·exact hen e x
   ·have:e=(bQ Nm p0,bQ Nm p1):=by simpa using x
    rw[this]
    exact#[p0,p1,sp,rfl]
  ·rintro σ H2 ⟨v4,v5,es,rfl,sm,sr,le,hen⟩
   rw[K4]at le
   exact#[Z,kk _ st es sm nst sr le hen]
end Uf
section
set_option maxHeartbeats 400000
namespace Uf
open PySem L2 UfSrt
def qJ{ms:List Mv}{st:List Str}(hn:(names ms).Nodup)(J:List Str->Prop)(h0:J (aL st))(hs:∀t m,J t->m∈ms->dH m.2.1 t=false->second m.2.1 m.2.2 t=false->J (behind m.2.1 m.2.2 t))(hc:∀t m,J t->m∈ms->dH m.2.1 t=false->second m.2.1 m.2.2 t=false):UfBfs.Told (graph ms) (aL st) none:=by
 have all:∀k t,UfBfs.At (graph ms) (aL st) k t->J t:=λk t h=>by
  induction h with
  |zero=>exact h0
  |@succ k u x hu hx ih =>
   have hx:x∈pA ms u:=hx
   unfold pA at hx
   obtain⟨hx,x2⟩:=L4.mp hx
   obtain⟨hx,x1⟩:=L4.mp hx
   obtain⟨m,hm,rfl⟩:=ee hx
   unfold gm at x1
   unfold kO at x2
   rw[gH hn hm]at x1 x2
   rw[hU hn hm]at x2
   show J (iC ms u m.1)
   unfold iC
   rw[gH hn hm,hU hn hm]
   exact hs u m ih hm (by simpa using x1) (by simpa using x2)
 intro k t h
 show qY ms t=none
 unfold qY
 apply List.find?_eq_none.mpr λx hx z=>?_
 obtain⟨m,hm,rfl⟩:=ee hx
 unfold gm kO at z
 rw[gH hn hm,hU hn hm]at z
 simp at z
 have:=hc t m (all k t h) hm z.1
 rw[z.2]at this
 cases this
structure vq(E:Str->Str->Prop)(tk gv:List Str):Prop where
 c1:∀p∈gv,p∉tk->∃q∈tk,E p q
 c2:∀p∈gv,∀r,E p r->∃q∈tk,q=r\/E q r
 c3:∀p∈gv,∀q∈gv,¬E p q
def qz{ms:List Mv}{st:List Str}(E:Str->Str->Prop)(hsy:∀a b,E a b->E b a)(hn:(names ms).Nodup)(h0:∀a∈st,∀b∈st,¬E a b)(hm:∀m∈ms,(∃a∈m.2.1,∃b∈m.2.1,E a b)\/vq E m.2.1 m.2.2) :
  UfBfs.Told (graph ms) (aL st) none:=by
 have has:∀{tk t:List Str},dH tk t=false->∀x∈tk,x∈t:=λ{tk t} h x hx=>by
  unfold dH at h
  have:=List.any_eq_false.mp h x hx
  simpa using this
 apply qJ hn (λt=>∀a∈t,∀b∈t,¬E a b) (λa ha b hb=>h0 a (cQ.mp ha) b (cQ.mp hb)) (λt m J hmm hl hs a ha b hb e=>?_) λt m J hmm hl=>?_
 ·rcases hm m hmm with⟨x,hx,y,hy,exy⟩|X
  ·exact J x (has hl x hx) y (has hl y hy) exy
  ·unfold behind at ha hb
   have ha:=K9.mp (cQ.mp ha)
   have hb:=K9.mp (cQ.mp hb)
   have mix:∀p r,p∈m.2.2->r∈t.filter (λx=>!decide (x∈m.2.1))->E p r->False:=λp r hp hr epr=>by
    obtain⟨hr1,hr2⟩:=L4.mp hr
    have hr2:r∉m.2.1:=by simpa using hr2
    obtain⟨q,hq,z|z⟩:=X.c2 p hp r epr
    ·exact hr2 (by rw[<-z];exact hq)
    ·exact J q (has hl q hq) r hr1 z
   rcases ha with ha|ha
   ·rcases hb with hb|hb
    ·exact J a (L4.mp ha).1 b (L4.mp hb).1 e
    ·exact mix b a hb ha (hsy _ _ e)
   ·rcases hb with hb|hb
    ·exact mix a b ha hb e
    ·exact X.c3 a ha b hb e
 ·cases h:second m.2.1 m.2.2 t with
  |false=>rfl
  |true =>
   unfold second at h
   obtain⟨p,hp,z⟩:=MH.mp h
   simp at z
   rcases hm m hmm with⟨x,hx,y,hy,exy⟩|X
   ·exact absurd exy (J x (has hl x hx) y (has hl y hy))
   ·obtain⟨q,hq,e⟩:=X.c1 p hp z.2
    exact absurd e (J p z.1 q (has hl q hq))
end Uf
end
section
set_option maxHeartbeats 400000
namespace Uf
open PySem L2 UfSrt UfFin
structure yq(R:Nat->Str->Prop)(ex:List Str):Prop where
 one:∀j k x,R j x->R k x->j=k
 ext:∀x∈ex,∀j,¬R j x
def EX(R:Nat->Str->Prop)(ex:List Str)(s1 s2 a b:Str):Prop:=a≠b/\((∃j,R j a/\R j b)\/(R 0 a/\b∈ex)\/(a∈ex/\R 0 b)\/(a=s1/\b=s2)\/(a=s2/\b=s1))
theorem EX.symm{R:Nat->Str->Prop}{ex:List Str}{s1 s2 a b:Str}(h:EX R ex s1 s2 a b):EX R ex s1 s2 b a:=by
 obtain⟨n,⟨j,h1,h2⟩|⟨h1,h2⟩|⟨h1,h2⟩|⟨h1,h2⟩|⟨h1,h2⟩⟩:=h
 ·exact#[n.symm,.inl #[j,h2,h1]]
 ·exact#[n.symm,.inr (.inr (.inl #[h2,h1]))]
 ·exact#[n.symm,.inr (.inl #[h2,h1])]
 ·exact#[n.symm,.inr (.inr (.inr (.inr #[h2,h1])))]
 ·exact#[n.symm,.inr (.inr (.inr (.inl #[h2,h1])))]
structure RS(R:Nat->Str->Prop)(tk gv:List Str):Prop where
 t:∀p∈tk,∃j,R j p
 g:∀p∈gv,∃j,R j p/\∃q∈tk,R j q
 u:∀p∈gv,∀q∈gv,∀j,R j p->R j q->p=q
section
variable {R:Nat->Str->Prop}{ex:List Str}{s1 s2:Str}(hp:yq R ex)
include hp
theorem kB(hs:s1=s2\/(s1∈ex/\s2∈ex)){tk gv:List Str}(r:RS R tk gv):vq (EX R ex s1 s2) tk gv:=by
 have no12:∀{p q j},R j p->p≠q->p=s1->q=s2->False:=λ{p q j} hj n e1 e2=>by
  subst e1 e2
  rcases hs with z|⟨z,_⟩
  ·exact n z
  ·exact hp.ext _ z _ hj
 have no21:∀{p q j},R j p->p≠q->p=s2->q=s1->False:=λ{p q j} hj n e1 e2=>by
  subst e1 e2
  rcases hs with z|⟨_,z⟩
  ·exact n z.symm
  ·exact hp.ext _ z _ hj
 apply#[λp hpg hpt=>?_,λp hpg x e=>?_,λp hpg q hqg e=>?_]
 ·obtain⟨j,hj,q,hq,hqj⟩:=r.g p hpg
  exact#[q,hq,λz=>hpt (z ▸ hq),.inl #[j,hj,hqj]]
 ·obtain⟨j,hj,q,hq,hqj⟩:=r.g p hpg
  apply#[q,hq,?_]
  obtain⟨n,⟨k,h1,h2⟩|⟨h1,h2⟩|⟨h1,h2⟩|⟨h1,h2⟩|⟨h1,h2⟩⟩:=e
  ·have:k=j:=hp.one _ _ _ h1 hj
   subst this
   by_cases z:q=x
   ·exact .inl z
   ·exact .inr #[z,.inl #[k,hqj,h2]]
  ·have:0=j:=hp.one _ _ _ h1 hj
   subst this
   exact .inr #[λz=>hp.ext x h2 0 (z ▸ hqj),.inr (.inl #[hqj,h2])]
  ·exact absurd hj (hp.ext p h1 j)
  ·exact(no12 hj n h1 h2).elim
  ·exact(no21 hj n h1 h2).elim
 ·obtain⟨j,hj,_⟩:=r.g p hpg
  obtain⟨j',hj',_⟩:=r.g q hqg
  obtain⟨n,⟨k,h1,h2⟩|⟨h1,h2⟩|⟨h1,h2⟩|⟨h1,h2⟩|⟨h1,h2⟩⟩:=e
  ·exact n (r.u p hpg q hqg k h1 h2)
  ·exact hp.ext q h2 _ hj'
  ·exact hp.ext p h1 _ hj
  ·exact no12 hj n h1 h2
  ·exact no21 hj n h1 h2
theorem Cf{s0:Str}(h0:s0∈ex)(n1:s0≠s1)(n2:s0≠s2)(hs1:s1∈ex)(hs2:s2∈ex){tk gv:List Str}(r:RS R tk gv) :
  (∃a∈tk++[s0],∃b∈tk++[s0],EX R ex s1 s2 a b)\/vq (EX R ex s1 s2) (tk++[s0]) (gv++[s0]):=by
 have X:=kB hp (.inr #[hs1,hs2]) r
 have m0:∀l:List Str,s0∈l++[s0]:=λl=>Lp _ (LZ.mpr rfl)
 by_cases h:∃p∈tk,R 0 p
 ·obtain⟨p,hpt,hp0⟩:=h
  exact .inl #[p,Lj _ hpt,s0,m0 _,λz=>hp.ext s0 h0 0 (z ▸ hp0),.inr (.inl #[hp0,h0])]
 ·have cross:∀p∈gv,¬EX R ex s1 s2 p s0:=λp hpg e=>by
   obtain⟨j,hj,q,hq,hqj⟩:=r.g p hpg
   obtain⟨n,⟨k,h1,h2⟩|⟨h1,h2⟩|⟨h1,h2⟩|⟨h1,h2⟩|⟨h1,h2⟩⟩:=e
   ·exact hp.ext s0 h0 k h2
   ·have:0=j:=hp.one _ _ _ h1 hj
    subst this
    exact h #[q,hq,hqj]
   ·exact hp.ext s0 h0 0 h2
   ·exact n2 h2
   ·exact n1 h2
  apply .inr #[λp hpg hpt=>?_,λp hpg x e=>?_,λp hpg q hqg e=>?_]
  ·rcases K9.mp hpg with z|z
   ·obtain⟨q,hq,e⟩:=X.c1 p z λy=>hpt (Lj _ y)
    exact#[q,Lj _ hq,e]
   ·exact absurd (Lp _ z) hpt
  ·rcases K9.mp hpg with z|z
   ·obtain⟨q,hq,e⟩:=X.c2 p z x e
    exact#[q,Lj _ hq,e]
   ·have:p=s0:=by simpa using z
    subst this
    exact#[p,m0 _,.inr e]
  ·rcases K9.mp hpg with z|z
   ·rcases K9.mp hqg with y|y
    ·exact X.c3 p z q y e
    ·have:q=s0:=by simpa using y
     subst this
     exact cross p z e
   ·have:p=s0:=by simpa using z
    subst this
    rcases K9.mp hqg with y|y
    ·exact cross q y e.symm
    ·have:q=p:=by simpa using y
     exact e.1 this.symm
theorem Hc{b:Str}(hb:R 0 b)(hs2:s2∈ex){gv:List Str}(hg:∀x∈gv,x∈ex/\x≠s2):vq (EX R ex s1 s2) [b] gv:=by
 have mb:b∈[b]:=LZ.mpr rfl
 have nb:∀{x},x∈ex->x≠b:=λ{x} hx z=>hp.ext x hx 0 (z ▸ hb)
 apply#[λp hpg _=>#[b,mb,nb (hg p hpg).1,.inr (.inr (.inl #[(hg p hpg).1,hb]))],λp hpg x e=>#[b,mb,?_],λp hpg q hqg e=>?_]
 ·obtain⟨n,⟨k,h1,h2⟩|⟨h1,h2⟩|⟨h1,h2⟩|⟨h1,h2⟩|⟨h1,h2⟩⟩:=e
  ·exact absurd h1 (hp.ext p (hg p hpg).1 k)
  ·exact absurd h1 (hp.ext p (hg p hpg).1 0)
  ·by_cases z:b=x
   ·exact .inl z
   ·exact .inr #[z,.inl #[0,hb,h2]]
  ·subst h2
   exact .inr #[(nb hs2).symm,.inr (.inl #[hb,hs2])]
  ·exact absurd h1 (hg p hpg).2
 ·obtain⟨n,⟨k,h1,h2⟩|⟨h1,h2⟩|⟨h1,h2⟩|⟨h1,h2⟩|⟨h1,h2⟩⟩:=e
  ·exact hp.ext p (hg p hpg).1 k h1
  ·exact hp.ext p (hg p hpg).1 0 h1
  ·exact hp.ext q (hg q hqg).1 0 h2
  ·exact(hg q hqg).2 h2
  ·exact(hg p hpg).2 h1
theorem Gn(n12:s1≠s2)(hs1:s1∈ex)(hs2:s2∈ex){gv:List Str}(hg:∀x∈gv,x=s2):vq (EX R ex s1 s2) [s1] gv:=by
 have m1:s1∈[s1]:=LZ.mpr rfl
 apply#[λp hpg _=>#[s1,m1,?_],λp hpg x e=>#[s1,m1,?_],λp hpg q hqg e=>e.1 ((hg p hpg).trans (hg q hqg).symm)]
 ·rw[hg p hpg]
  exact#[n12.symm,.inr (.inr (.inr (.inr #[rfl,rfl])))]
 ·have ep:=hg p hpg
  subst ep
  obtain⟨n,⟨k,h1,h2⟩|⟨h1,h2⟩|⟨h1,h2⟩|⟨h1,h2⟩|⟨h1,h2⟩⟩:=e
  ·exact absurd h1 (hp.ext p hs2 k)
  ·exact absurd h1 (hp.ext p hs2 0)
  ·exact .inr #[λz=>hp.ext s1 hs1 0 (z ▸ h2),.inr (.inr (.inl #[hs1,h2]))]
  ·exact absurd h1.symm n12
  ·exact .inl h2.symm
theorem CM(n12:s1≠s2)(hs1:s1∈ex)(hs2:s2∈ex){tk gv:List Str}(h2:s2∈tk)(hx:∀x∈ex,x=s1\/x∈tk){h:Str}(hg:∀x∈gv,x=h/\R 0 h):vq (EX R ex s1 s2) tk gv:=by
 have nb:∀{x y},x∈ex->R 0 y->x≠y:=λ{x y} hx hy z=>hp.ext x hx 0 (z ▸ hy)
 apply#[λp hpg _=>#[s2,h2,?_],λp hpg x e=>?_,λp hpg q hqg e=>e.1 ((hg p hpg).1.trans (hg q hqg).1.symm)]
 ·obtain⟨rfl,h0⟩:=hg p hpg
  exact#[(nb hs2 h0).symm,.inr (.inl #[h0,hs2])]
 ·obtain⟨rfl,h0⟩:=hg p hpg
  obtain⟨n,⟨k,a1,a2⟩|⟨a1,a2⟩|⟨a1,a2⟩|⟨a1,a2⟩|⟨a1,a2⟩⟩:=e
  ·have:k=0:=hp.one _ _ _ a1 h0
   subst this
   exact#[s2,h2,.inr #[nb hs2 a2,.inr (.inr (.inl #[hs2,a2]))]]
  ·rcases hx x a2 with z|z
   ·exact#[s2,h2,.inr #[by rw[z];exact n12.symm,.inr (.inr (.inr (.inr #[rfl,z])))]]
   ·exact#[x,z,.inl rfl]
  ·exact absurd h0 (hp.ext _ a1 0)
  ·exact absurd h0 (by rw[a1];exact hp.ext _ hs1 0)
  ·exact absurd h0 (by rw[a1];exact hp.ext _ hs2 0)
end
end Uf
end
namespace Uf
open PySem L2 UfSrt UfStr UfFin
def rowsOf(seed:Int)(Es:List (List PySem.Str×List PySem.Str)):List Mv:=(Es.zipIdx).map λp=>(gC p.2 seed,p.1.1,p.1.2)
def zE(seed:Int)(Es:List (List PySem.Str×List PySem.Str))(e:List PySem.Str×List PySem.Str):rowsOf seed (Es++[e])=rowsOf seed Es++[(gC Es.length seed,e.1,e.2)]:=by
 unfold rowsOf
 rw[List.zipIdx_append,Ll,Nk]
 rfl
def gx(seed:Int)(Es:List (List PySem.Str×List PySem.Str)):names (rowsOf seed Es)=(List.range Es.length).map λk=>gC k seed:=by
 have e:names (rowsOf seed Es)=((Es.zipIdx).map Prod.snd).map λk=>gC k seed:=by
  unfold names rowsOf
  rw[LY,LY]
  rfl
 rw[e,List.zipIdx_map_snd,List.range_eq_range']
def iQ{seed:Int}{Es:List (List PySem.Str×List PySem.Str)}{m:Mv}(h:m∈rowsOf seed Es):(m.2.1,m.2.2)∈Es:=by
 unfold rowsOf at h
 obtain⟨p,hp,rfl⟩:=LQ.mp h
 exact Pn hp
end Uf
section
set_option maxHeartbeats 400000
namespace Uf
open PySem L2 UfSrt UfFin
def I0{k j:Nat}{seed:Int}(hk:k<12)(hj:j<12)(e:AV k seed=AV j seed):k=j:=by
 have one:∀{q s:Int},s∈steps->(q+s*k) % 26=(q+s*j) % 26->k=j:=λ{q s} hs e=>by
  unfold steps at hs
  simp only[Lc,LR,Mt]at hs
  rcases hs with rfl|rfl|rfl|rfl|rfl|rfl|rfl|rfl|rfl|rfl|rfl|rfl <;> omega
 have hs:=E2 (seed:=seed)
 unfold AV at e
 dsimp only at e
 by_cases h0:seed % 3=0
 ·rw[Ls h0,Ls h0]at e
  have e1:=(List.cons.inj e).1
  exact one (q:=seed / 36) hs (by generalize (seed / 36+steps.getD (seed / 3 % 12).toNat 0*(k:Int))=A at e1 ⊢;generalize (seed / 36+steps.getD (seed / 3 % 12).toNat 0*(j:Int))=B at e1 ⊢;omega)
 ·rw[Le h0,Le h0]at e
  by_cases h1:seed % 3=1
  ·rw[Ls h1,Ls h1]at e
   have e1:=(List.cons.inj (List.append_cancel_left e)).1
   exact one (q:=seed / 36) hs (by generalize (seed / 36+steps.getD (seed / 3 % 12).toNat 0*(k:Int))=A at e1 ⊢;generalize (seed / 36+steps.getD (seed / 3 % 12).toNat 0*(j:Int))=B at e1 ⊢;omega)
  ·rw[Le h1,Le h1]at e
   have l:=L6 List.length e
   rw[MQ,MQ]at l
   have hd:=L6 List.head? e
   have n1:∃n,(1+(seed / 36+5*(k:Int)) % 12 % 8).toNat=n+1:=#[((seed / 36+5*(k:Int)) % 12 % 8).toNat,by omega]
   have n2:∃n,(1+(seed / 36+5*(j:Int)) % 12 % 8).toNat=n+1:=#[((seed / 36+5*(j:Int)) % 12 % 8).toNat,by omega]
   obtain⟨a,ea⟩:=n1
   obtain⟨b,eb⟩:=n2
   rw[ea,eb,Oh,Oh]at hd
   simp only[List.head?_cons,Option.some.injEq]at hd
   have et:(seed / 36+5*(k:Int)) % 12=(seed / 36+5*(j:Int)) % 12:=by
    have hA:0<=(seed / 36+5*(k:Int)) % 12:=by omega
    have hB:0<=(seed / 36+5*(j:Int)) % 12:=by omega
    generalize (seed / 36+5*(k:Int)) % 12=A at *
    generalize (seed / 36+5*(j:Int)) % 12=B at *
    omega
   generalize seed / 36=q at et
   omega
def B3{k j:Nat}{seed:Int}(hk:k<12)(hj:j<12)(e:gC k seed=gC j seed):k=j :=
 I0 hk hj (by rw[<-gy,<-gy,e])
theorem ft(seed:Int):∀(n:Nat),n<=12->((List.range n).map λk=>gC k seed).Nodup
 |0,_=>by simp
 |n+1,h=>by
  rw[Om,Ll]
  apply L1.mpr #[ft seed n (by omega),by simp,λa ha b hb e=>?_]
  obtain⟨k,hk,rfl⟩:=LQ.mp ha
  have eb:b=gC n seed:=by simpa using hb
  have:=M7.mp hk
  have:=B3 (by omega) (by omega) (e.trans eb)
  omega
structure IJ(Nm:List Str):Prop where
 nd:Nm.Nodup
 len:Nm.length=12
 nm:∀x∈Nm,isNm x=true
def lE(seed:Int):List Str:=(List.range 12).map λk=>gC k seed
def yL(seed:Int):IJ (lE seed):=#[ft seed 12 (Nat.le_refl _),by unfold lE;rw[List.length_map,List.length_range],λx hx=>by
 obtain⟨k,_,rfl⟩:=LQ.mp hx
 exact xM k seed]
def Ei{ms:List Mv}{S L:List Str}(lms:ms.length<=12)(hnm:∀x∈names ms,isNm x=true)(hnd:(names ms).Nodup)(hL:∀x∈L,isNm x=true)(lL:L.length<=12)(he:∀m∈ms,gA L m.2.1 m.2.2)(hS:Sub L S):vE ms S:=by
 have mv:∀m∈ms,ij m.2.1 m.2.2=true:=λm hm=>by
  have h:=he m hm
  unfold ij
  rw[hJ (λx hx=>hL x (h.ti x hx)) h.tn,hJ (λx hx=>hL x (h.gi x hx)) h.gn,Lk h.t1,Lk h.t4,Lk h.g4]
  rfl
 have hdd:∀x∈UfSet.dd (S++gB ms),x∈L:=λx hx=>by
  rcases K9.mp (UfSet.sh.mp hx) with z|z
  ·exact hS.inn x z
  ·unfold gB at z
   obtain⟨m,hm,hxm⟩:=PF.mp z
   rcases K9.mp hxm with z|z
   ·exact(he m hm).ti x z
   ·exact(he m hm).gi x z
 have ldd:(UfSet.dd (S++gB ms)).length<=12:=LM (dZ (UfSet.m6 _) hdd) lL
 have lS:S.length<=12:=LM hS.len lL
 have lpl:∀l:List Mv,(∀m∈l,gA L m.2.1 m.2.2)->(gB l).length<=8*l.length:=λl=>by
  induction l with
  |nil=>intro _;exact La _
  |cons m r ih =>
   intro hl
   have h1:=ih λm hm=>hl m (LJ _ hm)
   have a1:=(hl m LK).t4
   have a2:=(hl m LK).g4
   unfold gB at h1 ⊢
   rw[List.flatMap_cons,K5,K5,LN]
   omega
 have lp:=lpl ms he
 have ln:(names ms).length=ms.length:=by unfold names;rw[List.length_map]
 constructor
 ·unfold gO
  rw[decide_eq_true (show ms.length<=12 by omega),hJ hnm hnd,List.all_eq_true.mpr mv,hJ (λx hx=>hL x (hS.inn x hx)) hS.nd,decide_eq_true (show(dv ms S).length<=12 by unfold dv;rw[cP];omega)]
  rfl
 ·apply⟨gF hnm (by omega),λm hm=>?_,λm hm=>?_,gF (λx hx=>hL x (hS.inn x hx)) (by omega),by rw[K5];omega,by omega⟩
  ·exact gF (λx hx=>hL x ((he m hm).ti x hx)) (by have:=(he m hm).t4;omega)
  ·exact gF (λx hx=>hL x ((he m hm).gi x hx)) (by have:=(he m hm).g4;omega)
structure JT(ss:List Int):Prop where
 l1:1<=ss.length
 l3:ss.length<=3
 hs:∀x∈ss,1<=x/\x<=4
def RR(Nm:List Str)(ss:List Int)(j:Nat)(x:Str):Prop:=∃p:Nat,p<12/\p<pre ss ss.length/\pre ss j<=p/\p<pre ss (j+1)/\x=Nm.getD p ""
def vV{Nm:List Str}(h:IJ Nm){i j:Nat}(hi:i<12)(hj:j<12)(e:Nm.getD i ""=Nm.getD j ""):i=j:=by
 have li:=h.len
 rw[Lb,Lb,K7 (show i<Nm.length by omega),K7 (show j<Nm.length by omega)]at e
 exact(List.getElem_inj h.nd).mp e
def getD_in{Nm:List Str}(h:IJ Nm){i:Nat}(hi:i<12):Nm.getD i "" ∈ Nm:=by
 have li:=h.len
 rw[Lb,K7 (show i<Nm.length by omega)]
 exact Oa _
def Dt(ss:List Int):pre ss 0=0:=by simp[pre]
section
variable {Nm:List Str}(hN:IJ Nm){ss:List Int}(hz:JT ss)
include hN hz
theorem RR.one{j k:Nat}{x:Str}(h1:RR Nm ss j x)(h2:RR Nm ss k x):j=k:=by
 obtain⟨p,p12,_,a1,a2,rfl⟩:=h1
 obtain⟨q,q12,_,b1,b2,e⟩:=h2
 have:=vV hN p12 q12 e
 subst this
 rcases Nat.lt_trichotomy j k with z|z|z
 ·have:=gp hz.hs (show j+1<=k from z)
  omega
 ·exact z
 ·have:=gp hz.hs (show k+1<=j from z)
  omega
theorem se{ps:List (Nat×Int)}(r:jJ ss ss.length ps){q:Nat×Int}(hq:q∈ps):RR Nm ss q.1 (Nm.getD q.2.toNat ""):=by
 have h1:=jJ.fits hz.hs hz.l3 r hq
 have h2:=r.at' q hq
 have h3:=gp hz.hs (show q.1+1<=ss.length from r.lt q hq)
 exact#[q.2.toNat,by omega,by omega,by omega,by omega,rfl]
theorem Bv{ps:List (Nat×Int)}(r:jJ ss ss.length ps){a b:Nat×Int}(ha:a∈ps)(hb:b∈ps)(e:a.1=b.1):a=b:=by
 obtain⟨i,hi⟩:=Qo.mp ha
 obtain⟨j,hj⟩:=Qo.mp hb
 obtain⟨li,rfl⟩:=hi
 obtain⟨lj,rfl⟩:=hj
 have inc:=OF.mp r.inc
 rcases Nat.lt_trichotomy i j with z|z|z
 ·have:=Pt.mp inc i j li lj z
  omega
 ·subst z
  rfl
 ·have:=Pt.mp inc j i lj li z
  omega
theorem fD{ps:List (Nat×Int)}(r:jJ ss ss.length ps){x:Str}(hx:x∈bQ Nm ps):∃q∈ps,x=Nm.getD q.2.toNat ""/\RR Nm ss q.1 x/\x∈Nm:=by
 unfold bQ at hx
 obtain⟨q,hq,rfl⟩:=LQ.mp hx
 have h1:=jJ.fits hz.hs hz.l3 r hq
 exact#[q,hq,rfl,se hN hz r hq,getD_in hN (by omega)]
theorem sV{ps:List (Nat×Int)}(r:jJ ss ss.length ps){p q:Str}(hp:p∈bQ Nm ps)(hq:q∈bQ Nm ps){j:Nat}(h1:RR Nm ss j p)(h2:RR Nm ss j q):p=q:=by
 obtain⟨a,ha,rfl,ra,_⟩:=fD hN hz r hp
 obtain⟨b,hb,rfl,rb,_⟩:=fD hN hz r hq
 have e1:=RR.one hN hz h1 ra
 have e2:=RR.one hN hz h2 rb
 rw[Bv hN hz r ha hb (e1.symm.trans e2)]
theorem sy{ps:List (Nat×Int)}(r:jJ ss ss.length ps):(bQ Nm ps).Nodup:=by
 unfold bQ
 apply OF.mpr ((OF.mp r.inc).imp_of_mem λ{a b} ha hb hab e=>?_)
 have:=RR.one hN hz (se hN hz r ha) (e ▸ se hN hz r hb)
 omega
theorem mH{ps qs:List (Nat×Int)}(h:Ad ss ps qs):RS (RR Nm ss) (bQ Nm ps) (bQ Nm qs):=by
 apply#[λp hp=>?_,λp hp=>?_,λp hp q hq j h1 h2=>sV hN hz h.q hp hq h1 h2]
 ·obtain⟨a,_,_,ra,_⟩:=fD hN hz h.p hp
  exact#[_,ra]
 ·obtain⟨a,ha,_,ra,_⟩:=fD hN hz h.q hp
  obtain⟨b,hb,e⟩:=h.sub a ha
  exact#[a.1,ra,_,LQ.mpr #[b,hb,rfl],by rw[<-e];exact se hN hz h.p hb]
theorem FG{ps:List (Nat×Int)}(r:jJ ss ss.length ps):RS (RR Nm ss) (bQ Nm ps) (bQ Nm ps):=by
 apply#[λp hp=>?_,λp hp=>?_,λp hp q hq j h1 h2=>sV hN hz r hp hq h1 h2]
 ·obtain⟨a,_,_,ra,_⟩:=fD hN hz r hp
  exact#[_,ra]
 ·obtain⟨a,ha,_,ra,_⟩:=fD hN hz r hp
  exact#[a.1,ra,p,hp,ra]
theorem ji{e:List Str×List Str}(h:lQ Nm ss e):gA Nm e.1 e.2/\e.1.length<=3/\e.2.length<=3:=by
 obtain⟨ps,qs,s,rfl⟩:=h
 have l3:=hz.l3
 have lp:=s.p.len
 have lq:=s.q.len
 have l1:1<=ps.length:=by
  cases h:ps with
  |nil=>exact absurd h s.ne
  |cons a r=>simp
 apply#[#[sy hN hz s.p,sy hN hz s.q,?_,?_,?_,λx hx=>?_,λx hx=>?_],?_,?_]
 ·show 1<=(bQ Nm ps).length
  rw[eJ]
  exact l1
 ·show(bQ Nm ps).length<=4
  rw[eJ]
  omega
 ·show(bQ Nm qs).length<=4
  rw[eJ]
  omega
 ·obtain⟨_,_,_,_,hx⟩:=fD hN hz s.p hx
  exact hx
 ·obtain⟨_,_,_,_,hx⟩:=fD hN hz s.q hx
  exact hx
 ·show(bQ Nm ps).length<=3
  rw[eJ]
  omega
 ·show(bQ Nm qs).length<=3
  rw[eJ]
  omega
theorem Gw:yq (RR Nm ss) []:=#[λj k x h1 h2=>RR.one hN hz h1 h2,λx hx=>by simp at hx]
theorem yJ{seed:Int}{Es:List (List Str×List Str)}{ps:List (Nat×Int)}(hn:Es.length<=12)(hE:∀e∈Es,lQ Nm ss e)(r:jJ ss ss.length ps):UfBfs.Told (graph (rowsOf seed Es)) (aL (bQ Nm ps)) none:=by
 have P0:=Gw hN hz
 apply qz (EX (RR Nm ss) [] "" "") (λa b h=>h.symm) (by rw[gx];exact ft _ _ hn) (kB P0 (.inl rfl) (FG hN hz r)).c3 λm hm=>.inr ?_
 obtain⟨p,q,s,e⟩:=hE _ (iQ hm)
 have e1:m.2.1=bQ Nm p:=L6 Prod.fst e
 have e2:m.2.2=bQ Nm q:=L6 Prod.snd e
 rw[e1,e2]
 exact kB P0 (.inl rfl) (mH hN hz s)
end
end Uf
end
section
set_option maxHeartbeats 400000
namespace Uf
open PySem L2 UfSrt UfFin
def Dh{Nm:List Str}{b:Nat}{s0 s1 s2 s3:Str}(e:(Nm.drop b).take 4=[s0,s1,s2,s3]):s0=Nm.getD b ""/\s1=Nm.getD (b+1) ""/\s2=Nm.getD (b+2) ""/\s3=Nm.getD (b+3) "":=by
 have at':∀k s,k<4->([s0,s1,s2,s3]:List Str)[k]?=some s->s=Nm.getD (b+k) "":=λk s hk hs=>by
  rw[<-e,List.getElem?_take,Ls hk,Pf]at hs
  rw[Lb,hs]
  rfl
 exact#[at' 0 s0 (by decide) rfl,at' 1 s1 (by decide) rfl,at' 2 s2 (by decide) rfl,at' 3 s3 (by decide) rfl]
inductive K1(Nm:List Str)(ss:List Int)(b:Nat)(sp:List (List Str×List Str))(e:List Str×List Str):Prop
 |ring (h:lQ Nm ss e)
 |plus (e0:List Str×List Str) (h:lQ Nm ss e0) (he:e=(e0.1++[Nm.getD b ""],e0.2++[Nm.getD b ""]))
 |split (h:e∈sp)
structure vJ(Nm:List Str)(ss:List Int)(b:Nat)(sp:List (List Str×List Str))(ex:List Str)(s1 s2:Str):Prop where
 rp:yq (RR Nm ss) ex
 h0:Nm.getD b "" ∈ ex
 n1:Nm.getD b ""≠s1
 n2:Nm.getD b ""≠s2
 h1:s1∈ex
 h2:s2∈ex
 xs:∀e∈sp,vq (EX (RR Nm ss) ex s1 s2) e.1 e.2
 en:∀e∈sp,gA Nm e.1 e.2
section
variable {Nm:List Str}(hN:IJ Nm){ss:List Int}(hz:JT ss)
include hN hz
theorem zu{b:Nat}(hb:(b:Int)=pre ss ss.length)(b4:b+4<=12){sz:Nat}(hsz:(sz:Int)=pre ss 1){sp:List (List Str×List Str)}(h:wz Nm b sz sp):∃ex s1 s2,vJ Nm ss b sp ex s1 s2:=by
 obtain⟨i,hi,s0,s1,s2,s3,e4,mo,hmo,on,hon,ho,hho⟩:=h
 obtain⟨r0,r1,r2,r3⟩:=Dh e4
 have ne:∀{i j:Nat},i<12->j<12->i≠j->Nm.getD i ""≠Nm.getD j "":=λ{i j} hi hj n e=>n (vV hN hi hj e)
 have n01:s0≠s1:=by rw[r0,r1];exact ne (by lia) (by lia) (by lia)
 have n02:s0≠s2:=by rw[r0,r2];exact ne (by lia) (by lia) (by lia)
 have n03:s0≠s3:=by rw[r0,r3];exact ne (by lia) (by lia) (by lia)
 have n12:s1≠s2:=by rw[r1,r2];exact ne (by lia) (by lia) (by lia)
 have n13:s1≠s3:=by rw[r1,r3];exact ne (by lia) (by lia) (by lia)
 have n23:s2≠s3:=by rw[r2,r3];exact ne (by lia) (by lia) (by lia)
 have p1:pre ss 1<=4:=qT hz.hs 1
 have p1b:pre ss 1<=pre ss ss.length:=gp hz.hs hz.l1
 have R0:∀{i},i<sz->RR Nm ss 0 (Nm.getD i ""):=λ{i} hi=>#[i,by lia,by lia,by rw[Dt];lia,by show(i:Int)<pre ss 1;lia,rfl]
 have inN:∀{i},i<12->Nm.getD i "" ∈ Nm:=λ{i} hi=>getD_in hN hi
 have noR:∀k,k<4->∀j,¬RR Nm ss j (Nm.getD (b+k) ""):=λk hk j #[p,p12,pb,_,_,e]=>by
  have:=vV hN (show b+k<12 by lia) p12 e
  lia
 have mo3:∀x∈mo,x=s3:=λx hx=>by
  rcases hmo with z|z
  ·rw[z]at hx;simp at hx
  ·rw[z]at hx;simpa using hx
 have on2:∀x∈on,x=s2:=λx hx=>by
  rcases hon with z|z
  ·rw[z]at hx;simp at hx
  ·rw[z]at hx;simpa using hx
 have lmo:mo.length<=1:=by rcases hmo with z|z <;> rw[z] <;> simp
 have mnd:mo.Nodup:=by rcases hmo with z|z <;> rw[z] <;> simp
 have rp:yq (RR Nm ss) ([s0,s1,s2]++mo):=#[λj k x h1 h2=>RR.one hN hz h1 h2,λx hx j=>by
  rcases K9.mp hx with z|z
  ·simp at z
   rcases z with z|z|z
   ·rw[z,r0];exact noR 0 (by lia) j
   ·rw[z,r1];exact noR 1 (by lia) j
   ·rw[z,r2];exact noR 2 (by lia) j
  ·rw[mo3 x z,r3];exact noR 3 (by lia) j]
 have i0:s0∈Nm:=by rw[r0];exact inN (by lia)
 have i1:s1∈Nm:=by rw[r1];exact inN (by lia)
 have i2:s2∈Nm:=by rw[r2];exact inN (by lia)
 have i3:s3∈Nm:=by rw[r3];exact inN (by lia)
 have m0:s0∈[s0,s1,s2]++mo:=by simp
 have m1:s1∈[s0,s1,s2]++mo:=by simp
 have m2:s2∈[s0,s1,s2]++mo:=by simp
 apply#[[s0,s1,s2]++mo,s1,s2,rp,by rw[<-r0];exact m0,by rw[<-r0];exact n01,by rw[<-r0];exact n02,m1,m2,λe he=>?_,λe he=>?_]
 ·rcases Lc.mp he with rfl|he
  ·apply Hc rp (R0 hi) m2 λx hx=>?_
   rcases K9.mp hx with z|z
   ·simp at z
    rcases z with rfl|rfl
    ·exact#[m0,n02]
    ·exact#[m1,n12]
   ·exact#[Lp _ z,by rw[mo3 x z];exact n23.symm]
  rcases Lc.mp he with rfl|he
  ·exact Gn rp n12 m1 m2 on2
  rcases Lc.mp he with rfl|he
  ·apply CM rp n12 m1 m2 (h:=ho.headD "") (show s2∈[s0,s2]++mo by simp) (λx hx=>?_) λx hx=>?_
   ·rcases K9.mp hx with z|z
    ·simp at z
     rcases z with rfl|rfl|rfl
     ·exact .inr (by simp)
     ·exact .inl rfl
     ·exact .inr (by simp)
    ·exact .inr (Lp _ z)
   ·rcases hho with z|⟨j,hj,z⟩
    ·rw[z]at hx;simp at hx
    ·rw[z]at hx ⊢
     exact#[by simpa using hx,R0 hj]
  ·simp at he
 ·rcases Lc.mp he with rfl|he
  ·apply⟨by simp,L1.mpr ⟨by simp[n01],mnd,λx hx y hy=>?_⟩,by simp,by simp,by show([s0,s1]++mo).length<=4;rw[K5];show 2+_<=4;lia,λx hx=>?_,λx hx=>?_⟩
   ·rw[mo3 y hy]
    simp at hx
    rcases hx with rfl|rfl
    ·exact n03
    ·exact n13
   ·have:x=Nm.getD i "":=by simpa using hx
    rw[this];exact inN (by lia)
   ·rcases K9.mp hx with z|z
    ·simp at z
     rcases z with rfl|rfl
     ·exact i0
     ·exact i1
    ·rw[mo3 x z];exact i3
  rcases Lc.mp he with rfl|he
  ·apply⟨by simp,?_,by simp,by simp,?_,λx hx=>?_,λx hx=>?_⟩
   ·rcases hon with z|z <;> simp[z]
   ·rcases hon with z|z <;> simp[z]
   ·have:x=s1:=by simpa using hx
    rw[this];exact i1
   ·rw[on2 x hx];exact i2
  rcases Lc.mp he with rfl|he
  ·apply⟨L1.mpr ⟨by simp[n02],mnd,λx hx y hy=>?_⟩,?_,by simp,by show([s0,s2]++mo).length<=4;rw[K5];show 2+_<=4;lia,?_,λx hx=>?_,λx hx=>?_⟩
   ·rw[mo3 y hy]
    simp at hx
    rcases hx with rfl|rfl
    ·exact n03
    ·exact n23
   ·rcases hho with z|⟨j,hj,z⟩ <;> simp[z]
   ·rcases hho with z|⟨j,hj,z⟩ <;> simp[z]
   ·rcases K9.mp hx with z|z
    ·simp at z
     rcases z with rfl|rfl
     ·exact i0
     ·exact i2
    ·rw[mo3 x z];exact i3
   ·rcases hho with z|⟨j,hj,z⟩
    ·have hx:x∈ho:=hx
     rw[z]at hx;simp at hx
    ·have hx:x∈ho:=hx
     rw[z]at hx
     have:x=Nm.getD j "":=by simpa using hx
     rw[this];exact inN (by lia)
  ·simp at he
theorem Ex{b:Nat}{sp:List (List Str×List Str)}{ex:List Str}{s1 s2:Str}(b4:b<12)(h:vJ Nm ss b sp ex s1 s2){e:List Str×List Str}(k:K1 Nm ss b sp e):gA Nm e.1 e.2:=by
 rcases k with k|⟨e0,k,rfl⟩|k
 ·exact(ji hN hz k).1
 ·obtain⟨E,l1,l2⟩:=ji hN hz k
  obtain⟨ps,qs,s,rfl⟩:=k
  have no:∀{x y:Str},(∃j,RR Nm ss j x)->y∈[Nm.getD b ""]->x≠y:=λ{x y} #[j,hj] hy e=>by
   have:y=Nm.getD b "":=by simpa using hy
   exact h.rp.ext _ h.h0 j (by rw[<-this,<-e];exact hj)
  have rs:=mH hN hz s
  apply#[L1.mpr #[E.tn,by simp,λx hx y hy=>no (rs.t x hx) hy],L1.mpr #[E.gn,by simp,λx hx y hy=>?_],?_,?_,?_,λx hx=>?_,λx hx=>?_]
  ·obtain⟨j,hj,_⟩:=rs.g x hx
   exact no #[j,hj] hy
  ·show 1<=(bQ Nm ps++[_]).length
   rw[K5]
   exact Nat.le_add_left _ _
  ·show(bQ Nm ps++[_]).length<=4
   rw[K5]
   exact Nat.succ_le_succ l1
  ·show(bQ Nm qs++[_]).length<=4
   rw[K5]
   exact Nat.succ_le_succ l2
  ·rcases K9.mp hx with z|z
   ·exact E.ti x z
   ·have:x=Nm.getD b "":=by simpa using z
    rw[this];exact getD_in hN b4
  ·rcases K9.mp hx with z|z
   ·exact E.gi x z
   ·have:x=Nm.getD b "":=by simpa using z
    rw[this];exact getD_in hN b4
 ·exact h.en e k
theorem Eo{seed:Int}{b:Nat}{sp Es:List (List Str×List Str)}{ex:List Str}{s1 s2:Str}{ps:List (Nat×Int)}(h:vJ Nm ss b sp ex s1 s2)(hn:Es.length<=12)(hE:∀e∈Es,K1 Nm ss b sp e)(r:jJ ss ss.length ps):UfBfs.Told (graph (rowsOf seed Es)) (aL (bQ Nm ps)) none:=by
 apply qz (EX (RR Nm ss) ex s1 s2) (λa b h=>h.symm) (by rw[gx];exact ft _ _ hn) (kB h.rp (.inr #[h.h1,h.h2]) (FG hN hz r)).c3 λm hm=>?_
 have hk:=hE _ (iQ hm)
 rcases hk with⟨p,q,s,e⟩|⟨e0,⟨p,q,s,rfl⟩,e⟩|k
 ·have e1:m.2.1=bQ Nm p:=L6 Prod.fst e
  have e2:m.2.2=bQ Nm q:=L6 Prod.snd e
  rw[e1,e2]
  exact .inr (kB h.rp (.inr #[h.h1,h.h2]) (mH hN hz s))
 ·have e1:m.2.1=bQ Nm p++[Nm.getD b ""]:=L6 Prod.fst e
  have e2:m.2.2=bQ Nm q++[Nm.getD b ""]:=L6 Prod.snd e
  rw[e1,e2]
  exact Cf h.rp h.h0 h.n1 h.n2 h.h1 h.h2 (mH hN hz s)
 ·exact .inr (h.xs _ k)
end
def uh{seed:Int}{Es:List (List Str×List Str)}{S:List Str}{W:List (List Str)}(hn:Es.length<=12)(h:oy Es (aL S) W):UfBfs.Told (graph (rowsOf seed Es)) (aL S) none :=
 qJ (by rw[gx];exact ft _ _ hn) (λt=>t∈W) h.st (λt m J hm hl _=>(h.go t J _ (iQ hm) hl).2) λt m J hm hl=>(h.go t J _ (iQ hm) hl).1
end Uf
end
namespace Uf
open PySem L2 UfSrt UfStr UfFin
abbrev xu:Stmt:=top 51
inductive HX(kd:Int)(Nm:List PySem.Str)(ss:List Int)(es:List (List PySem.Str×List PySem.Str))(S:List PySem.Str)(vb:Option V):Prop
 |loose (h:kd=2) (hs:Sub Nm S) (he:∀e∈es,gA Nm e.1 e.2) (W:List (List PySem.Str)) (c:oy es (aL S) W)
 |ring (h:kd≠2) (ps:List (Nat×Int)) (hS:S=bQ Nm ps) (r:jJ ss ss.length ps) (he:∀e∈es,lQ Nm ss e) (hb:vb=some (.int (pre ss ss.length)))
inductive NtM(H:Hp)(a:Addr)(kd nu:Int)(zq nq:Addr)(seed:Int)(Nm:List PySem.Str)(ss:List Int)(σ:St)(H2:Hp):Prop
 |mk (dg:Int) (bq st:Addr) (vb vs:Option V) (es:List (List PySem.Str×List PySem.Str)) (S:List PySem.Str) (q0:σ=[some (.ref a),some (.int kd),some (.int dg),some (.int nu),some (.ref zq),some (.int seed),some (.ref nq),some (.ref bq),some (.ref st),vb,vs,none])
   (q1:au H H2) (q2:dU H2 st es) (q3:H st=none) (q4:H2 bq=some (.lst (aE S))) (q5:es.length<=8) (q6:bq≠st) (q7:HX kd Nm ss es S vb)
inductive NtE(H:Hp)(a:Addr)(kd nu:Int)(zq nq:Addr)(seed:Int)(Nm:List PySem.Str)(σ:St)(H2:Hp):Prop
 |mk (dg:Int) (bq st:Addr) (vb vs vt:Option V) (es:List (List PySem.Str×List PySem.Str)) (S:List PySem.Str) (q0:σ=[some (.ref a),some (.int kd),some (.int dg),some (.int nu),some (.ref zq),some (.int seed),some (.ref nq),some (.ref bq),some (.ref st),vb,vs,vt])
   (q1:au H H2) (q2:mJ H2 st es) (q4:H2 bq=some (.lst (aE S))) (q5:es.length<=12) (q6:∀e∈es,gA Nm e.1 e.2) (q7:Sub Nm S) (q8:∀sd,UfBfs.Told (graph (rowsOf sd es)) (aL S) none)
inductive KS(H:Hp)(a:Addr)(kd nu:Int)(zq nq bq:Addr)(seed:Int)(Nm:List PySem.Str)(ss:List Int)(v8:Option V)(i:Nat)(σ:St)(H2:Hp):Prop
 |mk (dg:Int) (vs:Option V) (ps:List (Nat×Int)) (q0:σ=[some (.ref a),some (.int kd),some (.int dg),some (.int nu),some (.ref zq),some (.int seed),some (.ref nq),some (.ref bq),v8,some (.int (pre ss i)),vs,none])
   (q1:au H H2) (q4:H2 bq=some (.lst (aE (bQ Nm ps)))) (q5:jJ ss i ps)
def KS.same{H:Hp}{a:Addr}{kd nu:Int}{zq nq bq:Addr}{seed:Int}{Nm:List PySem.Str}{ss:List Int}{v8:Option V}{i:Nat}{σ:St}{H2:Hp}(h:KS H a kd nu zq nq bq seed Nm ss v8 i σ H2):au H H2:=by
 cases h
 assumption
inductive KG(H:Hp)(a:Addr)(kd nu dg x:Int)(zq nq bq:Addr)(seed:Int)(Nm:List PySem.Str)(ss:List Int)(v8:Option V)(i:Nat)(σ:St)(H2:Hp):Prop
 |mk (ps:List (Nat×Int)) (q0:σ=[some (.ref a),some (.int kd),some (.int dg),some (.int nu),some (.ref zq),some (.int seed),some (.ref nq),some (.ref bq),v8,some (.int (pre ss i)),some (.int x),none])
   (q1:au H H2) (q4:H2 bq=some (.lst (aE (bQ Nm ps)))) (q5:jJ ss (i+1) ps)
inductive NtP(H:Hp)(a:Addr)(kd nu dg:Int)(zq nq bq st:Addr)(seed:Int)(Nm:List PySem.Str)(ss:List Int)(vs:Option V)(S:List PySem.Str)(b:Nat)(σ:St)(H2:Hp):Prop
 |mk (es:List (List PySem.Str×List PySem.Str)) (q0:σ=[some (.ref a),some (.int kd),some (.int dg),some (.int nu),some (.ref zq),some (.int seed),some (.ref nq),some (.ref bq),some (.ref st),some (.int (b:Int)),vs,none])
   (q1:au H H2) (q2:dU H2 st es) (q4:H2 bq=some (.lst (aE S))) (q5:es.length<=8) (q6:∀sp,∀e∈es,K1 Nm ss b sp e)
theorem jR{α β:Type}{F:α->β->Prop}:∀{a c:List α} {b d:List β},Paired F a b->Paired F c d->Paired F (a++c) (b++d)
 |_,_,_,_,.nil,h=>h
 |_,_,_,_,.cons h r,h2=>.cons h (jR r h2)
theorem lJ{α β:Type}{F:α->β->Prop}:∀{a:List α} {b:List β} (k:Nat),Paired F a b->Paired F (a.take k) (b.take k)
 |_,_,0,_=>by simpa using Paired.nil
 |_,_,k+1,.nil=>by simpa using Paired.nil
 |_,_,k+1,.cons h r=>.cons h (lJ k r)
theorem lP{α β:Type}{F:α->β->Prop}:∀{a:List α} {b:List β} (k:Nat),Paired F a b->Paired F (a.drop k) (b.drop k)
 |_,_,0,h=>h
 |_,_,k+1,.nil=>by simpa using Paired.nil
 |_,_,k+1,.cons h r=>lP k r
def Ki{q:Addr}(qr:List Addr):zZ (q::qr).length 0=some 0:=by
 unfold zZ
 simp
def gA.up{L M T G:List PySem.Str}(h:gA L T G)(s:∀x∈L,x∈M):gA M T G:=#[h.tn,h.gn,h.t1,h.t4,h.g4,λx hx=>s x (h.ti x hx),λx hx=>s x (h.gi x hx)]
def hV{t u:TS}{D:Ends}{σ:St}{H:Hp}(h:∀R:TS,(∀D σ H,u D σ H->R D σ H)->uK t R D σ H):uK t u D σ H:=h u λ_ _ _ z=>z
def Cs(K:PySem.W.Frag):Sp:=λvs H Q _=>∃(a:Addr) (ns:List Int),vs=[.ref a]/\aH K H a (ns.map V.int)/\ns.length<=63 /\
 ∀H' d rl bl ms S,au H H'->H' d=some (.tup [.ref rl,.ref bl])->jN H' rl ms->H' bl=some (.lst (aE S))->vE ms S->UfBfs.Told (graph ms) (aL S) none->Q (.ref d) H'
def c8:aF ["_law_script","_law_kind","_law_digit","_law_number","_law_sizes_here","_law_seed","_law_names","_law_beads","_law_steps","_law_base","_law_size","_law_spot"] ["_law_script"] (av xu):=ff
def ED{f:Addr}{fd:FuncData}(F:dN K "_law_net" "_law_net" xu f fd)(T:Txt K mg)(T2:Txt2 mg)
  (DA:gG P w K mg base "_law_at" HE ["_law_script","_law_k"] 1 (wc K))
  (DN:gG P w K mg base "_law_name" xq ["_law_k","_law_seed"] 1 CA)
  (DZ:gG P w K mg base "_law_sizes" rK ["_law_head"] 1 xm)
  (DR:gG P w K mg base "_law_ringed" mP ["_law_cells","_law_names","_law_sizes_here"] 2 (tK K))
  (DS:gG P w K mg base "_law_split" qO ["_law_names","_law_base","_law_size","_law_cell"] 1 (xv K))
  (DL:gG P w K mg base "_law_loose" mC ["_law_cells","_law_names","_law_beads"] 2 (ur K)) :
  bf P w K mg base cZ 3 f fd ["_law_script"] (Cs K):=by
 apply F.oK c8 λcdv A outer s H vs Q E hr h=>?_
 ·obtain⟨a,ns,rfl,ha,hz,kk⟩:=h
  have hsl:=LG
  apply#[_,ag (cM 1 c8 (aw bH (eV DA (hr.mono (by decide)) (aa (pv 0) (aa aj af))) aj))
   (ag (cM 2 c8 (aw bU (eV DA (hr.mono (by decide)) (aa (pv 0) (aa aj af))) aj))
   (ag (cM 3 c8 (aw bH (aw oI (eV DA (hr.mono (by decide)) (aa (pv 0) (aa aj af))) aj) aj))
   (ag (cM 4 c8 (bY cT (eV DZ (hr.mono (by decide)) (aa (eV DA (hr.mono (by decide)) (aa (pv 0) (aa aj af))) af)) cU (bV (aw iN aj (aw bH (pv 1) aj)))))
   (ag (cM 5 c8 (eV DA (hr.mono (by decide)) (aa (pv 0) (aa aj af))))
   (ag (cM 6 c8 (cE (N:=["_law_k","_law_seed"]) (n:=1) (ci:=[5]) rfl (fj rfl T2.rng (aa aj af))
    (oO c8)
    (λz=>#[kJ 0,cR,eV DN (hr.mono (by decide)) (aa (pv 0) (aa (pv 1) af))])))
   (ag (sg (j:=7) (N:=["_law_k","_law_digit","_law_names"]) (n:=1) (ci:=[2,6]) rfl c8.nd rfl rfl (fj rfl T2.rng (aa aj af))
    (oO c8)
    (λz=>#[kJ 0,ko (aY fJ (aw gr (aw rJ (pv 1) (pv 0)) aj) aj (bp _)),aQ aI (pv 2) (pv 0) (λ_ _=>rfl)]))
   (ag (bK (aY fJ (pv 1) aj (bp _))
    (ak (cM 8 c8 (eV DL (hr.mono (by decide)) (aa (bY cT (pv 0) (bV aj) (bV aj)) (aa (bY cT (pv 6) cU (bV aj)) (aa (pv 7) af))))))
    (ag (cM 7 c8 (bu af))
    (ag (cM 9 c8 aj)
    (ag (bO LC rfl (aZ (pv 4)) (fE 10 c8)
     (ag (bK (aY uk (aw bH (pv 2) aj) aj (bp _)) (ak (a9 (df Lr Lv Lw bb (pv 7) (aa (aQ aI (pv 6) (aw eE (pv 9) (aw bH (aw bU (pv 2) aj) (pv 10))) (λ_ _=>rfl)) af)))) aM)
     (ag (cM 2 c8 (aw bU (pv 2) aj))
     (ak (cM 9 c8 (aw eE (pv 9) (pv 10)))))))
    (ak (cM 8 c8 (eV DR (hr.mono (by decide)) (aa (bY cT (pv 0) (bV aj) (bV aj)) (aa (pv 6) (aa (pv 4) af))))))))))
   (ag (bK (aY fJ (pv 1) aj (bp _))
    (ag (bK (PW.pt (pw_and (aY ne_nil (pv 8) (bu af) (bp _)) (pw_and1 (aY fJ (aw bH (pv 3) aj) aj (bp _)))))
     (ak (jz (cX (aa (aw eC (aQ cL (aQ aI (pv 8) aj (λ_ _=>rfl)) aj (λ_ _=>rfl)) (bu (aa (aQ aI (pv 6) (pv 9) (λ_ _=>rfl)) af))) (aa (aw eC (aQ cL (aQ aI (pv 8) aj (λ_ _=>rfl)) aj (λ_ _=>rfl)) (bu (aa (aQ aI (pv 6) (pv 9) (λ_ _=>rfl)) af))) af))) (k6 (pv 8) aj set_list))) aM)
    (ag (cM 11 c8 (aw bH (aw bU (pv 3) aj) (aw eE (aA bB rfl T.len cY (aa (pv 8) af)) aj)))
    (ak (cM 8 c8 (aw eC (aw eC (bY cT (pv 8) cU (bV (pv 11))) (eV DS (hr.mono (by decide)) (aa (pv 6) (aa (pv 9) (aa (aQ aI (pv 4) aj (λ_ _=>rfl)) (aa (aw bU (pv 3) aj) af)))))) (bY cT (pv 8) (bV (pv 11)) cU)))))) aM)
   (ak (aK (cX (aa (cE (N:=["_law_k","_law_ends","_law_seed"]) (n:=2) (ci:=[5]) rfl (r9 rfl T2.enm (aa (pv 8) af))
    (oO c8)
    (λz=>#[(eD rfl (aU (kJ 0) (aU (kJ 1) di))),cR,cX (aa (eV DN (hr.mono (by decide)) (aa (pv 0) (aa (aw bU (pv 2) aj) af))) (aa (aQ cL (pv 1) aj (λ_ _=>rfl)) (aa (aQ cL (pv 1) aj (λ_ _=>rfl)) af)))])) (aa (pv 7) af))))))))))))),?_]
  ac_rfl
  apply hV λR hR=>?_
  apply#[Z,a,ns,2,rfl,ha,hz,_,Z,rfl,(by show(0:Int)<3;decide),?_]
  apply hR _ _ _ (hV λR hR=>?_)
  apply#[Z,a,ns,2,rfl,ha,hz,_,Z,rfl,#[by decide,by decide],?_]
  apply hR _ _ _ (hV λR hR=>?_)
  generalize ns.getD 2 0=d2
  apply#[Z,a,ns,0,rfl,ha,hz,_,Z,rfl,.inr #[by decide,by decide],_,Z,rfl,(by show(0:Int)<2147483647;decide),?_]
  apply hR _ _ _ (hV λR hR=>?_)
  apply#[Z,a,ns,0,rfl,ha,hz,Z,λH1 zq0 ss0 s1 nzq0 hzq0 l1 l3 hss0=>?_]
  generalize ns.getD 0 0=d0
  have hkd:0<=d2 % 3/\d2 % 3<3:=by lia
  obtain⟨k3,ek3⟩:=Mw (show 0<=3-d2 % 3 % 2 by lia)
  apply#[Z,_,Z,rfl,(by show(0:Int)<2;decide),_,Z,rfl,(k3:Int),L6 V.int ek3,zq0,Z,aH.of hzq0,λzq nzq=>?_]
  rw[Ba,<-Nf]
  have hz3:JT (ss0.take k3):=#[by rw[Lf];lia,by rw[Lf];lia,λx hx=>hss0 x (Mm hx)]
  have hz1:d2 % 3=1->(ss0.take k3).length<=2:=λe=>by rw[Lf];lia
  generalize ss0.take k3=ss at hz3 hz1
  obtain⟨H2,eU,s2,hzq⟩:=fL nzq (.lst (ss.map V.int))
  rw[eU]
  have s02:=s1.trans s2
  clear hzq0 nzq nzq0 hss0 l1 l3
  apply hR _ _ _ (hV λR hR=>?_)
  apply#[Z,a,ns,1,rfl,s02.seq ha,hz,?_]
  generalize ns.getD 1 0=seed
  apply hR _ _ _ (hV λR hR=>?_)
  apply#[Z,by decide,by decide,λz D hD=>nj (lo:=0) (m:=12) (λj ys H1=>ys=aE ((List.range j).map λk=>gC k seed)/\H1 D=some (.lst ys)/\au H2 H1) #[rfl,ae,ao hD] ?_ ?_]
  ·rintro j ys H1 hj ⟨rfl,hys,s1⟩
   rw[show(0:Int)+(j:Int)=j from OW _]
   apply#[Z,Z,j,seed,rfl,by lia,λH2 s2=>#[s2 _ _ hys,by rw[ar,K4,QC];lia,?_,ae,aJ (s1.trans s2) hD]]
   rw[Om,Ll,<-ja]
   rfl
  rintro ys H3 ⟨rfl,hys,s3⟩
  have hnq:H3 D=some (.lst (aE (lE seed))):=hys
  clear hys hD
  rename Addr=>nq
  have hN:=yL seed
  have hNg:∀j,j<12->(lE seed)[j]?=some (gC j seed):=λj hj=>by
   unfold lE
   rw[LD,List.getElem?_range hj]
   rfl
  generalize hNm:lE seed=Nm at hnq hN hNg
  have s03:=s02.trans s3
  have hzq3:=s3 _ _ hzq
  apply hR _ _ _ (hV λR hR=>?_)
  apply#[Z,by decide,by decide,λz3 D3 hD3=>nj (lo:=0) (m:=6) (λj ys H6=>∃S:List PySem.Str,ys=aE S/\Sub (Nm.take j) S/\H6 D3=some (.lst ys)/\au H3 H6) #[[],rfl,#[.nil,λx hx=>by simp at hx],ae,ao hD3] ?_ ?_]
  ·rintro j ys H6 hj ⟨S,rfl,sS,hys6,s6⟩
   rw[show(0:Int)+(j:Int)=j from OW _]
   have lS:=sS.len
   have lN:=hN.len
   rw[Lf]at lS
   apply#[Z,Z,_,Z,rfl,(by lia),_,Z,rfl,rfl,Z,?_]
   apply pB (λ_=>?_) (λ_=>?_)
   ·apply⟨_,rfl,_,rfl,nq,_,_,_,rfl,rfl,aH.of (s6 _ _ hnq),xc (by lia) (by lia),hys6,by rw[ar];lia,S++[gC j seed],?_,sS.add hN.nd (hNg j (by lia)),ae,aJ s6 hD3⟩
    have e:Nm.getD ((j:Nat):Int).toNat ""=gC j seed:=by rw[LW,Lb,hNg j (by lia)];rfl
    rw[e,kF]
   ·exact#[S,rfl,sS.skip,hys6,s6]
  rintro ys H4 ⟨S,rfl,sS,hS4,s4⟩
  rename Addr=>bq0
  have s04:=s03.trans s4
  have hnq4:=s4 _ _ hnq
  have hzq4:=s4 _ _ hzq3
  clear s1 s2 s3 s4 s02 s03 hzq hzq3 hnq
  apply hR _ _ _ ?_
  try dsimp only[fi]
  apply iF (NtM H4 a (d2 % 3) (d0*48271 % 2147483647) zq nq seed Nm ss) ?_ (λcont=>?_)
  ·rintro σ H5 ⟨dg,bq,st,vb,vs,es,S,rfl,s5,hst,nst,hbq,les,nbs,mid⟩
   apply iF (NtE H4 a (d2 % 3) (d0*48271 % 2147483647) zq nq seed Nm) ?_ (λcont=>?_)
   ·rintro σ H6 ⟨dg,bq,st,vb,vs,vt,es,S,rfl,s6,hst,hbq,les,hen,hS,told⟩
    obtain⟨qs,hqs,pE⟩:=hst
    have lq:=Lz pE
    apply#[Z,st,rfl,#[_,aH.of hqs],λz4 D4 hD4=>yX (a:=st) (xs:=qs.map V.ref) (λj ys H8=>∃rs:List Addr,ys=rs.map V.ref/\rs.length=j/\H8 D4=some (.lst ys)/\au H6 H8/\Paired (λ(m:Mv) q=>∃l g,H8 q=some (.tup [.str m.1,.ref l,.ref g])/\l≠D4/\g≠D4/\H8 l=some (.lst (aE m.2.1))/\H8 g=some (.lst (aE m.2.2))) (rowsOf (seed / 10007) (es.take j)) rs) #[[],rfl,rfl,ae,ao hD4,.nil] (λj ys H8 _ #[_,_,_,_,s8,_]=>aH.of (s8 _ _ hqs)) ?_ ?_]
    ·rintro j v tp ys H8 hj ⟨rs,rfl,lr,hys8,s8,pq⟩ ntp
     obtain⟨q,hq,rfl⟩:=cO hj
     obtain⟨e,he,l,g,e1,e2,e3⟩:=br pE hq
     have hjl:j<es.length:=(Lh.mp he).1
     have lD:l≠D4:=aq e2 hD4
     have gD:g≠D4:=aq e3 hD4
     have s9:au H8 (upd H8 tp (.tup [.int (j:Int),.ref q])):=ao ntp
     apply#[tp,Z,cz.of ae,rfl,_,Z,_,Z,rfl,?_]
     generalize upd H8 tp (.tup [.int (j:Int),.ref q])=H9 at s9 ⊢
     apply#[Z,Z,_,Z,rfl,#[by decide,by decide],j,seed / 10007,rfl,by lia,λH10 s10=>?_]
     have s610:=s8.trans (s9.trans s10)
     apply#[Z,q,_,0,Z,rfl,cz.of (s610 _ _ e1),aD (j:=0) rfl,Z,q,_,1,Z,rfl,cz.of (s610 _ _ e1),aD (j:=1) rfl,by show 3<=sizeLine;lia,λt nt=>?_]
     obtain⟨H11,eU,s11,ht⟩:=fL nt (.tup [.str (gC j (seed / 10007)),.ref l,.ref g])
     rw[eU]
     have s811:=s9.trans (s10.trans s11)
     have hys11:=s811 _ _ hys8
     apply#[hys11,by rw[K4];lia,rs++[t],by rw[Ll];rfl,by rw[K5,lr];rfl,ae,aJ (s8.trans s811) hD4,?_]
     rw[ay he,zE]
     apply ML (Paired.cc pq λm q #[l,g,e1,n1,n2,e2,e3]=>#[l,g,?_,n1,n2,?_,?_]) #[l,g,?_,lD,gD,?_,?_]
     ·rw[ai (aX (s811 _ _ e1) hys11 (λz=>nomatch z))];exact s811 _ _ e1
     ·rw[ai n1];exact s811 _ _ e2
     ·rw[ai n2];exact s811 _ _ e3
     ·have el:(es.take j).length=j:=by rw[Lf];lia
      rw[ai (aX ht hys11 (λz=>nomatch z)),el];exact ht
     ·rw[ai lD];exact(s610.trans s11) _ _ e2
     ·rw[ai gD];exact(s610.trans s11) _ _ e3
    rintro ys H8 ⟨rs,rfl,lr,hys8,s8,pq⟩
    rw[K4,<-lq,LH]at pq
    apply#[Z,by show 2<=sizeLine;lia,λd nd=>?_]
    have s9:au H8 (upd H8 d (.tup [.ref D4,.ref bq])):=ao nd
    have ln:(rowsOf (seed / 10007) es).length=es.length:=by unfold rowsOf;rw[List.length_map,List.length_zipIdx]
    apply kk _ d D4 bq (rowsOf (seed / 10007) es) S (s04.trans (s6.trans (s8.trans s9))) ae #[rs,s9 _ _ hys8,Paired.cc pq λm q #[l,g,e1,_,_,e2,e3]=>#[l,g,s9 _ _ e1,s9 _ _ e2,s9 _ _ e3]] ((s8.trans s9) _ _ hbq) ?_ (told _)
    apply Ei (L:=Nm) (by lia) (λx hx=>?_) ?_ hN.nm (by rw[hN.len];exact La _) (λm hm=>hen _ (iQ hm)) hS
    ·rw[gx]at hx
     obtain⟨k,_,rfl⟩:=LQ.mp hx
     exact xM k _
    ·rw[gx]
     exact ft _ _ (by lia)
   ·apply⟨_,rfl,rfl,_,rfl,?_⟩
    have lN:=hN.len
    by_cases hk:d2 % 3=1
    ·rw[Lk (L6 V.int hk:V.int (d2 % 3)=V.int 1)]
     apply cy ?_
     obtain⟨h,_⟩|⟨h,ps,rfl,rg,he,rfl⟩:=mid
     ·lia
     have pp:=gp hz3.hs (LA ss.length)
     rw[Dt]at pp
     obtain⟨b,eb⟩:=Mw pp
     rw[eb]
     have l2:=hz1 hk
     have b8:b<=8:=by
      have:=qT hz3.hs ss.length
      lia
     obtain⟨qs,hqs,pE⟩:=id hst
     have lq:=Lz pE
     apply iF (NtP H4 a (d2 % 3) (d0*48271 % 2147483647) dg zq nq bq st seed Nm ss vs (bQ Nm ps) b) ?_ (λcont2=>?_)
     ·clear hst hqs pE lq he les hbq s5
      clear qs es H5
      rintro σ H6 ⟨es,rfl,s6,hst,hbq,les,hk1⟩
      obtain⟨qs,hqs,pE⟩:=id hst
      have lq:=Lz pE
      apply#[Z,_,Z,rfl,#[by decide,by decide],Z,_,qs.length,rfl,.inl #[_,aH.of hqs,by rw[K4]],_,Z,rfl,_,Z,rfl,(by lia),?_]
      obtain⟨k,ek⟩:=Mw (show 0<=d0*48271 % 2147483647 / 3 % ((qs.length:Int)+1) from Mc _ (by lia))
      apply#[Z,Z,(k:Int),L6 V.int ek,st,Z,aH.of hqs,λc1 n1=>?_]
      rw[Ba,<-Nf]
      obtain⟨H7,eU,s7,hc1⟩:=fL n1 (.lst ((qs.take k).map V.ref))
      rw[eU]
      have s47:=s6.trans s7
      have l1:=hz3.l1
      have hx0:ss[0]?=some (ss[0]'(by lia)):=K7 (by lia)
      have x14:=hz3.hs _ (Lg hx0)
      have ep1:pre ss 1=_:=iO hx0
      rw[Dt]at ep1
      generalize ss[0]'(by lia)=x at hx0 x14 ep1
      obtain⟨sz,rfl⟩:=Mw (show 0<=x by lia)
      apply#[Z,Z,Z,zq,_,0,Z,rfl,aH.of (s47 _ _ hzq4),aD (j:=0) (by rw[LD,hx0];rfl),Z,_,Z,rfl,#[by decide,by decide],nq,b,sz,_,Nm,rfl,aH.of (s47 _ _ hnq4),by lia,by lia,by lia,by lia,λH8 q sp s8 nq8 hsp spE=>?_]
      obtain⟨ex,s1',s2',part⟩:=zu hN hz3 eb.symm (by lia) (by lia) spE
      have lsp:sp.length=3:=by cases spE;rfl
      obtain⟨qp,hqp,pP⟩:=hsp
      have lqp:=Lz pP
      have lt1:(qs.take k).length<=8:=by rw[Lf];lia
      have ld1:(qs.drop k).length<=8:=by rw[Mp];lia
      apply#[c1,q,_,Z,rfl,s8 _ _ hc1,hqp,by rw[K4,K4];lia,λc2 n2=>?_]
      rw[<-Ll]
      obtain⟨H9,eU,s9,hc2⟩:=fL n2 (.lst ((qs.take k++qp).map V.ref))
      rw[eU]
      have s69:=s7.trans (s8.trans s9)
      apply#[Z,Z,(k:Int),L6 V.int ek,st,Z,aH.of (s69 _ _ hqs),λc3 n3=>?_]
      rw[Hf,<-Oc]
      obtain⟨H10,eU,s10,hc3⟩:=fL n3 (.lst ((qs.drop k).map V.ref))
      rw[eU]
      apply#[c2,c3,_,Z,rfl,s10 _ _ hc2,hc3,by rw[K4,K4,K5];lia,λc4 n4=>?_]
      rw[<-Ll]
      obtain⟨H11,eU,s11,hc4⟩:=fL n4 (.lst ((qs.take k++qp++qs.drop k).map V.ref))
      rw[eU]
      have s911:=s9.trans (s10.trans s11)
      have s611:=s69.trans (s10.trans s11)
      have pE':=Paired.cc pE λ_ _ z=>(z.same (qv _ _)).same s611
      have hk2:∀e∈es.take k++sp++es.drop k,K1 Nm ss b sp e:=λe he=>by
       rcases K9.mp he with z|z
       ·rcases K9.mp z with y|y
        ·exact hk1 sp e (Mm y)
        ·exact .split y
       ·exact hk1 sp e (Qn z)
      have le11:(es.take k++sp++es.drop k).length<=12:=by
       have:(es.take k).length+(es.drop k).length=es.length:=by rw[Lf,Mp];lia
       rw[K5,K5]
       lia
      exact cont _ _ #[_,_,_,_,_,_,es.take k++sp++es.drop k,bQ Nm ps,rfl,s6.trans s611,#[_,hc4,jR (jR (lJ k pE') (Paired.cc pP λ_ _ z=>z.same s911)) (lP k pE')],s611 _ _ hbq,le11,λe he=>Ex hN hz3 (by lia) part (hk2 e he),#[sy hN hz3 rg,λx hx=>(fD hN hz3 rg hx).elim λ_ h=>h.2.2.2],λsd=>Eo hN hz3 part le11 hk2 rg]
     ·apply⟨_,rfl,LA _,λe ne=>?_⟩
      obtain⟨H6,eU,s6,hE⟩:=fL ne (.lst [])
      rw[eU]
      apply#[st,e,Z,rfl,hr.wJ,aH.of (s6 _ _ hqs),aH.of hE,Z,?_]
      have sr6:=dU.same s6 hst
      have no:∀{es':List (List PySem.Str×List PySem.Str)},(∀e∈es',lQ Nm ss e)->∀sp,∀e∈es',K1 Nm ss b sp e:=λh sp e he=>.ring (h e he)
      match es,qs,pE,he,les,hqs,sr6 with
      |[],[],_,he,les,hqs,sr6 =>
       apply bz ?_
       exact bz (cont2 _ _ #[[],rfl,s5.trans s6,sr6,s6 _ _ hbq,les,no he])
      |e0::er,q0::qr,.cons #[l,g,hq0,hl,hg] pr,he,les,hqs,sr6 =>
       apply cy ?_
       apply#[Z,_,Z,rfl,(by show(0:Int)<3;decide),rfl,Z,?_]
       apply pB (λ_=>?_) (λ_=>cont2 _ _ #[Z,s5.trans s6,sr6,s6 _ _ hbq,les,no he])
       have t6:=(qv H5 st).trans s6
       have hq06:=t6 _ _ hq0
       have hl6:=t6 _ _ hl
       have hg6:=t6 _ _ hg
       have s46:=s5.trans s6
       have hqs6:=s6 _ _ hqs
       have E0:=(ji hN hz3 (he e0 LK)).2
       apply#[Z,st,_,0,Z,rfl,aH.of hqs6,aD (j:=0) rfl,q0,_,0,Z,rfl,cz.of hq06,aD (j:=0) rfl,Z,Z,nq,_,_,Z,rfl,aH.of (s46 _ _ hnq4),gz (i:=(b:Int)) (by lia) (by lia),by show 1<=sizeLine;lia,λm1 nm1=>?_]
       rw[LW]
       have s7:au H6 (upd H6 m1 (.lst [V.str (Nm.getD b "")])):=ao nm1
       have hm1:(upd H6 m1 (.lst [V.str (Nm.getD b "")])) m1=some (.lst (aE [Nm.getD b ""])):=ae
       generalize upd H6 m1 (.lst [V.str (Nm.getD b "")])=H7 at s7 hm1 ⊢
       apply#[l,m1,_,Z,rfl,s7 _ _ hl6,hm1,by rw[ar,ar];show _+1<=_;lia,λl1 nl1=>?_]
       rw[ja]
       have nl1q:l1≠st:=(aq (s7 _ _ hqs6) nl1).symm
       obtain⟨H8,eU,s8,hl1⟩:=fL nl1 (.lst (aE (e0.1++[Nm.getD b ""])))
       rw[eU]
       have s68:=s7.trans s8
       apply#[Z,st,_,0,Z,rfl,aH.of (s68 _ _ hqs6),aD (j:=0) rfl,q0,_,1,Z,rfl,cz.of (s68 _ _ hq06),aD (j:=1) rfl,Z,Z,nq,_,_,Z,rfl,aH.of ((s46.trans s68) _ _ hnq4),gz (i:=(b:Int)) (by lia) (by lia),by show 1<=sizeLine;lia,λm2 nm2=>?_]
       rw[LW]
       have s9:au H8 (upd H8 m2 (.lst [V.str (Nm.getD b "")])):=ao nm2
       have hm2:(upd H8 m2 (.lst [V.str (Nm.getD b "")])) m2=some (.lst (aE [Nm.getD b ""])):=ae
       generalize upd H8 m2 (.lst [V.str (Nm.getD b "")])=H9 at s9 hm2 ⊢
       have s69:=s68.trans s9
       apply#[g,m2,_,Z,rfl,s69 _ _ hg6,hm2,by rw[ar,ar];show _+1<=_;lia,λg1 ng1=>?_]
       rw[ja]
       have ng1q:g1≠st:=(aq (s69 _ _ hqs6) ng1).symm
       obtain⟨H10,eU,s10,hg1⟩:=fL ng1 (.lst (aE (e0.2++[Nm.getD b ""])))
       rw[eU]
       have s610:=s69.trans s10
       apply#[by show 2<=sizeLine;lia,λt nt=>?_]
       have ntq:t≠st:=(aq (s610 _ _ hqs6) nt).symm
       obtain⟨H11,eU,s11,ht⟩:=fL nt (.tup [.ref l1,.ref g1])
       rw[eU]
       have s611:=s610.trans s11
       have hl11:=(s9.trans (s10.trans s11)) _ _ hl1
       have hg11:=s11 _ _ hg1
       apply#[Z,st,_,0,0,rfl,rfl,s611 _ _ hqs6,by rw[K4];exact Ki _,?_]
       apply cont2 _ _ #[(e0.1++[Nm.getD b ""],e0.2++[Nm.getD b ""])::er,rfl,aJ (s46.trans s611) nst,#[t::qr,ae,?_],?_,les,λsp e h=>?_]
       ·rw[BF]
        exact .cons #[l1,g1,qa ht ntq,qa hl11 nl1q,qa hg11 ng1q] (Paired.cc pr λ_ _ z=>z.same (ik st (s6.trans s611)))
       ·rw[ai nbs]
        exact(s6.trans s611) _ _ hbq
       ·rcases Lc.mp h with rfl|h
        ·exact .plus e0 (he e0 LK) rfl
        ·exact .ring (he e (LJ _ h))
    ·rw[Lq (λe=>hk (V.int.inj e):¬V.int (d2 % 3)=V.int 1)]
     apply bz (cont _ _ ?_)
     obtain⟨h,hs,he,W,c⟩|⟨h,ps,rfl,rg,he,rfl⟩:=mid
     ·exact#[_,_,_,_,_,_,es,S,rfl,s5,hst.at',hbq,by lia,he,hs,λsd=>uh (by lia) c]
     ·exact#[_,_,_,_,_,_,es,Z,s5,hst.at',hbq,by lia,λe h=>(ji hN hz3 (he e h)).1,#[sy hN hz3 rg,λx hx=>(fD hN hz3 rg hx).elim λ_ h=>h.2.2.2],λsd=>yJ hN hz3 (by lia) he rg]
  ·obtain⟨cs,ecs,lcs⟩:=vW ns 3 11
   have ecs:dR (ns.map V.int) (some (3:Int)) (some (11:Int))=cs.map V.int:=ecs
   apply#[Z,rfl,Z,?_]
   by_cases hk:d2 % 3=2
   ·rw[Lk (L6 V.int hk:V.int (d2 % 3)=V.int 2)]
    apply cy ?_
    apply#[Z,Z,Z,a,Z,s04.seq ha,λc1 nc1=>?_]
    rw[ecs]
    obtain⟨H5,eU,s5,hc1⟩:=fL nc1 (.lst (cs.map V.int))
    rw[eU]
    apply#[Z,6,rfl,nq,Z,aH.of (s5 _ _ hnq4),λc2 nc2=>?_]
    rw[show dR (aE Nm) none (some (6:Int))=aE (Nm.take 6) from xa Nm 6]
    obtain⟨H6,eU,s6,hc2⟩:=fL nc2 (.lst (aE (Nm.take 6)))
    rw[eU]
    have s46:=s5.trans s6
    have lN:=hN.len
    have l6:(Nm.take 6).length=6:=by rw[Lf];lia
    apply#[Z,c1,c2,bq0,cs,Nm.take 6,S,rfl,aH.of (s6 _ _ hc1),lcs,aH.of hc2,hN.nd.sublist (Nu _ _),by lia,by lia,aH.of (s46 _ _ hS4),sS.nd,sS.inn,λH7 q es s7 nq7 sr le hen #[W,hW]=>?_]
    have s47:=s46.trans s7
    apply cont _ _ #[_,bq0,q,_,_,es,S,rfl,s47,sr,s46.free nq7,s47 _ _ hS4,by lia,aq (s46 _ _ hS4) nq7,.loose hk #[sS.nd,λx hx=>Mm (sS.inn x hx)] (λe he=>(hen e he).up λx hx=>Mm hx) W hW]
   ·rw[Lq (λe=>hk (V.int.inj e):¬V.int (d2 % 3)=V.int 2)]
    apply bz ?_
    apply#[LA _,λbq nbq=>?_]
    have s5:au H4 (upd H4 bq (.lst [])):=ao nbq
    have hbq:(upd H4 bq (.lst [])) bq=some (.lst (aE (bQ Nm []))):=ae
    generalize upd H4 bq (.lst [])=H5 at s5 hbq ⊢
    have lN:=hN.len
    apply#[Z,zq,rfl,#[_,aH.of (s5 _ _ hzq4)],bJ (K:=K) (a:=zq) (xs:=ss.map V.int) (KS H4 a (d2 % 3) (d0*48271 % 2147483647) zq nq bq seed Nm ss none)
     #[_,none,[],rfl,s5,hbq,#[by simp,(λq hq=>nomatch hq),λq hq=>nomatch hq]] (λi σ H2 _ h=>aH.of (h.same _ _ hzq4)) ?_ ?_]
    ·rintro i v σ H6 hi ⟨dg,vs,ps,rfl,s6,hb6,rg⟩
     obtain⟨x,hx,rfl⟩:=ints_get hi
     have hil:i<ss.length:=(Lh.mp hx).1
     have x14:=hz3.hs x (Lg hx)
     have lps:=rg.len
     have l3:=hz3.l3
     have epre:=iO hx
     dsimp only[fi]
     apply iF (KG H4 a (d2 % 3) (d0*48271 % 2147483647) dg x zq nq bq seed Nm ss none i) ?_ (λcont2=>?_)
     ·rintro σ H7 ⟨ps,rfl,s7,hb7,rg⟩
      apply#[Z,_,Z,rfl,#[by decide,by decide],Z,Z,_,Z,rfl,?_]
      apply#[dg / 32,some (.int x),ps,?_,s7,hb7,rg]
      rw[epre]
      rfl
     ·apply⟨_,rfl,_,_,rfl,rfl,(by show(0:Int)<8;decide),_,_,rfl,rfl,_,rfl,?_⟩
      apply pB (λ_=>?_) (λ_=>cont2 _ _ #[ps,rfl,s6,hb6,rg.skip])
      have m0:0<=dg / 8 % x/\dg / 8 % x<x:=#[Mc _ (by lia),L9 _ (by lia)]
      have p0:=gp hz3.hs (LA i)
      rw[Dt]at p0
      have p12:=qT hz3.hs (i+1)
      apply#[Z,.inl #[rfl,_,aH.of hb6],Z,Z,Z,_,Z,rfl,#[by decide,by decide],Z,_,Z,rfl,(by lia),_,Z,rfl,nq,_,_,Z,rfl,aH.of (s6 _ _ hnq4),gz (by lia) (by push_cast at p12;lia),bq,_,Z,rfl,hb6,by rw[ar,eJ];lia,?_]
      apply cont2 _ _ #[ps++[(i,pre ss i+dg / 8 % x)],rfl,aJ s6 nbq,?_,rg.snoc (by lia) (by lia)]
      rw[ae]
      unfold bQ
      rw[Ll,kF]
      rfl
    ·rintro σ H6 ⟨dg,vs,ps,rfl,s6,hb6,rg⟩
     rw[K4]at rg ⊢
     apply#[Z,Z,Z,a,Z,(s04.trans s6).seq ha,λc1 nc1=>?_]
     rw[ecs]
     obtain⟨H7,eU,s7,hc1⟩:=fL nc1 (.lst (cs.map V.int))
     rw[eU]
     have s47:=s6.trans s7
     apply#[Z,Z,c1,nq,zq,cs,ss,Nm,rfl,aH.of hc1,lcs,aH.of (s47 _ _ hnq4),lN,aH.of (s47 _ _ hzq4),hz3.l1,hz3.l3,hz3.hs,λH8 q es s8 nq8 sr le hen=>?_]
     have s48:=s47.trans s8
     exact cont _ _ #[_,bq,q,_,_,es,bQ Nm ps,rfl,s48,sr,s47.free nq8,(s7.trans s8) _ _ hb6,by lia,aq (s7 _ _ hb6) nq8,.ring hk ps rfl rg hen rfl]
open UfB
abbrev sv:Stmt:=top 53
structure Jo(X:Cx)(pos:Pos)(keys:List (Option Expr))(values:List Expr)(trs:List (TE×TE)):Prop where
 h:HY X pos keys values trs
structure AB(X:Cx)(e:Expr)(t:TE):Prop where
 h:PE X e t
def Eh{X:Cx}{pos:Pos}:Jo X pos [] [] []:=#[Eg]
def gQ{X:Cx}{pos:Pos}{k v:Expr}{ks:List (Option Expr)}{vs:List Expr}{tk tv:TE}{trs:List (TE×TE)}(hk:AB X k tk)(hv:AB X v tv)(hr:Jo X pos ks vs trs):Jo X pos (some k::ks) (v::vs) ((tk,tv)::trs):=#[CI hk.h hv.h hr.h]
def jf{X:Cx}{x j pos}:AB X (.Constant (.str x) j pos) (tC (.str x)):=#[bX]
def CC{X:Cx}{pos}:AB X (.Dict [] [] pos) CH:=#[kb]
def iJ{X:Cx}{pos}:AB X (.List [] pos) (Gv tH):=#[bu af]
def okB{P:PySem.Program}{w:PySem.World}{K:PySem.W.Frag}{mg:PySem.Str->Option PySem.Value}{base:PySem.Heap}{x qual:PySem.Str}{st:PySem.Stmt}{f:PySem.Addr}{fd:PySem.FuncData}{N ps:List PySem.Str}{k:Nat}{sp:Sp}(F:dN K x qual st f fd)(S:aF N ps (av st))(len:∀vs H Q E,sp vs H Q E->vs.length=ps.length)
  (hbody:∀(cdv:PySem.Value) (A:PySem.Around) (outer:List PySem.Env) (s:PySem.Shared) (H:Hp) (vs:List V) (Q:VK) (E:XK),cW k (A.deeper (PyProof.Rows.envOfC qual (av st) s.heap.objs.size f cdv))->sp vs H Q E ->
   ∃t,uZ (bZ cZ P w K mg base N qual (av st) f cdv A outer s H E).dY (eh st) t/\t { nx:=λ_ H'=>Q .non H',rt:=Q } (start N vs) H):bf P w K mg base cZ (k+1) f fd ps sp :=
 F.ok S len λcdv A outer s H vs Q E hr hsp=>by
  obtain⟨t,h,q⟩:=hbody cdv A outer s H vs Q E hr hsp
  exact#[t,h.h,q]
def HG{X:Cx}{pos p2:Pos}{i:Nat}{x:PySem.Str}{keys:List (Option Expr)}{values:List Expr}{trs:List (TE×TE)}{pos':Pos}(hN:X.N.Nodup)(hi:X.N[i]?=some x)(hx:Loc X.env.scope x)(he:Jo X p2 keys values trs)(hall:keys.all (·.isSome)=true)(hl:keys.length=values.length)(h0:keys≠[])(h15:keys.length<=15)(hs:swapsWith (.Dict keys values p2) (some (.Name x pos')) pos.line X.env=pure false)(hf:X.fn x=true\/X.env.scope.names.lookup x=some .local):Kc X (.Assign [.Name x pos'] (.Dict keys values p2) pos) (zS (Fn trs) (fi i)):=#[vA hN hi hx (El he.h hall hl h0 h15) hs hf]
def gj{kvs:List (Key×V)}{k:Key}{v:V}(h:∀kv∈kvs,kv.1≠k):putK kvs k v=kvs++[(k,v)]:=by
 unfold putK
 rw[Le]
 intro z
 obtain⟨kv,h1,h2⟩:=MH.mp z
 exact h kv h1 (by simpa using h2)
theorem mZ:∀(more acc:List (Key×V)),((acc++more).map (·.1)).Nodup->iK acc more=acc++more
 |[],acc,_=>by rw[NN];rfl
 |p::r,acc,h=>by
  show iK (putK acc p.1 p.2) r=_
  have hp:∀kv∈acc,kv.1≠p.1:=λkv hk e=>by
   rw[Ll]at h
   exact(L1.mp h).2.2 kv.1 (LQ.mpr #[kv,hk,rfl]) p.1 (LQ.mpr #[p,LK,rfl]) e
  rw[gj hp,mZ r _ (by rw[Mr];exact h),Mr]
  rfl
def BD(md sq cq pq tq dq:Addr):iK [] (c9 md sq cq pq tq dq)=c9 md sq cq pq tq dq:=by
 rw[mZ _ _ (by
  show([Sum.inr "moves",Sum.inr "spots",Sum.inr "came",Sum.inr "past",Sum.inr "takers",Sum.inr "side"]:List Key).Nodup
  decide +kernel)]
 rfl
theorem tR{F:Mv->Addr->Prop}{m:Mv}{q:Addr}:∀{ms:List Mv} {qs:List Addr},Paired F ms qs->lX (ms++[m]) (qs++[q])=lX ms qs++[(Sum.inr m.1,.ref q)]
 |_,_,.nil=>rfl
 |_,_,.cons _ r=>L6 (_ :: ·) (tR r)
theorem uI{F:Mv->Addr->Prop}:∀{ms:List Mv} {qs:List Addr},Paired F ms qs->∀kv∈lX ms qs,∃m∈ms,kv.1=Sum.inr m.1
 |_,_,.nil,kv,h=>nomatch h
 |m::ms,q::qs,.cons _ r,kv,h=>by
  rcases Lc.mp (show kv∈(Sum.inr m.1,V.ref q)::lX ms qs from h) with z|z
  ·exact#[m,LK,by rw[z]]
  ·obtain⟨m',h1,h2⟩:=uI r kv z
   exact#[m',LJ _ h1,h2]
theorem yw{F:Mv->Addr->Prop}:∀{ms:List Mv} {qs:List Addr},Paired F ms qs->(lX ms qs).length=ms.length
 |_,_,.nil=>rfl
 |_,_,.cons _ r=>L6 (· + 1) (yw r)
def BA(pl:List (Str×Nat)){xs:List Str}(h:xs.length<=250):Alike (cI [] xs) (cI pl xs):=by
 have A:=gf [] h
 have B:=gf pl h
 apply#[A.sp.trans B.sp.symm,A.tk.trans B.tk.symm,lz (A.bl.trans B.bl.symm) λa c ha=>?_,rfl]
 have ha:a<xs.length:=by
  have e:=A.bl
  rw[Nk]at e
  exact e ▸ ha
 have a1:=A.new a c ha
 have b1:=B.new a c ha
 rw[Nk]at a1 b1
 exact a1.trans b1.symm
def zG(H:Hp)(md:Addr)(ms:List Mv)(as:List Addr):Prop:=∃o qs,H md=some (.frz o (.dK (lX ms qs)))/\Paired (F2 H as) ms qs
def xh:Sp:=λvs H Q _=>∃(d rl bl:Addr) (ms:List Mv) (S:List Str) (a0:List Addr),vs=[.ref d]/\(∀a∈a0,H a≠none)/\H d=some (.tup [.ref rl,.ref bl])/\jN H rl ms/\H bl=some (.lst (aE S))/\(names ms).Nodup/\ms.length<=12/\(∀m∈ms,m.2.1.length<=4/\m.2.2.length<=4)/\S.length<=12 /\
 ∀H' w md sq cq pq tq dq,au H H'->(∀a∈[w,md,sq,cq,pq,tq,dq],H a=none)->Sep cq pq sq tq dq->(∀pl,iG H' w md sq cq pq tq dq ms (cI pl (aL S)))->zG H' md ms ([cq,pq,sq,tq,dq]++a0)->Q (.ref w) H'
def jk:aF ["_law_drawn","_law_web","_law_name_here","_law_takes","_law_gives","_law_place"] ["_law_drawn"] (av sv):=ff
inductive BgI(H1:Hp)(d w md sq cq pq tq dq:Addr)(a0:List Addr)(ms:List Mv)(i:Nat)(σ:St)(H2:Hp):Prop
 |mk (v2 v3 v4:Option V) (qs:List Addr) (q0:σ=[some (.ref d),some (.ref w),v2,v3,v4,none]) (q1:H2 md=some (.dK (lX (ms.take i) qs))) (q2:Paired (F2 H2 ([cq,pq,sq,tq,dq]++a0)) (ms.take i) qs) (q3:cG [md] H1 H2)
inductive BgJ(H1:Hp)(d w md sq cq pq tq dq:Addr)(xs:List Str)(v2 v3 v4:Option V)(i:Nat)(σ:St)(H2:Hp):Prop
 |mk (v5:Option V) (q0:σ=[some (.ref d),some (.ref w),v2,v3,v4,v5]) (q1:dQ H2 w md sq cq pq tq dq (cI [] (xs.take i))) (q3:cG [sq,tq,dq] H1 H2)
def Cp{f:Addr}{fd:FuncData}(F:dN K "_law_begun" "_law_begun" sv f fd)(T:Txt K mg)
  (DS:gG P w K mg base "_law_spot_comes" nA ["_law_web","_law_place","_law_giver"] 3 rz) :
  bf P w K mg base cZ 4 f fd ["_law_drawn"] xh:=by
 apply okB F jk (λvs H Q E h=>?_) (λcdv A outer s H vs Q E hr h=>?_)
 ·obtain⟨d,rl,bl,ms,S,a0,rfl,_⟩:=h
  rfl
 ·obtain⟨d,rl,bl,ms,S,a0,rfl,ha0,hd,hrow,hbl,hn,lms,hm4,lS,kk⟩:=h
  have hu:=c7 hr
  have hsl:=LG
  apply#[_,Ca (HG (i:=1) jk.nd rfl (Or.inl rfl) (gQ jf CC (gQ jf iJ (gQ jf iJ (gQ jf iJ (gQ jf iJ (gQ jf iJ Eh)))))) rfl rfl (List.cons_ne_nil _ _) (Nat.le_of_ble_eq_true rfl) rfl (.inl rfl))
   (oJ (bO LC rfl (aZ (aQ cL (pv 0) aj (λ_ _=>rfl))) (eD rfl (aU (fE 2 jk) (aU (fE 3 jk) (aU (fE 4 jk) di))))
    (ak (kE hu (bC hu (pv 1) bX (λ_ _=>rfl)) (pv 2) (cX (aa (aA cu rfl T.aL cf (aa (pv 3) af)) (aa (aA cu rfl T.aL cf (aa (pv 4) af)) af))) rfl)))
   (oJ (bO LC rfl (aZ (aA cu rfl T.aL cf (aa (aQ cL (pv 0) aj (λ_ _=>rfl)) af))) (fE 5 jk)
    (ak (a9 (eV DS hr (aa (pv 1) (aa (pv 5) (aa jG af)))))))
   (IK (aK (Ep (pv 1)))))),?_]
  ac_rfl
  intro w nw
  obtain⟨H0,eU,s0,hw⟩:=fL nw (.dK [])
  rw[eU]
  intro md nmd
  have s1:au H0 (upd H0 md (.dK [])):=ao nmd
  have hmd:(upd H0 md (.dK [])) md=some (.dK []):=ae
  have nwmd:w≠md:=aq hw nmd
  have hw:=s1 _ _ hw
  have nmd0:=s0.free nmd
  have s01:=s0.trans s1
  generalize upd H0 md (.dK [])=H1 at s1 hmd hw s01 ⊢
  apply#[LA _,λsq nsq=>?_]
  have s2:au H1 (upd H1 sq (.lst [])):=ao nsq
  have hsq:(upd H1 sq (.lst [])) sq=some (.lst []):=ae
  have hmd:=s2 _ _ hmd
  have hw:=s2 _ _ hw
  have nsq0:=s01.free nsq
  have s02:=s01.trans s2
  generalize upd H1 sq (.lst [])=H2 at s2 hsq hmd hw s02 ⊢
  apply#[LA _,λcq ncq=>?_]
  have s3:au H2 (upd H2 cq (.lst [])):=ao ncq
  have hcq:(upd H2 cq (.lst [])) cq=some (.lst []):=ae
  have nsc:sq≠cq:=aq hsq ncq
  have hmd:=s3 _ _ hmd
  have hw:=s3 _ _ hw
  have hsq:=s3 _ _ hsq
  have ncq0:=s02.free ncq
  have s03:=s02.trans s3
  generalize upd H2 cq (.lst [])=H3 at s3 hsq hcq hmd hw s03 ⊢
  apply#[LA _,λpq npq=>?_]
  have s4:au H3 (upd H3 pq (.lst [])):=ao npq
  have hpq:(upd H3 pq (.lst [])) pq=some (.lst []):=ae
  have nsp:sq≠pq:=aq hsq npq
  have ncp:cq≠pq:=aq hcq npq
  have hmd:=s4 _ _ hmd
  have hw:=s4 _ _ hw
  have hsq:=s4 _ _ hsq
  have hcq:=s4 _ _ hcq
  have npq0:=s03.free npq
  have s04:=s03.trans s4
  generalize upd H3 pq (.lst [])=H4 at s4 hsq hcq hpq hmd hw s04 ⊢
  apply#[LA _,λtq ntq=>?_]
  have s5:au H4 (upd H4 tq (.lst [])):=ao ntq
  have htq:(upd H4 tq (.lst [])) tq=some (.lst []):=ae
  have nst:sq≠tq:=aq hsq ntq
  have nct:cq≠tq:=aq hcq ntq
  have npt:pq≠tq:=aq hpq ntq
  have hmd:=s5 _ _ hmd
  have hw:=s5 _ _ hw
  have hsq:=s5 _ _ hsq
  have hcq:=s5 _ _ hcq
  have hpq:=s5 _ _ hpq
  have ntq0:=s04.free ntq
  have s05:=s04.trans s5
  generalize upd H4 tq (.lst [])=H5 at s5 hsq hcq hpq htq hmd hw s05 ⊢
  apply#[LA _,λdq ndq=>?_]
  have s6:au H5 (upd H5 dq (.lst [])):=ao ndq
  have hdq:(upd H5 dq (.lst [])) dq=some (.lst []):=ae
  have nsd:sq≠dq:=aq hsq ndq
  have ncd:cq≠dq:=aq hcq ndq
  have npd:pq≠dq:=aq hpq ndq
  have ntd:tq≠dq:=aq htq ndq
  have hmd:=s6 _ _ hmd
  have hw:=s6 _ _ hw
  have hsq:=s6 _ _ hsq
  have hcq:=s6 _ _ hcq
  have hpq:=s6 _ _ hpq
  have htq:=s6 _ _ htq
  have ndq0:=s05.free ndq
  have s06:=s05.trans s6
  generalize upd H5 dq (.lst [])=H6 at s6 hsq hcq hpq htq hdq hmd hw s06 ⊢
  apply#[hw,c9 md sq cq pq tq dq,rfl,by show 6<=15;decide,?_]
  rw[BD]
  have s07:au H (upd H6 w (.dK (c9 md sq cq pq tq dq))):=aJ s06 nw
  have up:∀{c o},H6 c=some o->c≠w->(upd H6 w (.dK (c9 md sq cq pq tq dq))) c=some o:=λ{c o} e n=>by rw[ai n];exact e
  have hw7:(upd H6 w (.dK (c9 md sq cq pq tq dq))) w=some (.dK (c9 md sq cq pq tq dq)):=ae
  have hmd:=up hmd nwmd.symm
  have hsq:=up hsq (aX hsq hw (λz=>nomatch z))
  have hcq:=up hcq (aX hcq hw (λz=>nomatch z))
  have hpq:=up hpq (aX hpq hw (λz=>nomatch z))
  have htq:=up htq (aX htq hw (λz=>nomatch z))
  have hdq:=up hdq (aX hdq hw (λz=>nomatch z))
  clear hw up
  generalize upd H6 w (.dK (c9 md sq cq pq tq dq))=H7 at s07 hw7 hmd hsq hcq hpq htq hdq ⊢
  have D:Sep cq pq sq tq dq:=#[nst,nsd,ntd,nsp.symm,npt,npd,nsc.symm,nct,ncd,ncp]
  clear s0 s1 s2 s3 s4 s5 s6 s01 s02 s03 s04 s05 s06
  obtain⟨qr,hqr,hpr⟩:=hrow
  have lqr:=Lz hpr
  have fr:∀{c o},H c=some o->c∉[md]:=λ{c o} e z=>by
   have z:c=md:=by simpa using z
   rw[z,nmd0]at e
   cases e
  apply#[Z,d,_,0,Z,rfl,cz.of (s07 _ _ hd),aD (j:=0) rfl,rl,rfl,#[_,aH.of (s07 _ _ hqr)],bJ (K:=K) (a:=rl) (xs:=qr.map V.ref) (BgI H7 d w md sq cq pq tq dq a0 ms) #[none,none,none,[],rfl,hmd,.nil,λc o e _=>e] (λi σ H8 _ h=>?_) ?_ ?_]
  ·obtain⟨_,_,_,_,_,_,_,b⟩:=h
   exact aH.of (b _ _ (s07 _ _ hqr) (fr hqr))
  ·rintro i v σ H8 hi ⟨v2,v3,v4,qs,rfl,hmd8,hp8,b8⟩
   obtain⟨q,hq,rfl⟩:=cO hi
   obtain⟨m,hm,l,g,e1,e2,e3⟩:=br hpr hq
   have il:i<ms.length:=(Lh.mp hm).1
   have old:∀{c o},H c=some o->H8 c=some o:=λ{c o} e=>b8 _ _ (s07 _ _ e) (fr e)
   have m4:=hm4 m (Lg hm)
   apply#[q,Z,cz.of (old e1),rfl,_,Z,_,Z,_,Z,rfl,?_]
   apply#[Z,l,Z,aH.of (old e2),by lia,λl1 nl1=>?_]
   have hl1:(upd H8 l1 (.lst (aE (aL m.2.1)))) l1=some (.lst (aE (aL m.2.1))):=ae
   have s9:au H8 (upd H8 l1 (.lst (aE (aL m.2.1)))):=ao nl1
   generalize upd H8 l1 (.lst (aE (aL m.2.1)))=H9 at s9 hl1 ⊢
   apply#[Z,g,Z,aH.of (s9 _ _ (old e3)),by lia,λg1 ng1=>?_]
   have hg1:(upd H9 g1 (.lst (aE (aL m.2.2)))) g1=some (.lst (aE (aL m.2.2))):=ae
   have s10:au H9 (upd H9 g1 (.lst (aE (aL m.2.2)))):=ao ng1
   generalize upd H9 g1 (.lst (aE (aL m.2.2)))=H10 at s10 hg1 ⊢
   apply#[by show 2<=sizeLine;lia,λt nt=>?_]
   have ht:(upd H10 t (.tup [.ref l1,.ref g1])) t=some (.tup [.ref l1,.ref g1]):=ae
   have s11:au H10 (upd H10 t (.tup [.ref l1,.ref g1])):=ao nt
   generalize upd H10 t (.tup [.ref l1,.ref g1])=H11 at s11 ht ⊢
   have s811:=s9.trans (s10.trans s11)
   have lst8:∀{c xs},H7 c=some (.lst xs)->H8 c=some (.lst xs):=λ{c xs} e=>b8 _ _ e λz=>by
    have z:c=md:=by simpa using z
    rw[z,hmd]at e
    cases e
   have nas:∀{c},H8 c=none->c∉[cq,pq,sq,tq,dq]++a0:=λ{c} n z=>by
    simp at z
    rcases z with rfl|rfl|rfl|rfl|rfl|z
    ·rw[lst8 hcq]at n;cases n
    ·rw[lst8 hpq]at n;cases n
    ·rw[lst8 hsq]at n;cases n
    ·rw[lst8 htq]at n;cases n
    ·rw[lst8 hdq]at n;cases n
    ·obtain⟨o,ho⟩:=Option.ne_none_iff_exists'.mp (ha0 c z)
     rw[old ho]at n;cases n
   have hw11:=s811 _ _ (b8 _ _ hw7 (by simpa using nwmd))
   have hmd11:=s811 _ _ hmd8
   have lqs:=yw hp8
   have l8:(ms.take i).length=i:=by rw[Lf];lia
   have dM:dI H11 w (.str "moves") (some (.ref md)):=uG ▸ dI.k (k:=Sum.inr "moves") hw11
   apply#[Z,w,Z,dM,Z,md,Z,nV.k (k:=Sum.inr m.1) hmd11 (by lia),?_]
   have enew:putK (lX (ms.take i) qs) (Sum.inr m.1) (V.ref t)=lX (ms.take (i+1)) (qs++[t]):=by
    rw[ay hm,tR hp8]
    apply gj λkv hk e=>?_
    obtain⟨m',h1,h2⟩:=uI hp8 kv hk
    rw[h2]at e
    have e:m'.1=m.1:=NR e
    have hnd:(names (ms.take (i+1))).Nodup:=by
     exact List.Nodup.sublist ((Nu _ _).map _) hn
    rw[ay hm]at hnd
    unfold names at hnd
    rw[Ll]at hnd
    exact(L1.mp hnd).2.2 m'.1 (LQ.mpr #[m',h1,rfl]) m.1 (by simp) e
   rw[enew]
   have up:∀{c o},H11 c=some o->(∀xs,o≠.dK xs)->(upd H11 md (.dK (lX (ms.take (i+1)) (qs++[t])))) c=some o:=λ{c o} e n=>by
    rw[ai (λz=>by rw[z,hmd11]at e;cases e;exact n _ rfl)]
    exact e
   have hm12:(upd H11 md (.dK (lX (ms.take (i+1)) (qs++[t])))) md=some (.dK (lX (ms.take (i+1)) (qs++[t]))):=ae
   have b12:cG [md] H7 (upd H11 md (.dK (lX (ms.take (i+1)) (qs++[t])))):=λc o e n=>by
    rw[ai (by simpa using n)]
    exact s811 _ _ (b8 _ _ e n)
   generalize upd H11 md (.dK (lX (ms.take (i+1)) (qs++[t])))=H12 at up hm12 b12 ⊢
   apply#[_,_,_,qs++[t],rfl,hm12,?_,b12]
   rw[ay hm]
   exact ML (Paired.cc hp8 λm q #[l,g,e1,e2,e3,n1,n2]=>#[l,g,up (s811 _ _ e1) (λ_ z=>nomatch z),up (s811 _ _ e2) (λ_ z=>nomatch z),up (s811 _ _ e3) (λ_ z=>nomatch z),n1,n2]) #[l1,g1,up ht (λ_ z=>nomatch z),up ((s10.trans s11) _ _ hl1) (λ_ z=>nomatch z),up (s11 _ _ hg1) (λ_ z=>nomatch z),nas nl1,nas (s9.free ng1)]
  ·rintro σ H8 ⟨v2,v3,v4,qs,rfl,hmd8,hp8,b8⟩
   rw[K4,<-lqr,LH]at hmd8 hp8
   have old:∀{c o},H c=some o->H8 c=some o:=λ{c o} e=>b8 _ _ (s07 _ _ e) (fr e)
   have lst8:∀{c xs},H7 c=some (.lst xs)->H8 c=some (.lst xs):=λ{c xs} e=>b8 _ _ e λz=>by
    have z:c=md:=by simpa using z
    rw[z,hmd]at e
    cases e
   apply#[Z,d,_,1,Z,rfl,cz.of (old hd),aD (j:=1) rfl,bl,Z,aH.of (old hbl),by lia,λsl nsl=>?_]
   obtain⟨H9,eU,s9,hsl9⟩:=fL nsl (.lst (aE (aL S)))
   rw[eU]
   have lxs:(aL S).length=S.length:=by rw[cP]
   have nsl3:sl∉[sq,tq,dq]:=λz=>by
    simp at z
    rcases z with rfl|rfl|rfl
    ·rw[lst8 hsq]at nsl;cases nsl
    ·rw[lst8 htq]at nsl;cases nsl
    ·rw[lst8 hdq]at nsl;cases nsl
   have O9:dQ H9 w md sq cq pq tq dq (cI [] []):=#[s9 _ _ (b8 _ _ hw7 (by simpa using nwmd)),#[[],s9 _ _ (lst8 hsq),.nil],s9 _ _ (lst8 htq),s9 _ _ (lst8 hdq),s9 _ _ (lst8 hpq)]
   apply#[sl,rfl,#[_,aH.of hsl9],bJ (K:=K) (a:=sl) (xs:=aE (aL S)) (BgJ H9 d w md sq cq pq tq dq (aL S) v2 v3 v4) #[Z,O9,λc o e _=>e] (λi σ H10 _ h=>?_) ?_ ?_]
   ·obtain⟨_,_,_,b⟩:=h
    exact aH.of (b _ _ hsl9 nsl3)
   ·rintro i v σ H10 hi ⟨v5,rfl,O10,b10⟩
    obtain⟨x,hx,rfl⟩:=c6 hi
    have il:i<(aL S).length:=(Lh.mp hx).1
    have gd:=jK [] (xs:=(aL S).take i) (by rw[Lf];lia)
    have ls:(cI [] ((aL S).take i)).W.sp.length=i:=by
     have:=(gf [] (xs:=(aL S).take i) (by rw[Lf];lia)).sp
     show(bx _ _ _).1.sp.length=_
     rw[this]
     simp
     lia
    have fit:Ax (cI [] ((aL S).take i)) none:=#[gd.tl,gd.bl,by lia,λs hs=>#[hs,λj hj=>by rw[gd.wl];exact gd.gvlt s j hj],λj e=>nomatch e]
    apply#[Z,Z,w,md,sq,cq,pq,tq,dq,cI [] ((aL S).take i),x,none,rfl,O10,D,fit,λH11 O11 b11=>?_]
    exact#[Z,O11.alike (vn [] (by lia) hx),λc o e n=>b11 _ _ (b10 _ _ e n) n]
   ·rintro σ H10 ⟨v5,rfl,O10,b10⟩
    rw[ar,LH]at O10
    have n3:∀{c o},H9 c=some o->(∀xs,o≠.lst xs)->H10 c=some o:=λ{c o} e n=>b10 _ _ e λz=>by
     simp at z
     rcases z with rfl|rfl|rfl
     ·rw[s9 _ _ (lst8 hsq)]at e;cases e;exact n _ rfl
     ·rw[s9 _ _ (lst8 htq)]at e;cases e;exact n _ rfl
     ·rw[s9 _ _ (lst8 hdq)]at e;cases e;exact n _ rfl
    have sub3:∀{c},c∉[cq,pq,sq,tq,dq]++a0->c∉[sq,tq,dq]:=λ{c} n z=>n (by simp at z;rcases z with z|z|z <;> simp[z])
    have hm10:H10 md=some (.dK (lX ms qs)):=n3 (s9 _ _ hmd8) (λ_ z=>nomatch z)
    have hcq10:H10 cq=some (.lst (([]:List Addr).map V.ref)):=b10 _ _ (s9 _ _ (lst8 hcq)) (by simp[D.cs,D.ct,D.cd])
    have hp10:Paired (F2 H10 ([cq,pq,sq,tq,dq]++a0)) ms qs:=Paired.cc hp8 λm q #[l,g,e1,e2,e3,n1,n2]=>#[l,g,n3 (s9 _ _ e1) (λ_ z=>nomatch z),b10 _ _ (s9 _ _ e2) (sub3 n1),b10 _ _ (s9 _ _ e3) (sub3 n2),n1,n2]
    apply#[Z,md,_,hm10,λob=>?_]
    have nl:∀{c xs},H10 c=some (.lst xs)->(upd H10 md (.frz ob (.dK (lX ms qs)))) c=some (.lst xs):=λ{c xs} e=>by rw[ai (aX e hm10 (λz=>nomatch z))];exact e
    have nt:∀{c xs},H10 c=some (.tup xs)->(upd H10 md (.frz ob (.dK (lX ms qs)))) c=some (.tup xs):=λ{c xs} e=>by rw[ai (aX e hm10 (λz=>nomatch z))];exact e
    have O11:dQ (upd H10 md (.frz ob (.dK (lX ms qs)))) w md sq cq pq tq dq (cI [] (aL S)):=by
     obtain⟨q10,e1,e2⟩:=O10.sp
     exact#[by rw[ai nwmd];exact O10.w,#[q10,nl e1,Paired.cc e2 λ_ _ e=>nt e],nl O10.tk,nl O10.be,nl O10.own]
    have hp11:Paired (F2 (upd H10 md (.frz ob (.dK (lX ms qs)))) ([cq,pq,sq,tq,dq]++a0)) ms qs:=Paired.cc hp10 λm q #[l,g,e1,e2,e3,n1,n2]=>#[l,g,nt e1,nl e2,nl e3,n1,n2]
    have sub5:∀{c},c∉[cq,pq,sq,tq,dq]++a0->c∉[cq,pq,sq,tq,dq]:=λ{c} n z=>n (Lj _ z)
    apply kk _ w md sq cq pq tq dq (λc o e=>?_) (λc hc=>?_) D (λpl=>#[O11.alike (BA pl (by lia)),#[[],nl hcq10,.nil],#[ob,qs,ae,Paired.cc hp11 λm q #[l,g,e1,e2,e3,n1,n2]=>#[l,g,e1,e2,e3,sub5 n1,sub5 n2]]]) #[ob,qs,ae,hp11]
    ·rw[ai (aq e nmd0)]
     apply b10 _ _ (s9 _ _ (old e)) λz=>?_
     simp at z
     rcases z with rfl|rfl|rfl
     ·rw[nsq0]at e;cases e
     ·rw[ntq0]at e;cases e
     ·rw[ndq0]at e;cases e
    ·simp at hc
     rcases hc with rfl|rfl|rfl|rfl|rfl|rfl|rfl
     ·exact nw
     ·exact nmd0
     ·exact nsq0
     ·exact ncq0
     ·exact npq0
     ·exact ntq0
     ·exact ndq0
end Uf
namespace UfTs
open PySem PyProof.Rows
def yI:Bool->Keyed->Array Keyed->Nat->Nat->Nat->StateT SortSt Sem (Option Nat):=sortPriv% PySem.Builtin.gallop
def uJ:Array Keyed->Array Keyed->StateT SortSt Sem (Array Keyed):=sortPriv% PySem.Builtin.mergeLo
def tJ:Array Keyed->Array Keyed->StateT SortSt Sem (Array Keyed):=sortPriv% PySem.Builtin.mergeHi
def oi(prog:Program)(w:World)(A:Around)(s:Shared)(κ:SortKind)(S:Keyed->Prop):Prop:=∀x y,S x->S y->∀(Q:Bool->Shared->Prop) (E:Value->Shared->Prop),(∀b,Q b s)->wpAny (model prog w) A (keyLt' κ x.1 y.1) Q E s
variable {κ:SortKind}{S:Keyed->Prop}
structure Quiet(κ:SortKind)(st:SortSt):Prop where
 kind:kindOf st=κ
 failed:failedOf st=none
def tw(hL:oi prog w A s κ S){x y:Keyed}{st:SortSt}{Q:Option Bool->SortSt->Prop}(q:Quiet κ st)(hx:S x)(hy:S y)(h:∀b,Q (some b) st):wpS (model prog w) A E s (lt' x y) Q st:=by
 rw[lt'_eq]
 apply Ld (NM ?_)
 rw[q.kind]
 apply Ld (OP (Qr (hL x y hx hy _ _ λb=>#[rfl,?_])))
 exact Lx (h b)
def cn{arr:Array Keyed}{i:Nat}{st:SortSt}{Q:Keyed->SortSt->Prop}(hi:i<arr.size)(h:Q arr[i] st):wpS (model prog w) A E s (elem' arr i) Q st:=by
 rw[elem'_eq,QB arr i hi]
 exact Lx h
def Fb(hL:oi prog w A s κ S){i j:Nat}{st:SortSt}{Q:Option Bool->SortSt->Prop}(q:Quiet κ st)(hS:∀x∈arrOf st,S x)(hi:i<(arrOf st).size)(hj:j<(arrOf st).size)(h:∀b,Q (some b) st):wpS (model prog w) A E s (ltAt' i j) Q st:=by
 rw[ltAt'_eq]
 apply Ld (NM ?_)
 exact Ld (cn hi (Ld (cn hj (tw hL q (hS _ (NW hi)) (hS _ (NW hj)) h))))
def fZ(hL:oi prog w A s κ S){left:Bool}{key:Keyed}{arr:Array Keyed}{base n hint:Nat}{st:SortSt}{Q:Option Nat->SortSt->Prop}(q:Quiet κ st)(hk:S key)(hS:∀x∈arr,S x)(hb:base+n<=arr.size)(hh:hint<n)(h:∀k,k<=n->Q (some k) st):wpS (model prog w) A E s (yI left key arr base n hint) Q st:=by
 have bey:∀(i:Nat) {β:Type} (f:Option Bool->StateT SortSt Sem β) (R:β->SortSt->Prop),i<n->(∀b,wpS (model prog w) A E s (f (some b)) R st) ->
   wpS (model prog w) A E s (((do
    let x <-elem' arr (base+i)
    if left=true then lt' x key else do
     let r <-lt' key x
     pure (Option.map (λx=>!x) r)):StateT SortSt Sem (Option Bool)) >>= f) R st:=λi β f R hi hf=>by
  apply Ld (Ld (cn (by lia) ?_))
  have hx:S arr[base+i]:=hS _ (NW _)
  cases left with
  |true =>
   simp only[Od]
   exact tw hL q hx hk hf
  |false =>
   simp only[L5,MT]
   exact Ld (tw hL q hk hx λb=>Lx (hf _))
 delta yI
 apply bey hint _ _ hh λb=>?_
 dsimp only
 cases b with
 |true =>
  simp only[Od]
  apply Ld (Mx (L0 (I:=λ_ c st'=>st'=st/\∃a o,c=(none,a,o)) (Q:=λc st'=>st'=st/\∃a o,c=(none,a,o)) ?_ (λc st' z=>z) #[rfl,_,_,rfl]) ?_)
  ·rintro x c st' _ _ ⟨rfl,l,r,rfl⟩
   dsimp only
   by_cases hge:r>=n-hint
   ·rw[Ls hge]
    exact Lx #[rfl,_,_,rfl]
   ·rw[Le hge]
    apply bey _ _ _ (by lia) λb=>?_
    dsimp only
    cases b with
    |true=>exact Lx #[rfl,_,_,rfl]
    |false=>exact Lx #[rfl,_,_,rfl]
  ·rintro c st' ⟨rfl,a,o,rfl⟩
   dsimp only
   apply Ld (Mx (L0 (I:=λ_ c st''=>st''=st'/\∃lo hi,c=(none,lo,hi)/\hi<=n) (Q:=λc st''=>st''=st'/\∃lo hi,c=(none,lo,hi)/\hi<=n) ?_ (λc st'' z=>z) #[rfl,_,Z,by lia]) ?_)
   ·rintro x c st'' _ _ ⟨rfl,l,r,rfl,hr⟩
    dsimp only
    by_cases hge:l>=r
    ·rw[Ls hge]
     exact Lx #[rfl,l,r,rfl,hr]
    ·rw[Le hge]
     apply bey _ _ _ (by lia) λb=>?_
     dsimp only
     cases b with
     |true=>exact Lx #[rfl,_,Z,hr]
     |false=>exact Lx #[rfl,_,Z,by lia]
   ·rintro c st'' ⟨rfl,l,r,rfl,hr⟩
    exact Lx (h _ hr)
 |false =>
  simp only[L5,MT]
  apply Ld (Mx (L0 (I:=λ_ c st'=>st'=st/\∃a o,c=(none,a,o)) (Q:=λc st'=>st'=st/\∃a o,c=(none,a,o)) ?_ (λc st' z=>z) #[rfl,_,_,rfl]) ?_)
  ·rintro x c st' _ _ ⟨rfl,l,r,rfl⟩
   dsimp only
   by_cases hge:r>=hint+1
   ·rw[Ls hge]
    exact Lx #[rfl,_,_,rfl]
   ·rw[Le hge]
    apply bey _ _ _ (by lia) λb=>?_
    dsimp only
    cases b with
    |true=>exact Lx #[rfl,_,_,rfl]
    |false=>exact Lx #[rfl,_,_,rfl]
  ·rintro c st' ⟨rfl,a,o,rfl⟩
   dsimp only
   apply Ld (Mx (L0 (I:=λ_ c st''=>st''=st'/\∃lo hi,c=(none,lo,hi)/\hi<=n) (Q:=λc st''=>st''=st'/\∃lo hi,c=(none,lo,hi)/\hi<=n) ?_ (λc st'' z=>z) #[rfl,_,Z,by lia]) ?_)
   ·rintro x c st'' _ _ ⟨rfl,l,r,rfl,hr⟩
    dsimp only
    by_cases hge:l>=r
    ·rw[Ls hge]
     exact Lx #[rfl,l,r,rfl,hr]
    ·rw[Le hge]
     apply bey _ _ _ (by lia) λb=>?_
     dsimp only
     cases b with
     |true=>exact Lx #[rfl,_,Z,hr]
     |false=>exact Lx #[rfl,_,Z,by lia]
   ·rintro c st'' ⟨rfl,l,r,rfl,hr⟩
    exact Lx (h _ hr)
end UfTs
namespace UfTs
open PySem PyProof.Rows
def Al(S:Keyed->Prop)(xs:Array Keyed):Prop:=∀x∈xs,S x
section
variable {S:Keyed->Prop}{xs ys:Array Keyed}
theorem Al.push{x:Keyed}(h:Al S xs)(hx:S x):Al S (xs.push x):=λy hy=>by
 rcases Array.mem_push.mp hy with z|z
 ·exact h y z
 ·rw[z];exact hx
def Al.app(h:Al S xs)(k:Al S ys):Al S (xs++ys):=λy hy=>(Array.mem_append.mp hy).elim (h y) (k y)
def Al.ext{i j:Nat}(h:Al S xs):Al S (xs.extract i j):=λy hy=>h y (by
 obtain⟨k,hk,e⟩:=Array.mem_iff_getElem.mp hy
 rw[Array.getElem_extract]at e
 rw[<-e]
 exact NW _)
def Al.rev(h:Al S xs):Al S xs.reverse:=λy hy=>h y (Array.mem_reverse.mp hy)
def Al.one{x:Keyed}(hx:S x):Al S (List.toArray [x]):=λy hy=>by
 have:y=x:=by simpa using hy
 rw[this];exact hx
def Al.at{i:Nat}(h:Al S xs)(hi:i<xs.size):S xs[i]:=h _ (NW hi)
end
abbrev gs(st:SortSt)(g:Nat):SortSt:=SortSt.mk' (kindOf st) (arrOf st) (pendingOf st) g (failedOf st)
section
variable {prog:Program}{w:World}{A:Around}{E:Value->Shared->Prop}{s:Shared}{κ:SortKind}{S:Keyed->Prop}
def mF{g:Nat}{st:SortSt}{Q:Unit->SortSt->Prop}(h:Q () (gs st g)):wpS (model prog w) A E s ((sortPriv% PySem.Builtin.setMinGallop) g) Q st:=Nj h
inductive Lo(S:Keyed->Prop)(a b:Array Keyed)(k:Nat)(out:Array Keyed)(ia ib:Nat):Prop
 |mk (al:Al S out) (la:ia+2<=a.size) (lb:ib+1<=b.size) (gt:k<=ia+ib)
def aR{α:Type}{c:Prop}[Decidable c]{m n:StateT SortSt Sem α}{Q:α->SortSt->Prop}{st:SortSt}(h1:c->wpS (model prog w) A E s m Q st)(h2:¬c->wpS (model prog w) A E s n Q st):wpS (model prog w) A E s (if c then m else n) Q st:=by
 by_cases z:c
 ·rw[Ls z];exact h1 z
 ·rw[Le z];exact h2 z
section
variable {α γ δ:Type}{Q:α->SortSt->Prop}{st:SortSt}
def wY{c:γ->Prop}[∀z,Decidable (c z)]{m n:γ->StateT SortSt Sem α}(g:γ->γ)(hm:∀z,m z=n (g z))(h:∀z,wpS (model prog w) A E s (n z) Q st)(z:γ):wpS (model prog w) A E s (if c z then m z else n z) Q st:=aR (λ_=>hm z ▸ h _) λ_=>h z
def mE{A1 A2 A3 B c:γ->δ->Prop}[∀y z,Decidable (c y z)]{m n:γ->δ->StateT SortSt Sem α}(h:∀y z,A1 y z->A2 y z->A3 y z->wpS (model prog w) A E s (n y z) Q st)(hm:(∀y z,A1 y z->A2 y z->A3 y z->wpS (model prog w) A E s (n y z) Q st)->∀y z,A1 y z->A2 y z->A3 y z->B y z->wpS (model prog w) A E s (m y z) Q st)(y:γ)(z:δ)(a1:A1 y z)(a2:A2 y z)(a3:A3 y z)(b:B y z):wpS (model prog w) A E s (if c y z then m y z else n y z) Q st:=aR (λ_=>hm h y z a1 a2 a3 b) λ_=>h y z a1 a2 a3
end
def vc(hL:oi prog w A s κ S){a b:Array Keyed}{st:SortSt}{Q:Array Keyed->SortSt->Prop}(q:Quiet κ st)(ha:Al S a)(hb:Al S b)(na:1<=a.size)(nb:1<=b.size)(h:∀r g,Al S r->Q r (gs st g)):wpS (model prog w) A E s (uJ a b) Q st:=by
 delta uJ
 apply Ld (OP (MV #[rfl,?_]))
 apply Ld (cn (by lia) ?_)
 have h0:=hb.at (i:=0) (by lia)
 have qg:∀g,Quiet κ (gs st g):=λg=>#[q.kind,q.failed]
 apply aR (λ_=>Lx (h _ (gallopOf st) (((Al.one h0).app ha.ext).app hb.ext))) λn1=>?_
 apply aR (λ_=>Lx (h _ (gallopOf st) (((Al.one h0).app hb.ext).app ha.ext))) λn2=>?_
 have n1:1≠b.size:=by simpa using n1
 have n2:0+1≠a.size:=by simpa using n2
 apply Ld (NM ?_)
 apply Ld (Mx (L0 (I:=λx c st'=>∃out ia ib mg g,c=(none,out,ia,ib,mg)/\st'=gs st g/\Lo S a b (x+1) out ia ib) (Q:=λc st'=>∃r rest g,c=(some r,rest)/\Al S r/\st'=gs st g) ?step ?fin #[_,_,_,_,gallopOf st,rfl,rfl,Al.one h0,by lia,by lia,by lia]) ?post)
 case fin =>
  rintro c st' ⟨out,ia,ib,mg,g,rfl,rfl,al,la,lb,gt⟩
  lia
 case post =>
  rintro c st' ⟨r,rest,g,rfl,al,rfl⟩
  exact Lx (h _ _ al)
 case step =>
  rintro x c st' _ hx ⟨out,ia,ib,mg,g,rfl,rfl,lo⟩
  apply Ld (Mx (L0 (I:=λy c st''=>st''=gs st g/\∃out ia ib ac bc,c=(none,out,ia,ib,ac,bc)/\Lo S a b (x+1+min y 1) out ia ib) (Q:=λc st''=>st''=gs st g/\((∃r rest,c=(some r,rest)/\Al S r)\/∃out ia ib ac bc,c=(none,out,ia,ib,ac,bc)/\Lo S a b (x+2) out ia ib)) ?step1 ?fin1 #[rfl,_,_,_,_,Z,lo]) ?post1)
  case fin1 =>
   rintro c st'' ⟨rfl,out,ia,ib,ac,bc,rfl,al,la,lb,gt⟩
   exact#[rfl,.inr #[_,_,_,_,Z,al,la,lb,by lia]]
  case step1 =>
   rintro y c st'' _ hy ⟨rfl,out,ia,ib,ac,bc,rfl,al,la,lb,gt⟩
   apply Ld (cn (i:=ib) (by lia) (Ld (cn (i:=ia) (by lia) (Ld (tw hL (qg g) (hb.at (by lia)) (ha.at (by lia)) λbw=>?_)))))
   apply aR (λ_=>?_) λ_=>?_
   ·apply Ld (cn (i:=ib) (by lia) ?_)
    have al2:=al.push (hb.at (i:=ib) (by lia))
    apply aR (λ_=>Lx #[rfl,.inl #[_,Z,(al2.app ha.ext).app hb.ext]]) λn3=>?_
    have n3:ib+1≠b.size:=by simpa using n3
    exact aR (λ_=>wpS_pure #[rfl,.inr #[_,_,_,_,Z,al2,la,by first|lia|(dsimp only;lia),by first|lia|(dsimp only;lia)]]) λ_=>wpS_pure #[rfl,_,_,_,_,Z,al2,la,by first|lia|(dsimp only;lia),by first|lia|(dsimp only;lia)]
   ·apply Ld (cn (i:=ia) (by lia) ?_)
    have al2:=al.push (ha.at (i:=ia) (by lia))
    apply aR (λ_=>Lx #[rfl,.inl #[_,Z,(al2.app hb.ext).app ha.ext]]) λn3=>?_
    have n3:ia+1+1≠a.size:=by simpa using n3
    exact aR (λ_=>wpS_pure #[rfl,.inr #[_,_,_,_,Z,al2,by first|lia|(dsimp only;lia),lb,by first|lia|(dsimp only;lia)]]) λ_=>wpS_pure #[rfl,_,_,_,_,Z,al2,by first|lia|(dsimp only;lia),lb,by first|lia|(dsimp only;lia)]
  case post1 =>
   rintro c st'' ⟨rfl,⟨r,rest,rfl,al⟩|⟨out,ia,ib,ac,bc,rfl,lo⟩⟩
   ·exact Lx #[_,_,Z,al,rfl]
   ·apply Ld (OP (MV ⟨rfl,?_⟩))
    apply Ld (Mx (L0 (I:=λy c st''=>∃g out ia ib mg ac bc,st''=gs st g/\c=(none,out,ia,ib,mg,ac,bc)/\Lo S a b (x+2) out ia ib) (Q:=λc st''=>∃g,st''=gs st g/\((∃r rest,c=(some r,rest)/\Al S r)\/∃out ia ib mg ac bc,c=(none,out,ia,ib,mg,ac,bc)/\Lo S a b (x+2) out ia ib)) ?step2 ?fin2 #[g,_,_,_,_,_,Z,rfl,lo]) ?post2)
    case fin2 =>
     rintro c st'' ⟨g,out,ia,ib,mg,ac,bc,rfl,rfl,lo⟩
     exact#[g,rfl,.inr #[_,_,_,_,_,Z,lo]]
    case post2 =>
     rintro c st'' ⟨g,rfl,⟨r,rest,rfl,al⟩|⟨out,ia,ib,mg,ac,bc,rfl,al,la,lb,gt⟩⟩
     ·exact Lx #[_,_,Z,al,rfl]
     ·apply Ld (mF ?_)
      exact Lx #[_,_,_,_,Z,rfl,al,la,lb,by lia]
    case step2 =>
     rintro y c st'' _ hy ⟨g,out,ia,ib,mg,ac,bc,rfl,rfl,al,la,lb,gt⟩
     dsimp only
     revert mg
     apply wY (· - 1) (λ_=>rfl) λmg=>?_
     apply Ld (mF (Ld (cn (i:=ib) (by lia) (Ld (fZ hL (qg _) (hb.at (by lia)) ha (by lia) (by lia) λk hk=>?_)))))
     dsimp only
     revert out ia al la gt hk
     apply mE (λout ia al la gt=>?_) λG out ia al la gt hk=>?_
     ·apply Ld (cn (i:=ib) (by lia) ?_)
      have al:=al.push (hb.at (i:=ib) (by lia))
      apply aR (λ_=>Lx #[Z,.inl #[_,Z,(al.app ha.ext).app hb.ext]]) λn6=>?_
      have n6:ib+1≠b.size:=by simpa using n6
      have lb:ib+1+1<=b.size:=by lia
      have gt:x+2<=ia+(ib+1):=by lia
      apply Ld (cn (i:=ia) (by lia) (Ld (fZ hL (qg _) (ha.at (by lia)) hb (by lia) (by lia) λk1 hk1=>?_)))
      dsimp only
      generalize out.push (b[ib]'_)=out at al ⊢
      clear n6
      generalize ib+1=ib at lb gt hk1 ⊢
      revert hk1;revert gt;revert lb;revert al;revert out ib
      apply mE (λout ib al lb gt=>?_) λG out ib al lb gt hk1=>?_
      ·apply Ld (cn (i:=ia) (by lia) ?_)
       have al:=al.push (ha.at (i:=ia) (by lia))
       apply aR (λ_=>Lx #[Z,.inl #[_,Z,(al.app hb.ext).app ha.ext]]) λn8=>?_
       have n8:ia+1+1≠a.size:=by simpa using n8
       have lo:Lo S a b (x+2) _ (ia+1) ib:=#[al,by lia,lb,by lia]
       exact aR (λ_=>Lx #[Z,.inr #[_,_,_,_,_,Z,lo]]) λ_=>Lx #[_,_,_,_,_,_,Z,rfl,lo]
      ·apply aR (λ_=>Lx ⟨_,rfl,.inl ⟨_,_,rfl,((al.app hb.ext).app ha.ext).app hb.ext⟩⟩) λn7=>?_
       have n7:ib+k1≠b.size:=by simpa using n7
       exact G _ _ (al.app hb.ext) (by lia) (by lia)
     ·apply aR (λ_=>Lx ⟨_,rfl,.inl ⟨_,_,rfl,((al.app ha.ext).app hb.ext).app ha.ext⟩⟩) λn4=>aR (λ_=>Lx ⟨_,rfl,.inl ⟨_,_,rfl,((al.app ha.ext).app ha.ext).app hb.ext⟩⟩) λn5=>?_
      have n4:ia+k+1≠a.size:=by simpa using n4
      have n5:ia+k≠a.size:=by simpa using n5
      exact G _ _ (al.app ha.ext) (by lia) (by lia)
end
section
variable {prog:Program}{w:World}{A:Around}{E:Value->Shared->Prop}{s:Shared}{κ:SortKind}{S:Keyed->Prop}
inductive Hi(S:Keyed->Prop)(a b:Array Keyed)(k:Nat)(na nb:Nat)(out:Array Keyed):Prop
 |mk (al:Al S out) (l1:1<=na) (la:na+1<=a.size) (l2:2<=nb) (lb:nb<=b.size) (gt:na+nb+k<=a.size+b.size)
def wt(hL:oi prog w A s κ S){a b:Array Keyed}{st:SortSt}{Q:Array Keyed->SortSt->Prop}(q:Quiet κ st)(ha:Al S a)(hb:Al S b)(pa:1<=a.size)(pb:1<=b.size)(h:∀r g,Al S r->Q r (gs st g)):wpS (model prog w) A E s (tJ a b) Q st:=by
 delta tJ
 apply Ld (OP (MV #[rfl,?_]))
 apply Ld (cn (i:=a.size-1) (by lia) ?_)
 have h0:=ha.at (i:=a.size-1) (by lia)
 have qg:∀g,Quiet κ (gs st g):=λg=>#[q.kind,q.failed]
 apply aR (λ_=>Lx (h _ (gallopOf st) ((ha.ext.app hb.ext).app (Al.one h0).rev))) λn1=>?_
 apply aR (λ_=>Lx (h _ (gallopOf st) ((hb.ext.app ha.ext).app (Al.one h0).rev))) λn2=>?_
 have n1:a.size-1≠0:=by simpa using n1
 have n2:b.size≠1:=by simpa using n2
 apply Ld (NM ?_)
 apply Ld (Mx (L0 (I:=λx c st'=>∃na nb out mg g,c=(none,na,nb,out,mg)/\st'=gs st g/\Hi S a b (x+1) na nb out) (Q:=λc st'=>∃r rest g,c=(some r,rest)/\Al S r/\st'=gs st g) ?step ?fin #[_,_,_,_,gallopOf st,rfl,rfl,Al.one h0,by lia,by lia,by lia,by lia,by lia]) ?post)
 case fin =>
  rintro c st' ⟨na,nb,out,mg,g,rfl,rfl,al,l1,la,l2,lb,gt⟩
  lia
 case post =>
  rintro c st' ⟨r,rest,g,rfl,al,rfl⟩
  exact Lx (h _ _ al)
 case step =>
  rintro x c st' _ hx ⟨na,nb,out,mg,g,rfl,rfl,hi⟩
  apply Ld (Mx (L0 (I:=λy c st''=>st''=gs st g/\∃na nb out ac bc,c=(none,na,nb,out,ac,bc)/\Hi S a b (x+1+min y 1) na nb out) (Q:=λc st''=>st''=gs st g/\((∃r rest,c=(some r,rest)/\Al S r)\/∃na nb out ac bc,c=(none,na,nb,out,ac,bc)/\Hi S a b (x+2) na nb out)) ?step1 ?fin1 #[rfl,_,_,_,_,Z,hi]) ?post1)
  case fin1 =>
   rintro c st'' ⟨rfl,na,nb,out,ac,bc,rfl,al,l1,la,l2,lb,gt⟩
   exact#[rfl,.inr #[_,_,_,_,Z,al,l1,la,l2,lb,by lia]]
  case step1 =>
   rintro y c st'' _ hy ⟨rfl,na,nb,out,ac,bc,rfl,al,l1,la,l2,lb,gt⟩
   apply Ld (cn (i:=nb-1) (by lia) (Ld (cn (i:=na-1) (by lia) (Ld (tw hL (qg g) (hb.at (by lia)) (ha.at (by lia)) λbw=>?_)))))
   apply aR (λ_=>?_) λ_=>?_
   ·apply Ld (cn (i:=na-1) (by lia) ?_)
    have al2:=al.push (ha.at (i:=na-1) (by lia))
    apply aR (λ_=>Lx #[rfl,.inl #[_,Z,(ha.ext.app hb.ext).app al2.rev]]) λn3=>?_
    have n3:na-1≠0:=by simpa using n3
    exact aR (λ_=>wpS_pure #[rfl,.inr #[_,_,_,_,Z,al2,by first|lia|(dsimp only;lia),by first|lia|(dsimp only;lia),by first|lia|(dsimp only;lia),by first|lia|(dsimp only;lia),by first|lia|(dsimp only;lia)]]) λ_=>wpS_pure #[rfl,_,_,_,_,Z,al2,by first|lia|(dsimp only;lia),by first|lia|(dsimp only;lia),by first|lia|(dsimp only;lia),by first|lia|(dsimp only;lia),by first|lia|(dsimp only;lia)]
   ·apply Ld (cn (i:=nb-1) (by lia) ?_)
    have al2:=al.push (hb.at (i:=nb-1) (by lia))
    apply aR (λ_=>Lx #[rfl,.inl #[_,Z,(hb.ext.app ha.ext).app al2.rev]]) λn3=>?_
    have n3:nb-1≠1:=by simpa using n3
    exact aR (λ_=>wpS_pure #[rfl,.inr #[_,_,_,_,Z,al2,by first|lia|(dsimp only;lia),by first|lia|(dsimp only;lia),by first|lia|(dsimp only;lia),by first|lia|(dsimp only;lia),by first|lia|(dsimp only;lia)]]) λ_=>wpS_pure #[rfl,_,_,_,_,Z,al2,by first|lia|(dsimp only;lia),by first|lia|(dsimp only;lia),by first|lia|(dsimp only;lia),by first|lia|(dsimp only;lia),by first|lia|(dsimp only;lia)]
  case post1 =>
   rintro c st'' ⟨rfl,⟨r,rest,rfl,al⟩|⟨na,nb,out,ac,bc,rfl,hi⟩⟩
   ·exact Lx #[_,_,Z,al,rfl]
   ·apply Ld (OP (MV ⟨rfl,?_⟩))
    apply Ld (Mx (L0 (I:=λy c st''=>∃g na nb out mg ac bc,st''=gs st g/\c=(none,na,nb,out,mg,ac,bc)/\Hi S a b (x+2) na nb out) (Q:=λc st''=>∃g,st''=gs st g/\((∃r rest,c=(some r,rest)/\Al S r)\/∃na nb out mg ac bc,c=(none,na,nb,out,mg,ac,bc)/\Hi S a b (x+2) na nb out)) ?step2 ?fin2 #[g,_,_,_,_,_,Z,rfl,hi]) ?post2)
    case fin2 =>
     rintro c st'' ⟨g,na,nb,out,mg,ac,bc,rfl,rfl,hi⟩
     exact#[g,rfl,.inr #[_,_,_,_,_,Z,hi]]
    case post2 =>
     rintro c st'' ⟨g,rfl,⟨r,rest,rfl,al⟩|⟨na,nb,out,mg,ac,bc,rfl,al,l1,la,l2,lb,gt⟩⟩
     ·exact Lx #[_,_,Z,al,rfl]
     ·apply Ld (mF ?_)
      exact Lx #[_,_,_,_,Z,rfl,al,l1,la,l2,lb,by lia]
    case step2 =>
     rintro y c st'' _ hy ⟨g,na,nb,out,mg,ac,bc,rfl,rfl,al,l1,la,l2,lb,gt⟩
     dsimp only
     revert mg
     apply wY (· - 1) (λ_=>rfl) λmg=>?_
     apply Ld (mF (Ld (cn (i:=nb-1) (by lia) (Ld (fZ hL (qg _) (hb.at (by lia)) ha (by lia) (by lia) λk hk=>?_)))))
     have lg:na+1<=a.size/\na+nb+(x+2)<=a.size+b.size:=#[la,gt]
     dsimp only
     generalize na-k=ac
     clear la gt
     revert hk;revert lg;revert l1;revert al;revert na out
     apply mE (λna out al l1 lg=>?_) λG na out al l1 lg hk=>?_
     ·obtain⟨la,gt⟩:=lg
      apply Ld (cn (i:=nb-1) (by lia) ?_)
      have al:=al.push (hb.at (i:=nb-1) (by lia))
      apply aR (λ_=>Lx #[Z,.inl #[_,Z,(hb.ext.app ha.ext).app al.rev]]) λn6=>?_
      have n6:nb-1≠1:=by simpa using n6
      apply Ld (cn (i:=na-1) (by lia) (Ld (fZ hL (qg _) (ha.at (by lia)) hb (by lia) (by lia) λk1 hk1=>?_)))
      have l2:2<=nb-1:=by lia
      have lg:nb-1<=b.size/\na+(nb-1)+(x+3)<=a.size+b.size:=by lia
      dsimp only
      generalize nb-1-k1=bc
      generalize out.push (b[nb-1]'_)=out at al ⊢
      clear n6 lb gt
      generalize nb-1=nb at l2 lg hk1 ⊢
      revert hk1;revert lg;revert l2;revert al;revert out nb
      apply mE (λout nb al l2 lg=>?_) λG out nb al l2 lg hk1=>?_
      ·apply Ld (cn (i:=na-1) (by lia) ?_)
       have al:=al.push (ha.at (i:=na-1) (by lia))
       apply aR (λ_=>Lx #[Z,.inl #[_,Z,(ha.ext.app hb.ext).app al.rev]]) λn8=>?_
       have n8:na-1≠0:=by simpa using n8
       have hi:Hi S a b (x+2) (na-1) nb _:=#[al,by lia,by lia,l2,lg.1,by lia]
       exact aR (λ_=>Lx #[Z,.inr #[_,_,_,_,_,Z,hi]]) λ_=>Lx #[_,_,_,_,_,_,Z,rfl,hi]
      ·apply aR (λ_=>Lx ⟨_,rfl,.inl ⟨_,_,rfl,(hb.ext.app ha.ext).app (al.app hb.ext.rev).rev⟩⟩) λn7=>aR (λ_=>Lx ⟨_,rfl,.inl ⟨_,_,rfl,(ha.ext.app hb.ext).app (al.app hb.ext.rev).rev⟩⟩) λn9=>?_
       have n7:k1≠1:=by simpa using n7
       have n9:k1≠0:=by simpa using n9
       exact G _ _ (al.app hb.ext.rev) (by lia) (by lia)
     ·apply aR (λ_=>Lx ⟨_,rfl,.inl ⟨_,_,rfl,(ha.ext.app hb.ext).app (al.app ha.ext.rev).rev⟩⟩) λn4=>?_
      have n4:k≠0:=by simpa using n4
      exact G _ _ (al.app ha.ext.rev) (by lia) (by lia)
end
section
variable {prog:Program}{w:World}{A:Around}{E:Value->Shared->Prop}{s:Shared}{κ:SortKind}{S:Keyed->Prop}
structure Cl(κ:SortKind)(S:Keyed->Prop)(n:Nat)(st:SortSt):Prop where
 q:Quiet κ st
 al:Al S (arrOf st)
 sz:(arrOf st).size=n
def Gi{st st':SortSt}{Q:PUnit->SortSt->Prop}(h:Q ⟨⟩ st'):wpS (model prog w) A E s (set st':StateT SortSt Sem PUnit) Q st:=by
 unfold wpS
 rw[StateT.run_set]
 exact K6 #[rfl,h]
def Ay{xs:Array Keyed}{i:Nat}{x:Keyed}(h:Al S xs)(hx:S x):Al S (xs.setIfInBounds i x):=λy hy=>by
 rcases Array.mem_or_eq_of_mem_setIfInBounds hy with z|z
 ·exact h y z
 ·rw[z];exact hx
theorem xf:∀(l:List (Keyed×Nat)) (sa:Nat) (xs:Array Keyed),Al S xs->(∀p∈l,S p.1)->Al S (l.foldl (λa p=>a.setIfInBounds (sa+p.2) p.1) xs)/\(l.foldl (λa p=>a.setIfInBounds (sa+p.2) p.1) xs).size=xs.size
 |[],_,_,h,_=>#[h,rfl]
 |p::l,sa,xs,h,hl=>by
  obtain⟨h1,h2⟩:=xf l sa (xs.setIfInBounds (sa+p.2) p.1) (Ay h (hl p LK)) λq hq=>hl q (LJ _ hq)
  exact#[h1,by rw[MP,h2,Array.size_setIfInBounds]]
def zi{r:Array Keyed}(h:Al S r):∀p∈r.toList.zipIdx,S p.1:=λp hp=>by
 have:=Pn (x:=p) hp
 exact h _ (by simpa using this)
def wC(hL:oi prog w A s κ S){n i sa na sb nb pw pw2:Nat}{st:SortSt}{Q:Bool->SortSt->Prop}(c:Cl κ S n st)(h1:(pendingOf st)[i]?=some (sa,na,pw))(h2:(pendingOf st)[i+1]?=some (sb,nb,pw2))(e:sb=sa+na)(pa:1<=na)(pb:1<=nb)(le:sb+nb<=n)(h:∀st',Cl κ S n st'->pendingOf st'=((pendingOf st).setIfInBounds i (sa,na+nb,pw)).eraseIdxIfInBounds (i+1)->Q true st'):wpS (model prog w) A E s (mergeAt' i) Q st:=by
 delta mergeAt'
 apply Ld (NM ?_)
 have sz:=c.sz
 show wpS (model prog w) A E s (match ((pendingOf st)[i]?,(pendingOf st)[i+1]?) with|(some (sa,na,pw),some (sb,nb,_))=>_|_=>_) Q st
 rw[h1,h2]
 apply Ld (Gi ?_)
 apply Ld (cn (arr:=arrOf st) (i:=sb) (by lia) ?_)
 have q0:Quiet κ (SortSt.mk' (kindOf st) (arrOf st) (((pendingOf st).setIfInBounds i (sa,na+nb,pw)).eraseIdxIfInBounds (i+1)) (gallopOf st) (failedOf st)):=#[c.q.kind,c.q.failed]
 have al:=c.al
 apply Ld (fZ (arr:=arrOf st) hL q0 (al.at (by lia)) al (by lia) (by lia) λk hk=>?_)
 apply aR (λ_=>Lx (h _ #[q0,al,sz] rfl)) λn1=>?_
 have n1:na-k≠0:=by simpa using n1
 apply Ld (cn (arr:=arrOf st) (i:=sa+k+(na-k)-1) (by lia) ?_)
 apply Ld (fZ (arr:=arrOf st) hL q0 (al.at (by lia)) al (by lia) (by lia) λm hm=>?_)
 apply aR (λ_=>Lx (h _ #[q0,al,sz] rfl)) λn2=>?_
 have n2:m≠0:=by simpa using n2
 have fin:∀(r:Array Keyed) (g:Nat),Al S r->Cl κ S n (SortSt.mk' (kindOf st) (r.toList.zipIdx.foldl (λa p=>a.setIfInBounds (sa+k+p.2) p.1) (arrOf st)) (((pendingOf st).setIfInBounds i (sa,na+nb,pw)).eraseIdxIfInBounds (i+1)) g (failedOf st)):=λr g hr=>by
  obtain⟨f1,f2⟩:=xf r.toList.zipIdx (sa+k) (arrOf st) al (zi hr)
  exact#[#[c.q.kind,c.q.failed],f1,by rw[<-sz];exact f2]
 have nn:(failedOf st).isNone=true:=by rw[c.q.failed];rfl
 apply aR (λ_=>?_) λ_=>?_
 ·apply Ld (vc (a:=(arrOf st).extract (sa+k) sb) (b:=(arrOf st).extract sb (sb+m)) hL q0 al.ext al.ext (by rw[Oy];lia) (by rw[Oy];lia) λr g hr=>?_)
  apply Ld (Nj (Ld (NM (Lx ?_))))
  have:=h _ (fin r g hr) rfl
  rw[<-nn]at this
  exact this
 ·apply Ld (wt (a:=(arrOf st).extract (sa+k) sb) (b:=(arrOf st).extract sb (sb+m)) hL q0 al.ext al.ext (by rw[Oy];lia) (by rw[Oy];lia) λr g hr=>?_)
  apply Ld (Nj (Ld (NM (Lx ?_))))
  have:=h _ (fin r g hr) rfl
  rw[<-nn]at this
  exact this
def Cl.arr{n:Nat}{st:SortSt}{xs:Array Keyed}(c:Cl κ S n st)(hp:xs.Perm (arrOf st)):Cl κ S n (setArr st xs) :=
 #[#[c.q.kind,c.q.failed],λy hy=>c.al y (by
  have:=(Array.perm_iff_toList_perm.mp hp).mem_iff.mp (show y∈xs.toList by simpa using hy)
  simpa using this),by rw[<-c.sz];exact hp.size_eq]
def ie{i j n:Nat}{st:SortSt}{Q:Unit->SortSt->Prop}(c:Cl κ S n st)(h:∀st',Cl κ S n st'->pendingOf st'=pendingOf st->Q () st'):wpS (model prog w) A E s (reverseSlice' i j) Q st:=by
 rw[reverseSlice'_eq]
 exact Nj (h _ (c.arr (mirror_perm _ _ _ _)) rfl)
def Dn{i j n:Nat}{st:SortSt}{Q:Unit->SortSt->Prop}(c:Cl κ S n st)(h:∀st',Cl κ S n st'->pendingOf st'=pendingOf st->Q () st'):wpS (model prog w) A E s (moveDown' i j) Q st:=by
 rw[moveDown'_eq]
 exact Nj (h _ (c.arr (bubble_perm _ _ _)) rfl)
def iW(hL:oi prog w A s κ S){i j n:Nat}{st:SortSt}{Q:Option Bool->SortSt->Prop}(c:Cl κ S n st)(hi:i<n)(hj:j<n)(h:∀b,Q (some b) st):wpS (model prog w) A E s (ltAt' i j) Q st :=
 Fb hL c.q c.al (by rw[c.sz];exact hi) (by rw[c.sz];exact hj) h
def zv(hL:oi prog w A s κ S){lo m ok n:Nat}{st:SortSt}{Q:Bool->SortSt->Prop}(c:Cl κ S n st)(le:lo+m<=n)(h:∀st',Cl κ S n st'->pendingOf st'=pendingOf st->Q true st'):wpS (model prog w) A E s (binarySort' lo m ok) Q st:=by
 delta binarySort'
 apply Ld (Mx (L0 (I:=λ_ c st'=>c=(none,())/\Cl κ S n st'/\pendingOf st'=pendingOf st) (Q:=λc st'=>c=(none,())/\Cl κ S n st'/\pendingOf st'=pendingOf st) ?step (λc st' z=>z) #[rfl,c,rfl]) ?post)
 case post =>
  rintro _ st' ⟨rfl,c',p'⟩
  exact Lx (h st' c' p')
 case step =>
  rintro k _ st' _ hk ⟨rfl,c',p'⟩
  apply Ld (Mx (L0 (I:=λ_ c st''=>st''=st'/\∃l r,c=(none,l,r)/\r<=k) (Q:=λc st''=>st''=st'/\∃l r,c=(none,l,r)) ?istep (λc st'' #[e,l,r,z,_]=>#[e,l,r,z]) #[rfl,_,Z,by lia]) ?ipost)
  case istep =>
   rintro x _ st'' _ hx ⟨rfl,l,r,rfl,hr⟩
   apply aR (λ_=>Lx #[rfl,_,_,rfl]) λz=>?_
   have z:¬l>=r:=z
   apply wpS_bind (iW hL c' (by lia) (by dsimp only;lia) λb=>?_)
   exact aR (λ_=>wpS_pure #[rfl,_,Z,by dsimp only;lia]) λ_=>wpS_pure #[rfl,_,Z,hr]
  case ipost =>
   rintro _ st'' ⟨rfl,l,r,rfl⟩
   exact Ld (Dn c' λst3 c3 p3=>Lx #[rfl,c3,p3.trans p'])
def AW(hL:oi prog w A s κ S){lo nrem n:Nat}{st:SortSt}{Q:Option Nat->SortSt->Prop}(c:Cl κ S n st)(le:lo+nrem<=n)(h1:1<=nrem)(h:∀m st',Cl κ S n st'->pendingOf st'=pendingOf st->1<=m->m<=nrem->Q (some m) st'):wpS (model prog w) A E s (countRun' lo nrem) Q st:=by
 delta countRun'
 apply Ld (Mx (L0 (I:=λx c st'=>st'=st/\c=(none,x)) (Q:=λc st'=>st'=st/\∃m,c=(none,m)/\1<=m/\m<=nrem) ?step ?fin #[rfl,rfl]) ?post)
 case fin =>
  rintro _ st' ⟨rfl,rfl⟩
  exact#[rfl,Z,by lia,by lia]
 case step =>
  rintro x _ st' hx1 hx ⟨rfl,rfl⟩
  apply wpS_bind (iW hL c (by dsimp only;lia) (by dsimp only;lia) λb=>?_)
  exact aR (λ_=>wpS_pure #[rfl,Z,by dsimp only;lia,by dsimp only;lia]) λ_=>wpS_pure #[rfl,rfl]
 case post =>
  rintro _ st' ⟨rfl,m,rfl,m1,m2⟩
  apply aR (λ_=>Lx (h m _ c rfl m1 m2)) λz=>?_
  have z:m≠nrem:=by simpa using z
  apply aR (λg=>?_) λg=>?_
  ·apply wpS_bind (iW hL c (by lia) (by dsimp only;lia) λb=>?_)
   apply aR (λ_=>Lx (h m _ c rfl m1 m2)) λ_=>?_
   apply Ld (ie c λst2 c2 p2=>?_)
   apply Ld (OP (MV #[rfl,?_]))
   apply Ld (Mx (L0 (I:=λx c st3=>∃e,c=(none,x,e)/\Cl κ S n st3/\pendingOf st3=pendingOf st') (Q:=λc st3=>∃l e,c=(none,l,e)/\1<=l/\l<=nrem/\Cl κ S n st3/\pendingOf st3=pendingOf st') ?step2 ?fin2 #[Z,c2,p2]) ?post2)
   case fin2 =>
    rintro _ st3 ⟨e,rfl,c3,p3⟩
    exact#[_,e,rfl,by lia,by lia,c3,p3]
   case step2 =>
    rintro x _ st3 hx1 hx ⟨e,rfl,c3,p3⟩
    apply wpS_bind (iW hL c3 (by dsimp only;lia) (by dsimp only;lia) λb=>?_)
    apply aR (λ_=>?_) λ_=>?_
    ·exact aR (λ_=>Ld (ie c3 λst4 c4 p4=>Lx #[Z,c4,p4.trans p3])) λ_=>Lx #[Z,c3,p3]
    ·apply wpS_bind (iW hL c3 (by dsimp only;lia) (by dsimp only;lia) λb=>?_)
     exact aR (λ_=>wpS_pure #[_,Z,by dsimp only;lia,by dsimp only;lia,c3,p3]) λ_=>wpS_pure #[Z,c3,p3]
   case post2 =>
    rintro _ st3 ⟨l,e,rfl,l1,l2,c3,p3⟩
    apply aR (λ_=>Ld (ie c3 λst4 c4 p4=>?_)) λ_=>?_
    ·apply Ld (ie c4 λst5 c5 p5=>?_)
     apply Ld (Mx (L0 (I:=λx c st6=>st6=st5/\c=(none,x)) (Q:=λc st6=>st6=st5/\∃m,c=(none,m)/\1<=m/\m<=nrem) ?_ ?_ #[rfl,rfl]) ?_)
     ·rintro x _ st6 hx1 hx ⟨rfl,rfl⟩
      have hx1:l<=x:=hx1
      apply wpS_bind (iW hL c5 (by dsimp only;lia) (by dsimp only;lia) λb=>?_)
      exact aR (λ_=>wpS_pure #[rfl,Z,by dsimp only;lia,by dsimp only;lia]) λ_=>wpS_pure #[rfl,rfl]
     ·rintro _ st6 ⟨rfl,rfl⟩
      exact#[rfl,Z,by dsimp only;lia,by dsimp only;lia]
     ·rintro _ st6 ⟨rfl,m,rfl,m1,m2⟩
      exact Lx (h m _ c5 (p5.trans (p4.trans p3)) m1 m2)
    ·apply Ld (ie c3 λst5 c5 p5=>?_)
     apply Ld (Mx (L0 (I:=λx c st6=>st6=st5/\c=(none,x)) (Q:=λc st6=>st6=st5/\∃m,c=(none,m)/\1<=m/\m<=nrem) ?_ ?_ #[rfl,rfl]) ?_)
     ·rintro x _ st6 hx1 hx ⟨rfl,rfl⟩
      have hx1:l<=x:=hx1
      apply wpS_bind (iW hL c5 (by dsimp only;lia) (by dsimp only;lia) λb=>?_)
      exact aR (λ_=>wpS_pure #[rfl,Z,by dsimp only;lia,by dsimp only;lia]) λ_=>wpS_pure #[rfl,rfl]
     ·rintro _ st6 ⟨rfl,rfl⟩
      exact#[rfl,Z,by dsimp only;lia,by dsimp only;lia]
     ·rintro _ st6 ⟨rfl,m,rfl,m1,m2⟩
      exact Lx (h m _ c5 (p5.trans p3) m1 m2)
  ·apply Ld (OP (MV ⟨rfl,?_⟩))
   apply Ld (Mx (L0 (I:=λx c st3=>∃e,c=(none,x,e)/\Cl κ S n st3/\pendingOf st3=pendingOf st') (Q:=λc st3=>∃l e,c=(none,l,e)/\1<=l/\l<=nrem/\Cl κ S n st3/\pendingOf st3=pendingOf st') ?step2 ?fin2 #[Z,c,rfl]) ?post2)
   case fin2 =>
    rintro _ st3 ⟨e,rfl,c3,p3⟩
    exact#[_,e,rfl,by lia,by lia,c3,p3]
   case step2 =>
    rintro x _ st3 hx1 hx ⟨e,rfl,c3,p3⟩
    apply wpS_bind (iW hL c3 (by dsimp only;lia) (by dsimp only;lia) λb=>?_)
    apply aR (λ_=>?_) λ_=>?_
    ·exact aR (λ_=>Ld (ie c3 λst4 c4 p4=>Lx #[Z,c4,p4.trans p3])) λ_=>Lx #[Z,c3,p3]
    ·apply wpS_bind (iW hL c3 (by dsimp only;lia) (by dsimp only;lia) λb=>?_)
     exact aR (λ_=>wpS_pure #[_,Z,by dsimp only;lia,by dsimp only;lia,c3,p3]) λ_=>wpS_pure #[Z,c3,p3]
   case post2 =>
    rintro _ st3 ⟨l,e,rfl,l1,l2,c3,p3⟩
    apply aR (λ_=>Ld (ie c3 λst4 c4 p4=>?_)) λ_=>?_
    ·apply Ld (ie c4 λst5 c5 p5=>?_)
     apply Ld (Mx (L0 (I:=λx c st6=>st6=st5/\c=(none,x)) (Q:=λc st6=>st6=st5/\∃m,c=(none,m)/\1<=m/\m<=nrem) ?_ ?_ #[rfl,rfl]) ?_)
     ·rintro x _ st6 hx1 hx ⟨rfl,rfl⟩
      have hx1:l<=x:=hx1
      apply wpS_bind (iW hL c5 (by dsimp only;lia) (by dsimp only;lia) λb=>?_)
      exact aR (λ_=>wpS_pure #[rfl,Z,by dsimp only;lia,by dsimp only;lia]) λ_=>wpS_pure #[rfl,rfl]
     ·rintro _ st6 ⟨rfl,rfl⟩
      exact#[rfl,Z,by dsimp only;lia,by dsimp only;lia]
     ·rintro _ st6 ⟨rfl,m,rfl,m1,m2⟩
      exact Lx (h m _ c5 (p5.trans (p4.trans p3)) m1 m2)
    ·apply Ld (ie c3 λst5 c5 p5=>?_)
     apply Ld (Mx (L0 (I:=λx c st6=>st6=st5/\c=(none,x)) (Q:=λc st6=>st6=st5/\∃m,c=(none,m)/\1<=m/\m<=nrem) ?_ ?_ #[rfl,rfl]) ?_)
     ·rintro x _ st6 hx1 hx ⟨rfl,rfl⟩
      have hx1:l<=x:=hx1
      apply wpS_bind (iW hL c5 (by dsimp only;lia) (by dsimp only;lia) λb=>?_)
      exact aR (λ_=>wpS_pure #[rfl,Z,by dsimp only;lia,by dsimp only;lia]) λ_=>wpS_pure #[rfl,rfl]
     ·rintro _ st6 ⟨rfl,rfl⟩
      exact#[rfl,Z,by dsimp only;lia,by dsimp only;lia]
     ·rintro _ st6 ⟨rfl,m,rfl,m1,m2⟩
      exact Lx (h m _ c5 (p5.trans p3) m1 m2)
end
abbrev Run:=Nat×Nat×Nat
def dF:List Run->Nat->Nat->Prop
 |[],a,b=>a=b
 |(s,n,_)::r,a,b=>s=a/\1<=n/\dF r (a+n) b
theorem dF.le:∀{l:List Run} {a b:Nat},dF l a b->a<=b
 |[],_,_,h=>Pw h
 |(s,n,_)::r,a,b,#[_,h2,h3]=>by have:=dF.le h3;lia
theorem dF.merge:∀{l:List Run} {a b i sa na pw sb nb pw2:Nat},dF l a b->l[i]?=some (sa,na,pw)->l[i+1]?=some (sb,nb,pw2) ->
  (sb=sa+na/\1<=na/\1<=nb/\sb+nb<=b)/\dF ((l.set i (sa,na+nb,pw)).eraseIdx (i+1)) a b
 |[],_,_,_,_,_,_,_,_,_,_,h,_=>by simp at h
 |(s,n,p)::r,a,b,0,sa,na,pw,sb,nb,pw2,#[h1,h2,h3],e1,e2=>by
  have e1:(s,n,p)=(sa,na,pw):=by simpa using e1
  obtain⟨rfl,rfl,rfl⟩:s=sa/\n=na/\p=pw:=by simpa using e1
  match r,h3,e2 with
  |[],_,e2=>simp at e2
  |(s',n',p')::r,#[k1,k2,k3],e2 =>
   have e2:(s',n',p')=(sb,nb,pw2):=by simpa using e2
   cases e2
   have:=dF.le k3
   apply#[#[by lia,h2,k2,by lia],?_]
   show dF ((s,n+nb,p)::r) a b
   exact#[h1,by lia,by rw[<-Nat.add_assoc];exact k3]
 |(s,n,p)::r,a,b,i+1,sa,na,pw,sb,nb,pw2,#[h1,h2,h3],e1,e2=>by
  obtain⟨k1,k2⟩:=dF.merge h3 (i:=i) (by simpa using e1) (by simpa using e2)
  exact#[k1,h1,h2,k2]
theorem dF.snoc:∀{l:List Run} {a b n p:Nat},dF l a b->1<=n->dF (l++[(b,n,p)]) a (b+n)
 |[],a,b,n,p,h,hn=>by
  have h:a=b:=h
  subst h
  exact#[rfl,hn,rfl]
 |(s,m,q)::r,a,b,n,p,#[h1,h2,h3],hn=>#[h1,h2,dF.snoc h3 hn]
theorem dF.mod:∀{l:List Run} {a b:Nat} (i pw:Nat),dF l a b->dF (l.modify i λx=>(x.1,x.2.1,pw)) a b
 |[],_,_,i,pw,h=>by simpa using h
 |(s,n,p)::r,a,b,0,pw,#[h1,h2,h3]=>by
  rw[List.modify_zero_cons]
  exact#[h1,h2,h3]
 |(s,n,p)::r,a,b,i+1,pw,#[h1,h2,h3]=>by
  rw[List.modify_succ_cons]
  exact#[h1,h2,dF.mod i pw h3]
section
variable {prog:Program}{w:World}{A:Around}{E:Value->Shared->Prop}{s:Shared}{κ:SortKind}{S:Keyed->Prop}
def nX(hL:oi prog w A s κ S){n i lo:Nat}{st:SortSt}{Q:Bool->SortSt->Prop}(c:Cl κ S n st)(ct:dF (pendingOf st).toList 0 lo)(le:lo<=n)(hi:i+1<(pendingOf st).size)(h:∀st',Cl κ S n st'->dF (pendingOf st').toList 0 lo->Q true st'):wpS (model prog w) A E s (mergeAt' i) Q st:=by
 obtain⟨⟨sa,na,pw⟩,e1⟩:∃x,(pendingOf st)[i]?=some x:=#[_,QB _ i (by lia)]
 obtain⟨⟨sb,nb,pw2⟩,e2⟩:∃x,(pendingOf st)[i+1]?=some x:=#[_,QB _ (i+1) hi]
 obtain⟨⟨k1,k2,k3,k4⟩,k5⟩:=ct.merge (by rw[MC];exact e1) (by rw[MC];exact e2)
 apply wC hL c e1 e2 k1 k2 k3 (by lia) λst' c' p'=>h st' c' ?_
 rw[p',Array.toList_eraseIdxIfInBounds,Array.toList_setIfInBounds]
 exact k5
def EM(hL:oi prog w A s κ S){n:Nat}{st:SortSt}{Q:Unit->SortSt->Prop}(c:Cl κ S n st)(p:pendingOf st = #[])(h:∀st',Cl κ S n st'->Q () st'):wpS (model prog w) A E s sortRuns' Q st:=by
 delta sortRuns'
 apply Ld (NM ?_)
 have sz:=c.sz
 apply Ld (Mx (L0 (I:=λ_ x st'=>∃lo,x=(none,lo)/\lo<=n/\Cl κ S n st'/\dF (pendingOf st').toList 0 lo) (Q:=λx st'=>∃lo,x=(none,lo)/\lo<=n/\Cl κ S n st'/\dF (pendingOf st').toList 0 lo) ?step (λx st' z=>z) #[0,rfl,by lia,c,by rw[p];rfl]) ?post)
 case post =>
  rintro _ st' ⟨lo,rfl,le,c',ct⟩
  apply Ld (Mx (L0 (I:=λ_ x st2=>x=(none,())/\Cl κ S n st2/\dF (pendingOf st2).toList 0 lo) (Q:=λx st2=>x=(none,())/\Cl κ S n st2) ?_ (λx st2 z=>#[z.1,z.2.1]) #[rfl,c',ct]) ?_)
  ·rintro x _ st2 _ _ ⟨rfl,c2,ct2⟩
   apply Ld (NM ?_)
   apply aR (λ_=>Lx #[rfl,c2]) λz=>?_
   have z:¬(pendingOf st2).size<=1:=z
   apply Ld (nX hL c2 ct2 le ?_ λst3 c3 ct3=>?_)
   ·have any:∀(c:Prop) [Decidable c],(if c then(pendingOf st2).size-2-1 else(pendingOf st2).size-2)+1<(pendingOf st2).size:=λc _=>by split <;> lia
    exact any _
   ·exact aR (λz=>absurd z (by decide)) λ_=>Lx #[rfl,c3,ct3]
  ·rintro _ st2 ⟨rfl,c2⟩
   exact Lx (h _ c2)
 case step =>
  rintro x _ st' _ _ ⟨lo,rfl,le,c',ct⟩
  apply aR (λ_=>Lx #[lo,rfl,le,c',ct]) λz=>?_
  have z:¬lo>=n:=by rw[<-sz];exact z
  apply wpS_bind (AW hL c' (by dsimp only;show lo+((arrOf st).size-lo)<=n;lia) (by dsimp only;show 1<=(arrOf st).size-lo;lia) λm st2 c2 p2 m1 m2=>?_)
  have m2:m<=(arrOf st).size-lo:=m2
  apply aR (λg=>?_) λ_=>?_
  ·have g:m<minRun' (arrOf st).size (arrOf st).size 0:=g
   apply Ld (OP (MV #[rfl,?_]))
   apply Ld (zv hL c2 (show lo+(min ((arrOf st).size-lo) (minRun' (arrOf st).size (arrOf st).size 0))<=n by lia) λst3 c3 p3=>?_)
   apply aR (λz=>absurd z (by decide)) λ_=>?_
   apply Ld (NM ?_)
   generalize hb:(pendingOf st3).back?=ob
   have ct3:dF (pendingOf st3).toList 0 lo:=by rw[p3,p2];exact ct
   cases ob with
   |none =>
    apply Ld (Nj (Lx #[lo+(min ((arrOf st).size-lo) (minRun' (arrOf st).size (arrOf st).size 0)),rfl,by lia,#[#[c3.q.kind,c3.q.failed],c3.al,c3.sz],?_]))
    show dF ((pendingOf st3).push (lo,(min ((arrOf st).size-lo) (minRun' (arrOf st).size (arrOf st).size 0)),0)).toList 0 (lo+(min ((arrOf st).size-lo) (minRun' (arrOf st).size (arrOf st).size 0)))
    rw[Nw]
    exact ct3.snoc (by lia)
   |some y =>
    obtain⟨s1,n1,y3⟩:=y
    apply Ld (Mx (L0 (I:=λ_ x st4=>x=(none,())/\Cl κ S n st4/\dF (pendingOf st4).toList 0 lo) (Q:=λx st4=>x=(none,())/\Cl κ S n st4/\dF (pendingOf st4).toList 0 lo) ?_ (λx st4 z=>z) #[rfl,c3,ct3]) ?_)
    ·rintro x _ st4 _ _ ⟨rfl,c4,ct4⟩
     apply Ld (NM ?_)
     dsimp only
     generalize hp:(if (pendingOf st4).size > 1 then(pendingOf st4)[(pendingOf st4).size-2]? else none)=op
     cases op with
     |none=>exact Lx #[rfl,c4,ct4]
     |some y =>
      obtain⟨y1,y2,older⟩:=y
      have g:(pendingOf st4).size > 1:=by
       apply Ol λg=>?_
       rw[Le g]at hp
       cases hp
      apply aR (λ_=>Lx #[rfl,c4,ct4]) λ_=>?_
      apply Ld (nX hL c4 ct4 le (show(pendingOf st4).size-2+1<(pendingOf st4).size by lia) λst5 c5 ct5=>?_)
      exact aR (λz=>absurd z (by decide)) λ_=>Lx #[rfl,c5,ct5]
    ·rintro _ st4 ⟨rfl,c4,ct4⟩
     apply Ld (Nj ?_)
     apply Ld (Nj (Lx #[lo+(min ((arrOf st).size-lo) (minRun' (arrOf st).size (arrOf st).size 0)),rfl,by lia,#[#[c4.q.kind,c4.q.failed],c4.al,c4.sz],?_]))
     have:=dF.mod ((pendingOf st4).size-1) (power' (arrOf st).size (2*s1+n1) (2*s1+n1+n1+(min ((arrOf st).size-lo) (minRun' (arrOf st).size (arrOf st).size 0))) (arrOf st).size) ct4
     show dF (((pendingOf st4).modify _ _).push (lo,(min ((arrOf st).size-lo) (minRun' (arrOf st).size (arrOf st).size 0)),0)).toList 0 (lo+(min ((arrOf st).size-lo) (minRun' (arrOf st).size (arrOf st).size 0)))
     rw[Nw,Qy]
     exact dF.snoc this (by lia)
  ·apply Ld (NM ?_)
   generalize hb:(pendingOf st2).back?=ob
   have ct3:dF (pendingOf st2).toList 0 lo:=by rw[p2];exact ct
   cases ob with
   |none =>
    apply Ld (Nj (Lx #[lo+m,rfl,by lia,#[#[c2.q.kind,c2.q.failed],c2.al,c2.sz],?_]))
    show dF ((pendingOf st2).push (lo,m,0)).toList 0 (lo+m)
    rw[Nw]
    exact ct3.snoc (by lia)
   |some y =>
    obtain⟨s1,n1,y3⟩:=y
    apply Ld (Mx (L0 (I:=λ_ x st4=>x=(none,())/\Cl κ S n st4/\dF (pendingOf st4).toList 0 lo) (Q:=λx st4=>x=(none,())/\Cl κ S n st4/\dF (pendingOf st4).toList 0 lo) ?_ (λx st4 z=>z) #[rfl,c2,ct3]) ?_)
    ·rintro x _ st4 _ _ ⟨rfl,c4,ct4⟩
     apply Ld (NM ?_)
     dsimp only
     generalize hp:(if (pendingOf st4).size > 1 then(pendingOf st4)[(pendingOf st4).size-2]? else none)=op
     cases op with
     |none=>exact Lx #[rfl,c4,ct4]
     |some y =>
      obtain⟨y1,y2,older⟩:=y
      have g:(pendingOf st4).size > 1:=by
       apply Ol λg=>?_
       rw[Le g]at hp
       cases hp
      apply aR (λ_=>Lx #[rfl,c4,ct4]) λ_=>?_
      apply Ld (nX hL c4 ct4 le (show(pendingOf st4).size-2+1<(pendingOf st4).size by lia) λst5 c5 ct5=>?_)
      exact aR (λz=>absurd z (by decide)) λ_=>Lx #[rfl,c5,ct5]
    ·rintro _ st4 ⟨rfl,c4,ct4⟩
     apply Ld (Nj ?_)
     apply Ld (Nj (Lx #[lo+m,rfl,by lia,#[#[c4.q.kind,c4.q.failed],c4.al,c4.sz],?_]))
     have:=dF.mod ((pendingOf st4).size-1) (power' (arrOf st).size (2*s1+n1) (2*s1+n1+n1+m) (arrOf st).size) ct4
     show dF (((pendingOf st4).modify _ _).push (lo,m,0)).toList 0 (lo+m)
     rw[Nw,Qy]
     exact dF.snoc this (by lia)
end
open PySem.Spec
structure IP(h:Heap)(p:Addr)(x:Str)(tk:Tok)(q:Addr)(its:List Value)(ns:List Int):Prop where
 p:IsTup h p (List.toArray [.str x tk,.ref q])
 q:IsTup h q its.toArray
 i:IntsAre its ns
def zj(h:Heap)(v:Value):Prop:=∃p x tk q its ns,v=.ref p/\IP h p x tk q its ns
theorem zj.keeps{h h':Heap}{v:Value}(z:zj h v)(hk:∀b o,h.get? b=some o->h'.get? b=some o):zj h' v:=by
 obtain⟨p,x,tk,q,its,ns,rfl,a,b,c⟩:=z
 exact#[p,x,tk,q,its,ns,rfl,a.keeps hk,b.keeps hk,c]
def Ea{p q:Addr}{a b:List Int}{its its2:List Value}(p1:IsTup s.heap p its.toArray)(p2:IsTup s.heap q its2.toArray)(i1:IntsAre its a)(i2:IntsAre its2 b)(hu:A.units<cLine):∃k,SeqAt.EqAt A s (.ref p) (.ref q) k:=by
 by_cases e:p=q
 ·subst e
  exact#[true,NP _]
 ·have all:∀(v w:Value),v∈its->w∈its2->∃k,SeqAt.EqAt A.in1 s v w k:=λv w hv hw=>by
   obtain⟨n,t,rfl⟩:=i1.all v hv
   obtain⟨m,u,rfl⟩:=i2.all w hw
   exact#[_,L2.iV (x:=.int m) (y:=.int n) #[_,rfl] #[_,rfl] rfl rfl]
  have:∃e:Nat->Bool,∀j (h1:j<its.toArray.size) (h2:j<its2.toArray.size),SeqAt.EqAt A.in1 s its.toArray[j] its2.toArray[j] (e j):=by
   have c:∀j,∃k,∀(h1:j<its.toArray.size) (h2:j<its2.toArray.size),SeqAt.EqAt A.in1 s its.toArray[j] its2.toArray[j] k:=λj=>by
    by_cases h1:j<its.toArray.size
    ·by_cases h2:j<its2.toArray.size
     ·obtain⟨k,hk⟩:=all its.toArray[j] its2.toArray[j] (by simp) (by simp)
      exact#[k,λ_ _=>hk]
     ·exact#[true,λ_ z=>absurd z h2]
    ·exact#[true,λz=>absurd z h1]
   exact#[λj=>Classical.choose (c j),λj=>Classical.choose_spec (c j)]
  obtain⟨f,hf⟩:=this
  exact#[_,.of_refs e (NV (A:=A) p1 p2 hu hf)]
def E3{b:Bool}{x y:Str}{t u:Tok}{Q:Bool->Shared->Prop}(h:∀b,Q b s):wpAny (model prog w) A (oneLt' b (.str x t) (.str y u)) Q E s:=by
 cases b with
 |true=>exact oneLt_str (h _)
 |false =>
  rw[oneLt'_eq]
  simp only[L5,MT]
  exact K3 (lt_str (Mf (h _)))
def Ez{p q:Addr}{a b:List Int}{its its2:List Value}{Q:Bool->Shared->Prop}(p1:IsTup s.heap p its.toArray)(p2:IsTup s.heap q its2.toArray)(i1:IntsAre its a)(i2:IntsAre its2 b)(hu:A.units<cLine)(h:∀b,Q b s):wpAny (model prog w) A (oneLt' false (.ref p) (.ref q)) Q E s:=by
 rw[oneLt'_eq]
 simp only[L5,MT]
 exact K3 (HT.wM p1 p2 i1 i2 hu (Mf (h _)))
def Iw{b:Bool}{v u:Value}(hv:zj s.heap v)(hu':zj s.heap u)(hu:A.units<cLine)(Q:Bool->Shared->Prop)(E:Value->Shared->Prop)(h:∀b,Q b s):wpAny (model prog w) A (keyLt' (tuples' b) v u) Q E s:=by
 obtain⟨p,x,tk,q,its,ns,rfl,P1,P2,P3⟩:=hv
 obtain⟨p',x',tk',q',its',ns',rfl,R1,R2,R3⟩:=hu'
 obtain⟨o,ho,hc,n,hd⟩:=P1
 obtain⟨o',ho',hc',n',hd'⟩:=R1
 delta keyLt'
 apply K3 (PK ho hd (K3 (PK ho' hd' ?_)))
 have e1:∃k,SeqAt.EqAt A s (.str x tk) (.str x' tk') k:=#[_,L2.iV (x:=.str x') (y:=.str x) #[_,rfl] #[_,rfl] rfl rfl]
 obtain⟨k1,e1⟩:=e1
 obtain⟨k2,e2⟩:=Ea P2 R2 P3 R3 hu
 show wpAny (model prog w) A (forIn [((Value.str x tk,Value.str x' tk'),0),((Value.ref q,Value.ref q'),1)] (none,()) _ >>= _) Q E s
 rw[Na]
 apply K3 (K3 (K3 (e1 _ _ _ _ ?_)))
 cases k1 with
 |false=>exact K3 (E3 λr=>K6 (K6 (K6 (h _))))
 |true =>
  apply K6 ?_
  dsimp only
  rw[Na]
  apply K3 (K3 (e2 _ _ _ _ ?_))
  cases k2 with
  |false =>
   have:(b&&(1:Nat)==0)=false:=by cases b <;> rfl
   simp only[this]
   exact K3 (Ez P2 R2 P3 R3 hu λr=>K6 (K6 (K6 (h _))))
  |true =>
   apply K6 ?_
   dsimp only
   rw[Pa]
   exact K6 (K6 (h _))
def IsTup.ne{h:Heap}{p a:Addr}{its:Array Value}{xs:Array Value}{n:Nat}(t:IsTup h p its)(ho:h.get? a=some (seqObj "list" xs n)):p≠a:=by
 rintro rfl
 obtain⟨o,e,c,_⟩:=t
 rw[ho]at e
 cases e
 exact absurd (show Value.type "list"=Value.type "tuple" from c) (by decide)
def zj.but{h h':Heap}{v:Value}{a:Addr}{xs:Array Value}{n:Nat}(z:zj h v)(ho:h.get? a=some (seqObj "list" xs n))(hk:∀b o,b≠a->h.get? b=some o->h'.get? b=some o):zj h' v:=by
 obtain⟨p,x,tk,q,its,ns,rfl,a1,b1,c⟩:=z
 have n1:=IsTup.ne a1 ho
 have n2:=IsTup.ne b1 ho
 obtain⟨o1,e1,r1⟩:=a1
 obtain⟨o2,e2,r2⟩:=b1
 exact#[p,x,tk,q,its,ns,rfl,#[o1,hk _ _ n1 e1,r1],#[o2,hk _ _ n2 e2,r2],c]
theorem mT{α β:Type}{f:α->Sem β}{P:β->Prop}{M:Model}:∀(l:List α) {Q:List β->Shared->Prop},(∀v∈l,∀(Q':β->Shared->Prop),(∀r,P r->Q' r s)->wpAny M A (f v) Q' E s)->(∀rs,(∀r∈rs,P r)->Q rs s)->wpAny M A (l.mapM f) Q E s
 |[],Q,_,h=>by
  rw[List.mapM_nil]
  exact K6 (h [] λr hr=>nomatch hr)
 |v::l,Q,hf,h=>by
  rw[List.mapM_cons]
  apply K3 (hf v LK _ λr hr=>K3 (mT l (λu hu=>hf u (LJ _ hu)) λrs hrs=>K6 (h _ λz hz=>?_)))
  rcases Lc.mp hz with e|e
  ·rw[e];exact hr
  ·exact hrs z e
def EV{vs:List Value}{Q:SortKind->Shared->Prop}(hv:∀v∈vs,zj s.heap v)(h:∀b,Q (tuples' b) s):wpAny (model prog w) A (keyKind' vs.toArray) Q E s:=by
 rw[keyKind'_eq,List.mapM_toArray,map_eq_pure_bind]
 apply K3 (K3 (mT (P:=λr=>∃x t,r=some (Value.str x t)) _ (λv hm Q' hq=>?_) λrs hrs=>K6 ?_))
 ·obtain⟨p,x,tk,q,its,ns,rfl,⟨o,ho,hc,n,hd⟩,_,_⟩:=hv v hm
  delta firstOfTuple'
  apply K3 (wpAny_typeOf_ref ho ?_)
  rw[hc]
  apply K3 (PK ho hd ?_)
  exact K6 (hq _ #[x,tk,rfl])
 ·have all:(rs.toArray.all (·.isSome))=true:=by
   rw[List.all_toArray,Mz]
   intro r hr
   obtain⟨x,t,rfl⟩:=hrs r hr
   rfl
  rw[Ls all]
  apply K3 (MV ?_)
  rw[oneTypeOnly'_eq,List.filterMap_toArray,List.mapM_toArray,map_eq_pure_bind]
  apply K3 (K3 (K3 (mT (P:=λ_=>True) _ (λv hm Q' hq=>?_) λts _=>K6 ?_)))
  ·obtain⟨r,hr,e⟩:=Pb.mp hm
   obtain⟨x,t,rfl⟩:=hrs r hr
   cases e
   exact NB (Qk s x t) (hq _ trivial)
  ·cases (List.toArray ts)[0]? with
   |none=>exact K6 (K6 (h _))
   |some t=>exact K6 (K6 (h _))
def rV{a:Addr}{vs:List Value}{n:Nat}{P:Fin->Shared->Prop}(ho:s.heap.get? a=some (seqObj "list" vs.toArray n))(hv:∀v∈vs,zj s.heap v)(hz:vs.length<=sizeLine)(hu:A.units<cLine)
  (h:∀out:Array Value,(∀v∈out,v∈vs)->out.size=vs.length->P (.done (.ret .none)) { s with heap:=sortedHeap s.heap a vs out }):wpAny (model prog w) A (Builtin.«list.sort» #[[.ref a],[]]) P E s:=by
 rw[list_sort_plain]
 have ha:a<s.heap.objs.size:=Li ho
 have hsz:vs.toArray.size=vs.length:=by simp
 apply K3 (PK ho rfl ?_)
 apply K3 (listUpdate_at ho rfl ?_ (hsz:=by rw[hsz];exact hz))
 obtain⟨e1,ho1⟩:∃e1,(s.heap.update a (Obj.mapSeq λ_=>#[])).get? a=some (seqObj "list" #[] e1):=#[_,get?_update_seq ho (λ_=>#[])]
 apply K3 (seqEpoch_at ho1 rfl ?_)
 apply K3 (wpAny_newTuple ?_ (by simpa using hz))
 apply K3 (Pm ?_)
 apply Mn ?_
 have ho6:(((s.heap.update a (Obj.mapSeq λ_=>#[])).push (seqObj "tuple" vs.toArray 0)).push (seqObj "list" #[] 0)).get? a=some (seqObj "list" #[] e1):=by
  rw[OG _ _ _ (by rw[Ob,Nh];exact LB (L3 ha)),OG _ _ _ (by rw[Nh];exact LB ha)]
  exact ho1
 show wpAny (model prog w) A _ P E { s with heap:=((s.heap.update a (Obj.mapSeq λ_=>#[])).push (seqObj "tuple" vs.toArray 0)).push (seqObj "list" #[] 0) }
 have kp:∀b o,b≠a->s.heap.get? b=some o->(((s.heap.update a (Obj.mapSeq λ_=>#[])).push (seqObj "tuple" vs.toArray 0)).push (seqObj "list" #[] 0)).get? b=some o:=λb o nb e=>by
  have hb:=Li e
  rw[OG _ _ _ (by rw[Ob,Nh];exact LB (L3 hb)),OG _ _ _ (by rw[Nh];exact LB hb),Heap.get?_update_ne _ _ _ _ nb]
  exact e
 have hv6:∀v∈vs,zj (((s.heap.update a (Obj.mapSeq λ_=>#[])).push (seqObj "tuple" vs.toArray 0)).push (seqObj "list" #[] 0)) v:=λv hm=>(hv v hm).but ho kp
 have fin:∀out:Array Keyed,Al (λp=>p.1=p.2/\p.1∈vs) out->out.size=vs.length->P (.done (.ret .none)) { s with heap:=sortedHeap s.heap a vs (out.map (·.2)) }:=λout al sz=>h _ (λv hm=>by
  obtain⟨p,hp,rfl⟩:=Array.mem_map.mp hm
  obtain⟨z1,z2⟩:=al p hp
  rw[<-z1];exact z2) (by rw[Qi];exact sz)
 have al0:Al (λp:Keyed=>p.1=p.2/\p.1∈vs) (vs.toArray.zip vs.toArray):=λp hp=>by
  have:p∈vs.zip vs:=by simpa using hp
  exact mem_zip_self this
 have sz0:(vs.toArray.zip vs.toArray).size=vs.length:=pairsOf_size vs
 dsimp only
 by_cases h2:vs.toArray.size<2
 ·rw[Ls h2,Ls h2]
  apply K3 (K6 ?_)
  rw[StateT.run_pure]
  apply K3 (K6 ?_)
  dsimp only
  apply K3 (seqEpoch_at ho6 rfl ?_)
  apply K3 (listUpdate_at ho6 rfl ?_ (hsz2:=by rw[Qi];show(pairsOf vs).size<=_;rw[pairsOf_size];lia))
  simp only[bne_self_eq_false,L5,MT]
  exact K6 (fin _ al0 sz0)
 ·rw[Le h2,Le h2]
  apply K3 (EV hv6 λb=>?_)
  apply K3 (MO (EM (κ:=tuples' b) (S:=λp=>p.1=p.2/\p.1∈vs) (n:=vs.length) (st:=SortSt.mk' (tuples' b) (vs.toArray.zip vs.toArray) #[] 7 none) (Q:=λ_ st'=>Cl (tuples' b) (λp=>p.1=p.2/\p.1∈vs) vs.length st') (λx y hx hy Q E hq=>Iw (hv6 _ hx.2) (hv6 _ hy.2) hu Q E hq) #[#[rfl,rfl],al0,sz0] rfl λst' c=>c) ?_ λ_ _ e=>e)
  rintro⟨⟨⟩,st'⟩ s' ⟨rfl,c⟩
  dsimp only
  apply K3 (seqEpoch_at ho6 rfl ?_)
  apply K3 (listUpdate_at ho6 rfl ?_ (hsz2:=by rw[Qi];exact LM (Pw c.sz) (by lia)))
  rw[c.q.failed]
  simp only[bne_self_eq_false,L5,MT]
  exact K6 (fin _ c.al c.sz)
def y8{l:Addr}{vs:List Value}{Q:Value->Shared->Prop}(hl:s.heap.IsList l vs.toArray)(hv:∀v∈vs,zj s.heap v)(hz:vs.length<=sizeLine)(hu:A.units+2<cLine)
  (h:∀h' D (out:Array Value) n,(∀b o,s.heap.get? b=some o->h'.get? b=some o)->s.heap.objs.size<=D->h'.get? D=some (seqObj "list" out n)->(∀v∈out,v∈vs)->out.size=vs.length->Q (.ref D) { s with heap:=h' }):wpAny (model prog w) A (call (.builtin "sorted") [.ref l]) Q E s:=by
 apply Oi kind_sorted plain_sorted entry_sorted (args_sorted1 _) ?_
 unfold Builtin.«sorted»
 apply K3 (m:=checkCount "sorted" 1 1 _) (K6 ?_)
 apply K3 (collect_list hl ?_ (by simpa using hz))
 apply K3 (Pm ?_ hz)
 have k0:∀b o,s.heap.get? b=some o->((s.heap.push (seqObj "list" #[] 0)).update s.heap.objs.size (Obj.mapSeq (· ++ vs.toArray))).get? b=some o:=λb o e=>by
  rw[MK _ _ (M4 (Li e))]
  exact K8 _ e
 have z0:s.heap.objs.size<=((s.heap.push (seqObj "list" #[] 0)).update s.heap.objs.size (Obj.mapSeq (· ++ vs.toArray))).objs.size:=by rw[Nh,Ob];exact Mq _
 generalize ((s.heap.push (seqObj "list" #[] 0)).update s.heap.objs.size (Obj.mapSeq (· ++ vs.toArray)))=h1 at k0 z0 ⊢
 have hoL:(h1.push (seqObj "list" vs.toArray 0)).get? h1.objs.size=some (seqObj "list" vs.toArray 0):=Ly _ rfl
 have hv1:∀v∈vs,zj (h1.push (seqObj "list" vs.toArray 0)) v:=λv hm=>(hv v hm).keeps λb o e=>K8 _ (k0 b o e)
 apply K3 (Mn (MG slot_list_sort #[_,hoL,rfl] entry_list_sort (rV hoL hv1 hz (by show A.units+1+1<cLine;lia) λout o1 o2=>#[Z,?_]) (args_list_sort _)))
 obtain⟨e,he⟩:=sortedHeap_at (h:=h1.push (seqObj "list" vs.toArray 0)) (a:=h1.objs.size) (vs:=vs) (n:=0) (out:=out) hoL
 apply K6 #[Z,h _ _ out e (λb o hb=>?_) z0 he o1 o2]
 have hb1:=k0 b o hb
 rw[sortedHeap_old (LB (Li hb1)) (by rw[Ob];exact L3 (Li hb1))]
 exact K8 _ hb1
def zQ{l:Addr}{vs:List Value}{Q:Value->Shared->Prop}(hl:s.heap.IsList l vs.toArray){ns:List Int}(hI:IntsAre vs ns)(h64:vs.length<64)
  (h:∀h' D (out:Array Value) n,(∀b o,s.heap.get? b=some o->h'.get? b=some o)->s.heap.objs.size<=D->h'.get? D=some (seqObj "list" out n)->(∃ns',IntsAre out.toList ns'/\ns'.Perm ns/\ns'.Pairwise (·<=·))->Q (.ref D) { s with heap:=h' }):wpAny (model prog w) A (call (.builtin "sorted") [.ref l]) Q E s:=by
 have hz:vs.length<=sizeLine:=by rw[L7];lia
 apply Oi kind_sorted plain_sorted entry_sorted (args_sorted1 _) ?_
 unfold Builtin.«sorted»
 apply K3 (m:=checkCount "sorted" 1 1 _) (K6 ?_)
 apply K3 (collect_list hl ?_ (by simpa using hz))
 apply K3 (Pm ?_ hz)
 have k0:∀b o,s.heap.get? b=some o->((s.heap.push (seqObj "list" #[] 0)).update s.heap.objs.size (Obj.mapSeq (· ++ vs.toArray))).get? b=some o:=λb o e=>by
  rw[MK _ _ (M4 (Li e))]
  exact K8 _ e
 have z0:s.heap.objs.size<=((s.heap.push (seqObj "list" #[] 0)).update s.heap.objs.size (Obj.mapSeq (· ++ vs.toArray))).objs.size:=by rw[Nh,Ob];exact Mq _
 generalize ((s.heap.push (seqObj "list" #[] 0)).update s.heap.objs.size (Obj.mapSeq (· ++ vs.toArray)))=h1 at k0 z0 ⊢
 have hoL:(h1.push (seqObj "list" vs.toArray 0)).get? h1.objs.size=some (seqObj "list" vs.toArray 0):=Ly _ rfl
 apply K3 (Mn (MG slot_list_sort #[_,hoL,rfl] entry_list_sort (list_sort_tree hoL hI h64 λout ns' o1 o2 o3=>#[Z,?_]) (args_list_sort _)))
 obtain⟨e,he⟩:=sortedHeap_at (h:=h1.push (seqObj "list" vs.toArray 0)) (a:=h1.objs.size) (vs:=vs) (n:=0) (out:=out) hoL
 apply K6 #[Z,h _ _ out e (λb o hb=>?_) z0 he #[ns',o1,o2,o3]]
 have hb1:=k0 b o hb
 rw[sortedHeap_old (LB (Li hb1)) (by rw[Ob];exact L3 (Li hb1))]
 exact K8 _ hb1
end UfTs
namespace L2
open PySem PySem.Spec PyProof.Rows UfB Uf
def dB(T:List Nat):List Nat:=T.mergeSort λa b=>decide (a<=b)
def eF(T:List Nat):(dB T).Perm T:=Qx _ _
def si(T:List Nat):(dB T).Pairwise (·<=·):=by
 have:=PQ (le:=λa b:Nat=>decide (a<=b)) (λa b c h1 h2=>by simp at *;lia) (λa b=>by simp;lia) T
 exact this.imp λh=>by simpa using h
def Ff{xs T:List Nat}(h:xs.Pairwise (·<=·))(p:xs.Perm T):xs=dB T:=Ou (λa b _ _ h1 h2=>Nat.le_antisymm h1 h2) h (si T) (p.trans (eF T).symm)
def nE{xs ys:List Nat}(p:xs.Perm ys):dB xs=dB ys:=Ff (si xs) ((eF xs).trans p)
def ny{xs:List Nat}{x:Nat}:x∈dB xs↔x∈xs:=(eF xs).mem_iff
def kq(xs:List Nat):(dB xs).length=xs.length:=(eF xs).length_eq
section
variable {X:Cx}
def je(T:List Nat):nats T=(T.map λn:Nat=>(n:Int)).map V.int:=by
 unfold nats
 rw[LY]
 rfl
def Ge(K:PySem.W.Frag):List V->Hp->VK->Prop:=λxs H Q=>∃l T,xs=[.ref l]/\aH K H l (nats T)/\T.length<64/\∀p,H p=none->Q (.ref p) (upd H p (.lst (nats (dB T))))
theorem qe:∀{us:List Value} {ns:List Int},IntsAre us ns->Vals (ns.map V.int) us
 |_,_,.nil=>.nil
 |_,_,.cons n t h=>.cons #[t,rfl] (qe h)
def mU:fR X (.builtin "sorted") (Ge X.K):=by
 intro pins s σ H xs us Q I r h
 obtain⟨l,T,rfl,hl,hz,q⟩:=h
 obtain⟨u,rfl,ru⟩:=vals1 r
 cases ru
 obtain⟨its,rv,pl,_⟩:=I.list hl
 rw[je]at rv
 have i1:=intsAre_of rv
 have l1:its.length=T.length:=by
  have:=rv.length
  rw[K4,K4]at this
  exact this.symm
 apply UfTs.zQ pl.isList i1 (by lia) λh' D out n kp nw at' hZ=>?_
 obtain⟨ns',o1,o2,o3⟩:=hZ
 have e:ns'=(dB T).map (λn:Nat=>(n:Int)):=by
  apply Ou (λa b _ _ h1 h2=>Int.le_antisymm h1 h2) o3 ?_ (o2.trans ((eF T).map _).symm)
  exact OF.mpr ((si T).imp λh=>Int.ofNat_le.mpr h)
 subst e
 have hv:=qe o1
 rw[<-je]at hv
 have hlen:(nats (dB T)).length<=sizeLine:=by rw[bD,kq,L7];lia
 apply#[.ref D,_,I.laid (o:=.lst (nats (dB T))) (t':=s.toks) kp nw (show cw X.prog X.w _ h' D (.lst (nats (dB T))) from#[hlen,out.toList,n,hv,by rw[OT];exact at']),rfl,q _ (I.hok.fresh nw)]
def F8(X:Cx):List V->Hp->VK->Prop:=λxs H Q=>∃(l:Addr) (qs:List Addr),xs=[.ref l]/\aH X.K H l (qs.map V.ref)/\X.A.units+2<cLine/\(∀q∈qs,∃x t T,H q=some (.tup [.str x,.ref t])/\H t=some (.tup (nats T)))/\∀(p:Addr) (qs':List Addr),H p=none->(∀q∈qs',q∈qs)->qs'.length=qs.length->Q (.ref p) (upd H p (.lst (qs'.map V.ref)))
theorem yx:∀{qs:List Addr} {us:List Value},Vals (qs.map V.ref) us->us=qs.map Value.ref
 |[],_,.nil=>rfl
 |q::qs,_,.cons r h=>by
  have r:_=Value.ref q:=r
  rw[r,yx h]
  rfl
theorem xo:∀(qs:List Addr),Vals (qs.map V.ref) (qs.map Value.ref)
 |[]=>.nil
 |q::qs=>.cons rfl (xo qs)
def vR:fR X (.builtin "sorted") (F8 X):=by
 intro pins s σ H xs us Q I r h
 obtain⟨l,qs,rfl,hl,hu,hq,q⟩:=h
 obtain⟨u,rfl,ru⟩:=vals1 r
 cases ru
 obtain⟨its,rv,pl,hz⟩:=I.list hl
 have e:=yx rv
 subst e
 rw[K4]at hz
 apply UfTs.y8 pl.isList (λv hv=>?_) (by rw[K4];exact hz) hu λh' D out n kp nw at' o1 o2=>?_
 ·obtain⟨p,hp,rfl⟩:=LQ.mp hv
  obtain⟨x,t,T,h1,h2⟩:=hq p hp
  obtain⟨i1,r1,p1,_⟩:=I.tuple (cz.of (K:=X.K) h1)
  obtain⟨i2,r2,p2,_⟩:=I.tuple (cz.of (K:=X.K) h2)
  obtain⟨a,b,rfl,⟨tk,rfl⟩,rb⟩:=r1.two
  have rb:b=Value.ref t:=rb
  subst rb
  rw[je]at r2
  exact#[p,x,tk,t,i2,Z,p1,p2,intsAre_of r2]
 ·have:∃qs':List Addr,out.toList=qs'.map Value.ref/\∀z∈qs',z∈qs:=by
   have all:∀(vs:List Value),(∀v∈vs,v∈qs.map Value.ref)->∃qs':List Addr,vs=qs'.map Value.ref/\∀z∈qs',z∈qs:=λvs=>by
    induction vs with
    |nil=>exactλ_=>#[[],rfl,λz hz=>nomatch hz]
    |cons v vs ih =>
     intro hv
     obtain⟨qs',e1,e2⟩:=ih λu hu=>hv u (LJ _ hu)
     obtain⟨p,hp,rfl⟩:=LQ.mp (hv v LK)
     apply#[p::qs',by rw[e1];rfl,λz hz=>?_]
     rcases Lc.mp hz with e|e
     ·rw[e];exact hp
     ·exact e2 z e
   exact all _ λv hv=>o1 v (by simpa using hv)
  obtain⟨qs',e1,e2⟩:=this
  have l1:qs'.length=qs.length:=by
   have:out.toList.length=qs'.length:=by rw[e1,K4]
   rw[MB,o2,K4]at this
   exact this.symm
  have hlen:(qs'.map V.ref).length<=sizeLine:=by rw[K4,l1];exact hz
  exact#[.ref D,_,I.laid (o:=.lst (qs'.map V.ref)) (t':=s.toks) kp nw (show cw X.prog X.w _ h' D (.lst (qs'.map V.ref)) from#[hlen,out.toList,n,by rw[e1];exact xo _,by rw[OT];exact at']),rfl,q _ _ (I.hok.fresh nw) e2 l1]
end
end L2
namespace UfTs
open PySem PySem.Spec PyProof.Rows L2
abbrev Pr:=Str×List Nat
def zX(h:Heap)(k:Pr)(a:Addr):Prop:=∃tk q its,IP h a k.1 tk q its (k.2.map λn:Nat=>(n:Int))
def yl{its:List Value}{a b:List Int}(h:IntsAre its a)(k:IntsAre its b):a=b:=by
 rw[<-h.nums,<-k.nums]
def ym{a b:List Nat}(h:a.map (λn:Nat=>(n:Int))=b.map λn:Nat=>(n:Int)):a=b:=Ph (λ_ _ z=>by lia) |>.mp h
def IsTup.uniq{h:Heap}{a:Addr}{xs ys:Array Value}(p:IsTup h a xs)(q:IsTup h a ys):xs=ys:=by
 obtain⟨o,e,_,n,d⟩:=p
 obtain⟨o',e',_,n',d'⟩:=q
 rw[e]at e'
 cases e'
 rw[d]at d'
 cases d'
 rfl
def zX.inj{h:Heap}{a:Addr}{x y:Pr}(p:zX h x a)(q:zX h y a):x=y:=by
 obtain⟨tk,b,its,p1,p2,p3⟩:=p
 obtain⟨tk',b',its',q1,q2,q3⟩:=q
 have e:=IsTup.uniq p1 q1
 have e1:Value.str x.1 tk=Value.str y.1 tk'/\Value.ref b=Value.ref b':=by simpa using e
 obtain⟨e1,e2⟩:=e1
 cases e2
 have e3:=IsTup.uniq p2 q2
 have e3:its=its':=by simpa using e3
 subst e3
 exact Prod.ext (by injection e1) (ym (yl p3 q3))
def IsTup.FA{h h':Heap}{a d:Addr}{xs:Array Value}{o:Obj}{es ep}(t:IsTup h a xs)(ho:h.get? d=some o)(hd:o.data=.dict es ep)(hs:Heap.SameBut d h h'):IsTup h' a xs:=by
 obtain⟨o',e,c,n,dd⟩:=t
 have hne:a≠d:=by
  rintro rfl
  rw[ho]at e
  cases e
  rw[hd]at dd
  exact nomatch dd
 exact#[o',(hs.2 a hne).trans e,c,n,dd]
def E7{p q:Addr}{a b:List Nat}{its its2:List Value}(p1:IsTup s.heap p its.toArray)(p2:IsTup s.heap q its2.toArray)(i1:IntsAre its (a.map λn:Nat=>(n:Int)))(i2:IntsAre its2 (b.map λn:Nat=>(n:Int)))(hu:A.units<cLine):SeqAt.EqAt A s (.ref p) (.ref q) (decide (a=b)):=by
 have n1:=i1.nums
 have n2:=i2.nums
 by_cases e:p=q
 ·subst e
  have:its=its2:=by simpa using IsTup.uniq p1 p2
  subst this
  rw[Lk (ym (yl i1 i2))]
  exact NP _
 ·have l1:its.length=a.length:=by rw[<-K4 (f:=numOf),n1,K4]
  have l2:its2.length=b.length:=by rw[<-K4 (f:=numOf),n2,K4]
  have:=NV (A:=A) (e:=λj=>decide (a[j]?=b[j]?)) p1 p2 hu λj h1 h2=>by
   have h1':j<its.length:=by simpa using h1
   have h2':j<its2.length:=by simpa using h2
   obtain⟨n,t,e1⟩:=i1.all its[j] (by simp)
   obtain⟨m,u,e2⟩:=i2.all its2[j] (by simp)
   have g1:a[j]?=some a[j]:=K7 (by lia)
   have g2:b[j]?=some b[j]:=K7 (by lia)
   have v1:(a[j]:Int)=n:=by
    have:(its.map numOf)[j]?=some n:=by rw[LD,K7 h1',e1];rfl
    rw[n1,LD,g1]at this
    simpa using this
   have v2:(b[j]:Int)=m:=by
    have:(its2.map numOf)[j]?=some m:=by rw[LD,K7 h2',e2];rfl
    rw[n2,LD,g2]at this
    simpa using this
   show SeqAt.EqAt A.in1 s its[j] its2[j] _
   rw[e1,e2]
   have:=L2.iV (A:=A.in1) (s:=s) (x:=.int m) (y:=.int n) (u:=.int n t) (v:=.int m u) #[_,rfl] #[_,rfl] rfl rfl
   have e5:L2.ue (.int n) (.int m)=decide (a[j]?=b[j]?):=by
    show(n==m)=_
    rw[LV,Nx,LP,g1,g2]
    constructor
    ·intro z
     congr 1
     lia
    ·intro z
     have:=LS z
     lia
   rw[e5]at this
   exact this
  have e6:((List.range (min its.toArray.size its2.toArray.size)).all (λj=>decide (a[j]?=b[j]?))&&its.toArray.size==its2.toArray.size)=decide (a=b):=by
   rw[Lu,Lu,l1,l2,LV,Md,Mz,Nx,LP]
   constructor
   ·rintro⟨h,hl⟩
    apply List.ext_getElem? λj=>?_
    by_cases hj:j<a.length
    ·exact Ml (h j (M7.mpr (by lia)))
    ·rw[Ma (by lia),Ma (by lia)]
   ·rintro rfl
    exact#[λj _=>Lk rfl,rfl]
  rw[e6]at this
  exact .of_refs e this
def AF{a b:Addr}{x y:Pr}(h1:zX s.heap x a)(h2:zX s.heap y b)(hu:A.units+1<cLine):SeqAt.EqAt A s (.ref a) (.ref b) (decide (x=y)):=by
 by_cases e:a=b
 ·subst e
  rw[Lk (h1.inj h2)]
  exact NP _
 ·obtain⟨tk,q,its,p1,p2,p3⟩:=h1
  obtain⟨tk',q',its',r1,r2,r3⟩:=h2
  have:=NV (A:=A) (e:=λj=>if j=0 then decide (x.1=y.1) else decide (x.2=y.2)) p1 r1 (by lia) λj h1 h2=>by
   match j,h1 with
   |0,_ =>
    have:=L2.iV (A:=A.in1) (s:=s) (x:=.str y.1) (y:=.str x.1) (u:=.str x.1 tk) (v:=.str y.1 tk') #[_,rfl] #[_,rfl] rfl rfl
    have e5:L2.ue (.str x.1) (.str y.1)=decide (x.1=y.1):=by
     show(x.1==y.1)=_
     rw[LV,Nx,LP]
    rw[e5]at this
    exact this
   |1,_=>exact E7 p2 r2 p3 r3 (show A.units+1<cLine from hu)
   |j+2,h=>exact absurd h (by simp)
  have e6:((List.range 2).all (λj=>if j=0 then decide (x.1=y.1) else decide (x.2=y.2))&&(2:Nat)==2)=decide (x=y):=by
   rw[LV]
   simp[Om,Prod.ext_iff]
  exact .of_refs e (by rw[<-e6];exact this)
def BO(prog:Program)(w:World)(k:Pr):Int:=reduceHash (Builtin.Tuple.tupleHashOf [(aV prog w).hash (Sum.inr k.1),tupleKeyHash (aV prog w) (k.2.map λn:Nat=>(Sum.inl (n:Int):Key))])
theorem nK{prog:Program}{w:World}:∀{its:List Value} {ns:List Int},IntsAre its ns->ItemsAre (aV prog w) (ns.map Sum.inl) its
 |_,_,.nil=>.nil
 |_,_,.cons n t h=>.cons (oA (k:=Sum.inl n) #[t,rfl]) (nK h)
def Ak{h:Heap}{q:Addr}{its:List Value}{T:List Nat}(p:IsTup h q its.toArray)(i:IntsAre its (T.map λn:Nat=>(n:Int))):IsTupleKey (aV prog w) h (T.map λn:Nat=>(Sum.inl (n:Int):Key)) q:=by
 obtain⟨o,e,c,n,d⟩:=p
 apply#[o,its.toArray,n,e,c,d,?_]
 have:=nK (prog:=prog) (w:=w) i
 rw[LY]at this
 exact this
def DQ{k:Pr}{a:Addr}{Q:Int->Shared->Prop}(hu:A.units+1<cLine)(hk:zX s.heap k a)(h:Q (BO prog w k) { s with toks:=s.toks+(k.2.length+3) }):wpAny (model prog w) A (pyHash (.ref a)) Q E s:=by
 obtain⟨tk,q,its,p1,p2,p3⟩:=hk
 have kt:=Ak (prog:=prog) (w:=w) p2 p3
 obtain⟨o,ho,hc,n,hd⟩:=p1
 have hT:s.TypeIs (.ref a) "tuple":=#[o,ho,hc]
 unfold pyHash
 first|unfold pyHashByItsType|skip
 first|apply K3 (wpAny_cRoomFor_or (.inr (by lia)) ?_)|skip
 apply K3 (NQ hT OH.lookup ?_)
 show wpAny _ _ (if (some (Value.builtin "tuple.__hash__")==some Value.none)=true then _ else _) Q E s
 rw[Le (by rw[beq_builtin_none];exact LI)]
 apply K3 (NQ hT OH.lookup ?_)
 apply K3 (wpAny_callSpecialIfBoundUnlessNone?_slot hT OH (MG OH hT F.entry_tuple_hash ?_ (F.args_tuple_hash_1 _)))
 show wpAny _ _ (Builtin.Tuple.tupleItemsOf (.ref a) >>= _) _ _ s
 apply K3 (wpAny_tupleItemsOf ho hd ?_)
 apply K3 ?_
 rw[<-Pj]
 show wpAny _ _ (forIn [Value.str k.1 tk,Value.ref q] _ _) _ _ s
 rw[Na]
 apply K3 (K3 ((aV prog w).pyHash (k:=Sum.inr k.1) (oA (k:=Sum.inr k.1) #[tk,rfl]) (K6 ?_)))
 show wpAny _ _ (forIn [Value.ref q] _ _) _ _ _
 rw[Na]
 apply K3 (K3 (wpAny_pyHash_tuple (knd:=aV prog w) (show A.units+1<cLine from hu) kt (K6 ?_)))
 show wpAny _ _ (forIn [] _ _) _ _ _
 rw[Pa]
 apply K6 ?_
 show wpAny _ _ (retInt (Builtin.Tuple.tupleHashOf [(aV prog w).hash (Sum.inr k.1),tupleKeyHash (aV prog w) (k.2.map λn:Nat=>(Sum.inl (n:Int):Key))])) _ _ _
 apply wpAny_ret_mkInt ?_
 unfold BO reduceHash at h
 rw[K4]
 have et:s.toks+1+(k.2.length+1)+1=s.toks+(k.2.length+3):=by lia
 show wpAny _ _ (if (decide (-(2:Int) ^ 63<=Builtin.Tuple.tupleHashOf [(aV prog w).hash (Sum.inr k.1),tupleKeyHash (aV prog w) (k.2.map λn:Nat=>(Sum.inl (n:Int):Key))])&&decide (Builtin.Tuple.tupleHashOf [(aV prog w).hash (Sum.inr k.1),tupleKeyHash (aV prog w) (k.2.map λn:Nat=>(Sum.inl (n:Int):Key))]<2 ^ 63))=true then _ else _) Q E { s with toks:=s.toks+1+(k.2.length+1)+1 }
 rw[et]
 generalize Builtin.Tuple.tupleHashOf [(aV prog w).hash (Sum.inr k.1),tupleKeyHash (aV prog w) (k.2.map λn:Nat=>(Sum.inl (n:Int):Key))]=z at h ⊢
 split
 ·rename_i c
  rw[Ls c]at h
  exact K6 h
 ·rename_i c
  rw[Le c]at h
  exact K3 (MV (K6 h))
def vX{q:Addr}{its:List Value}{ns:List Int}{Q:Bool->Shared->Prop}(p:IsTup s.heap q its.toArray)(i:IntsAre its ns)(h:Q true s):wpAny (model prog w) A (eqIsQuiet 7 (.ref q)) Q E s:=by
 obtain⟨o,ho,hc,n,hd⟩:=p
 have hT:s.TypeIs (.ref q) "tuple":=#[o,ho,hc]
 unfold eqIsQuiet
 apply K3 (NQ hT F.slot_tuple_eq.lookup ?_)
 show wpAny _ _ (isInstance (.ref q) (.type "tuple") >>= _) _ _ s
 apply K3 (ON hT isSubtype_tuple_tuple ?_)
 simp only[OM,L5,MT]
 apply K3 (O8 ho hd ?_)
 apply K3 ?_
 show wpAny _ _ (forIn its.toArray _ _) _ _ s
 rw[<-Pj]
 apply wpAny_forIn_list _ (λrest r s'=>r.1=none/\s'=s/\∀v∈rest,carriedByValue v=true) _ ?_ ?_ _ _ #[rfl,rfl,λv hv=>by obtain⟨m,t,rfl⟩:=i.all v hv;rfl]
 ·rintro v rest r s' ⟨hr,rfl,hall⟩
  rw[eqIsQuiet_byValue _ (hall v LK)]
  apply K3 (K6 ?_)
  simp only[OM,L5,MT]
  exact K6 #[rfl,rfl,λu hu'=>hall u (LJ _ hu')]
 ·rintro⟨r1,r2⟩ s' ⟨hr,rfl,_⟩
  simp only at hr
  subst hr
  exact K6 h
def Ce{k:Pr}{a:Addr}{Q:Bool->Shared->Prop}(hk:zX s.heap k a)(h:Q true s):wpAny (model prog w) A (eqIsQuiet 8 (.ref a)) Q E s:=by
 obtain⟨tk,q,its,⟨o,ho,hc,n,hd⟩,p2,p3⟩:=hk
 have hT:s.TypeIs (.ref a) "tuple":=#[o,ho,hc]
 unfold eqIsQuiet
 apply K3 (NQ hT F.slot_tuple_eq.lookup ?_)
 show wpAny _ _ (isInstance (.ref a) (.type "tuple") >>= _) _ _ s
 apply K3 (ON hT isSubtype_tuple_tuple ?_)
 simp only[OM,L5,MT]
 apply K3 (O8 ho hd ?_)
 apply K3 ?_
 show wpAny _ _ (forIn (List.toArray [Value.str k.1 tk,Value.ref q]) _ _) _ _ s
 rw[<-Pj]
 show wpAny _ _ (forIn [Value.str k.1 tk,Value.ref q] _ _) _ _ s
 rw[Na,eqIsQuiet_byValue _ rfl]
 apply K3 (K3 (K6 ?_))
 simp only[OM,L5,MT]
 apply K6 ?_
 dsimp only
 rw[Na]
 apply K3 (K3 (vX p2 p3 ?_))
 simp only[OM,L5,MT]
 apply K6 ?_
 dsimp only
 rw[Pa]
 exact K6 (K6 h)
def gN(prog:Program)(w:World):HeapKind prog w Pr where
 is:=zX
 hash:=BO prog w
 draws:=λk=>k.2.length+3
 room:=λA=>A.units+1<cLine
 inj:=λhx hy=>hx.inj hy
 keeps:=λx ho hd hs=>let #[tk,q,its,p1,p2,p3]:=x;#[tk,q,its,IsTup.FA p1 ho hd hs,IsTup.FA p2 ho hd hs,p3]
 pyHash:=λhu hk h=>DQ hu hk h
 eqBool:=λhu hx hy h=>AF hx hy hu _ _ _ _ h
 quiet:=λhk h=>Ce hk h
end UfTs
namespace L2
open PySem PySem.Spec PyProof.Rows UfTs Uf UfB
def gK(H:Hp)(k:Pr)(p:Addr):Prop:=∃t,H p=some (.tup [.str k.1,.ref t])/\H t=some (.tup (nats k.2))
def gK.same{H H':Hp}{k:Pr}{p:Addr}(h:gK H k p)(s:∀a xs,H a=some (.tup xs)->H' a=some (.tup xs)):gK H' k p:=let #[t,a,b]:=h;#[t,s _ _ a,s _ _ b]
def PD(P:Program)(w:World)(a:Addr)(ks:List (Pr×Addr)):HO:=.ext λh=>∃xs:List (Pr×Addr×Value),xs.map (λx=>(x.1,x.2.1))=ks/\(a==sysModules)=false/\xs.length<=sizeLine/\∃o es ep,h.get? a=some o/\o.ExactDict/\o.data=.dict es ep/\es.toList=xs.map (entryOfKey (gN P w))/\(xs.map (·.1)).Nodup
section
variable {X:Cx}{pins:List (Addr×Obj)}{σ:St}{H:Hp}{s:Shared}{a p:Addr}{k:Pr}{ks:List (Pr×Addr)}{A:Around}{E:Value->Shared->Prop}
def mV(I:Inv X pins σ H s)(h:gK H k p):zX s.heap k p:=by
 obtain⟨t,h1,h2⟩:=h
 obtain⟨i1,r1,p1,_⟩:=I.tuple (cz.of (K:=X.K) h1)
 obtain⟨i2,r2,p2,_⟩:=I.tuple (cz.of (K:=X.K) h2)
 obtain⟨u,v,rfl,⟨tk,rfl⟩,rb⟩:=r1.two
 have rb:v=Value.ref t:=rb
 subst rb
 rw[je]at r2
 exact#[tk,t,i2,p1,p2,intsAre_of r2]
def FK(I:Inv X pins σ H s)(e:H a=some (PD X.prog X.w a ks))(hk:∀z∈ks,gK H z.1 z.2):∃xs:List (Pr×Addr×Value),xs.map (λx=>(x.1,x.2.1))=ks/\(a==sysModules)=false/\xs.length<=sizeLine/\s.heap.DictOfH (gN X.prog X.w) a xs:=by
 obtain⟨⟨xs,e1,e2,e3,o,es,ep,h1,h2,h3,h4,h5⟩,_⟩:=I.hok a _ e
 apply#[xs,e1,e2,e3,o,es,ep,h1,h2,h3,h4,λx hx=>?_,h5]
 exact mV I (hk (x.1,x.2.1) (by rw[<-e1];exact LQ.mpr #[x,hx,rfl]))
def FD{P:Program}{w:World}{H':Hp}{h:Heap}{xs:List (Pr×Addr×Value)}(e1:xs.map (λx=>(x.1,x.2.1))=ks)(e2:(a==sysModules)=false)(e3:xs.length<=sizeLine)(d:h.DictOfH (gN P w) a xs):cw P w H' h a (PD P w a ks):=by
 obtain⟨o,es,ep,h1,h2,h3,h4,_,h5⟩:=d
 apply#[#[xs,e1,e2,e3,o,es,ep,h1,h2,h3,h4,h5],#[o,h1],?_]
 rintro g1 g2 ⟨xs,e1,e2,e3,o,es,ep,h1,r⟩ k
 exact#[xs,e1,e2,e3,o,es,ep,k _ h1,r]
def qf{xs:List (Pr×Addr×Value)}(e:xs.map (λx=>(x.1,x.2.1))=ks):(atKey xs k).isSome=decide (k∈ks.map (·.1)):=by
 unfold atKey
 rw[Po,<-e,LY,LV,List.find?_isSome]
 simp
def Ju(X:Cx)(neg:Bool):R2:=λx y H Q=>∃(p a:Addr) (k:Pr) (ks:List (Pr×Addr)),x=.ref p/\y=.ref a/\X.A.units+2<cLine/\gK H k p/\H a=some (PD X.prog X.w a ks)/\(∀z∈ks,gK H z.1 z.2)/\Q (.bl (if neg then !decide (k∈ks.map (·.1)) else decide (k∈ks.map (·.1)))) H
def Ic:gW X (compareOp .In) (Ju X false):=by
 intro pins s σ H x y v u Q I rx ry h
 obtain⟨p,a,k,ks,rfl,rfl,hu,hp,ha,hk,q⟩:=h
 cases rx
 cases ry
 obtain⟨xs,e1,e2,e3,d⟩:=FK I ha hk
 apply wpAny_in_heap (knd:=gN X.prog X.w) (show X.A.units+1+1<cLine from hu) (mV I hp) e2 d ?_
 rw[qf e1]
 exact#[.bl _,H,I.tok _,rfl,q]
def HK(X:Cx)(td ty tv:TE):TS:=λD σ H=>tv σ H λv H1=>td σ H1 λx H2=>ty σ H2 λy H3=>∃(p a:Addr) (k:Pr) (ks:List (Pr×Addr)),y=.ref p/\x=.ref a/\gK H3 k p/\H3 a=some (PD X.prog X.w a ks)/\(∀z∈ks,gK H3 z.1 z.2)/\k∉ks.map (·.1)/\ks.length<sizeLine/\D.nx σ (upd H3 a (PD X.prog X.w a (ks++[(k,p)])))
def Dp{o i value:Expr}{pos pos':Pos}{td ty tv:TE}(hu:X.A.units+2<cLine)(ho:PE X o td)(hi:PE X i ty)(hv:PE X value tv)(hs:swapsWith value (some (.Subscript o i pos')) pos.line X.env=pure false) :
  PS X (.Assign [.Subscript o i pos'] value pos) (HK X td ty tv):=by
 intro pins s σ H D I h
 apply wpAny_Assign_Subscript (cD (hv pins s σ H _ I h) λr s1 #[v,H1,I1,rv,q1]=>cD (ho pins s1 σ H1 _ I1 q1) λu s2 #[x,H2,I2,rx,q2]=>cD (hi pins s2 σ H2 _ I2 q2) λiv s3 #[y,H3,I3,ry,p,a,k,ks,ey,ex,hp,ha,hk,hn,hl,q3]=>?_) hs
 subst ex
 subst ey
 obtain rfl:u=Value.ref a:=rx
 obtain rfl:iv=Value.ref p:=ry
 obtain⟨xs,e1,e2,e3,d⟩:=FK I3 ha hk
 have hno:atKey xs k=none:=by
  have:=qf (k:=k) e1
  rw[Lq hn]at this
  exact Option.not_isSome_iff_eq_none.mp (by rw[this];exact LI)
 have ll:ks.length=xs.length:=by rw[<-e1,K4]
 apply wpAny_setItem_heap (knd:=gN X.prog X.w) (hsz:=e3) (show X.A.units+1+1<cLine from hu) (mV I3 hp) d λh' d' hs'=>#[σ,_,?_,q3]
 rw[storedH_new hno]at d'
 have he:∃q,h'.get? a=some q:=let #[q,_,_,hq,_]:=d';#[q,hq]
 exact ki I3 (by rw[ha];exact True.intro) hs' he (FD (by rw[Ll,e1];rfl) e2 (by rw[K5];show xs.length+1<=_;lia) d')
def KD(X:Cx)(te:TE):TE:=λσ H Q=>te σ H λv H1=>∃a,H1 a=some (.dK [])/\Q v (upd H1 a (PD X.prog X.w a []))
def Ah{e:Expr}{te:TE}(he:PE X e te):PE X e (KD X te):=by
 intro pins s σ H Q I h
 apply cD (he pins s σ H _ I h) λu s1 hZ=>?_
 obtain⟨v,H1,I1,r1,a,ea,q⟩:=hZ
 obtain⟨z,hd,vs,rel,o,es,ep,h1,h2,h3,_,h4,_⟩:=yF I1.hok ea
 cases rel
 have es0:es.toList=[]:=by
  have:=h4.length
  simpa using this
 have d:s1.heap.DictOfH (gN X.prog X.w) a []:=#[o,es,ep,h1,h2,h3,es0,(λx hx=>by simp at hx),List.nodup_nil]
 exact#[v,_,I1.write (t':=s1.toks) (h':=s1.heap) (x:=a) (e:=a) (by rw[ea];exact True.intro) (.inl rfl) (λb u _ q=>q) #[o,h1] (FD rfl hd (LA _) d),r1,q]
end
end L2
namespace Uf
open PySem L2 UfSrt UfB UfTs
abbrev sk:Stmt:=inClass oG 5
abbrev sj:Stmt:=inClass oG 9
def gI{T:List Nat}{i:Nat}{v:V}(h:(nats T)[i]?=some v):∃n,T[i]?=some n/\v=nat n:=by
 unfold nats at h
 rw[LD]at h
 cases e:T[i]? with
 |none=>rw[e]at h;cases h
 |some n=>rw[e]at h;cases h;exact#[n,rfl,rfl]
structure WA where
 p:Addr
 dx:Addr
 aS:Addr
 aO:Addr
 aN:Addr
 aW:Addr
 aG:Addr
 aB:Addr
 aT:Addr
 aP:Addr
def WA.fs(B:WA):List (Str×V):=xp B.p B.aS B.aO B.aN B.aW B.aG B.aB B.aT B.aP
def WA.l(B:WA):List Addr:=[B.aP,B.aT,B.aB,B.aG,B.aW,B.aN,B.aO,B.aS]
section
variable (B:WA)
def WA.fN:B.fs.lookup ("base_net":Str)=some (.ref B.p):=by
 unfold WA.fs xp
 repeat first|rw[az,Ls rfl]|rw[az,Le (by decide +kernel)]
def WA.fS:B.fs.lookup ("spot_tuples":Str)=some (.ref B.aS):=(nQ _ _ _ _ _ _ _ _ _).s
def WA.fT:B.fs.lookup ("taker_bits":Str)=some (.ref B.aT):=(nQ _ _ _ _ _ _ _ _ _).t
def WA.fB:B.fs.lookup ("beside_bits":Str)=some (.ref B.aB):=(nQ _ _ _ _ _ _ _ _ _).b
def WA.fO:B.fs.lookup ("occurrence_tuples":Str)=some (.ref B.aO):=by
 unfold WA.fs xp
 repeat first|rw[az,Ls rfl]|rw[az,Le (by decide +kernel)]
def WA.fH:B.fs.lookup ("numbers_there":Str)=some (.ref B.aN):=by
 unfold WA.fs xp
 repeat first|rw[az,Ls rfl]|rw[az,Le (by decide +kernel)]
def WA.fW:B.fs.lookup ("own_bits":Str)=some (.ref B.aW):=by
 unfold WA.fs xp
 repeat first|rw[az,Ls rfl]|rw[az,Le (by decide +kernel)]
def WA.fG:B.fs.lookup ("given_bits":Str)=some (.ref B.aG):=by
 unfold WA.fs xp
 repeat first|rw[az,Ls rfl]|rw[az,Le (by decide +kernel)]
end
abbrev kj(H:Hp):List Pr->List Addr->Prop:=Paired (gK H)
structure eR(P:Program)(w:World)(C CW:Addr)(H:Hp)(x:Addr)(B:WA)(ms:List Mv)(S:List Str)(f:WF):Prop where
 ad:EL CW H x B.dx B.fs B.aS B.aT B.aB B.aP f.W
 oc:∃qs,H B.aO=some (.lst (qs.map V.ref))/\kj H f.oc qs/\H B.aN=some (PD P w B.aN (f.oc.zip qs))
 ow:H B.aW=some (.lst (nats f.own))
 gb:∃gs,H B.aG=some (.lst (nats gs))/\gs.length=f.oc.length
 nd:B.l.Nodup
 net:cB C (rm H B.aP) B.p ms S
section
variable {P:Program}{w:World}{C CW x:Addr}{H H':Hp}{B:WA}{ms:List Mv}{S:List Str}{f:WF}
def eR.CU(h:eR P w C CW H x B ms S f):cB C H B.p ms S:=h.net.same (qv _ _)
theorem eR.same(h:eR P w C CW H x B ms S f)(s:au H H'):eR P w C CW H' x B ms S f:=by
 obtain⟨qs,e1,e2,e3⟩:=h.oc
 obtain⟨gs,g1,g2⟩:=h.gb
 obtain⟨q2,i1,i2⟩:=h.ad.sp
 exact#[#[s _ _ h.ad.ins,#[q2,s _ _ i1,Paired.cc i2 λ_ _ e=>s _ _ e],s _ _ h.ad.tk,s _ _ h.ad.be,s _ _ h.ad.pl],#[qs,s _ _ e1,Paired.cc e2 λ_ _ e=>e.same λ_ _ e=>s _ _ e,s _ _ e3],s _ _ h.ow,#[gs,s _ _ g1,g2],h.nd,h.net.same (ik _ s)]
end
def Fx:Sp:=λvs H Q _=>∃b n:Nat,vs=[nat b,nat n]/\Q (.bl (b.testBit n)) H
def Iz:aF ["bits","number"] ["bits","number"] (av EK):=ff
def yp(x n:Nat):decide (V.int (Builtin.bitAnd ((x:Int) / 2 ^ ((n:Nat):Int).toNat) 1)=V.int 1)=x.testBit n:=by
 have e:((x:Int) / 2 ^ ((n:Nat):Int).toNat)=((x / 2 ^ n:Nat):Int):=by
  rw[LW]
  push_cast
  rfl
 have e2:Builtin.bitAnd ((x / 2 ^ n:Nat):Int) 1=((x / 2 ^ n &&& 1:Nat):Int):=jj (x / 2 ^ n) 1
 rw[e,e2,LV,LP,Nat.testBit_eq_decide_div_mod_eq,LP,Nat.and_one_is_mod]
 constructor
 ·intro z
  have:=V.int.inj z
  lia
 ·intro z
  rw[z]
  rfl
def Gx{f:Addr}{fd:FuncData}(F:dN K "has" "has" EK f fd):bf P w K mg base cZ 1 f fd ["bits","number"] Fx:=by
 apply F.oK Iz λcdv A outer s H vs Q E hr h=>?_
 ·obtain⟨b,n,rfl,k⟩:=h
  apply#[_,ak (aK (dP fJ (aw gr (aw rJ (pv 0) (pv 1)) aj) aj (bp _))),?_]
  ac_rfl
  apply#[Z,Z,_,Z,rfl,(by lia),_,Z,rfl,rfl,?_]
  rw[yp]
  exact k
def xD(P:Program)(w:World)(C CW:Addr):Sp:=λvs H Q _=>∃(x:Addr) (B:WA) (ms:List Mv) (S:List Str) (f:WF) (n:Nat),vs=[.ref x,nat n]/\eR P w C CW H x B ms S f/\n<f.W.sp.length/\Q .non H
def Ey:aF ["self","number"] ["self","number"] (av sk):=ff
def Bs{f C CW:Addr}{fd:FuncData}(F:dN K "must_have_spot" "Web.must_have_spot" sk f fd)(T:Txt K mg)(CT:jD K CW):bf P w K mg base cZ 1 f fd ["self","number"] (xD P w C CW):=by
 apply F.oK Ey λcdv A outer s H vs Q E hr h=>?_
 ·obtain⟨x,B,ms,S,f,n,rfl,W,hn,k⟩:=h
  apply#[_,ak (bK (cF (sR m8 uk aj (pv 1) (aA bB rfl T.len cY (aa (bM (pv 0) rfl) af)))) (ak cH) aM),?_]
  ac_rfl
  obtain⟨qs,h1,h2⟩:=W.ad.sp
  have lq:=Lz h2
  apply#[Z,_,Z,rfl,Z,?_]
  rw[Lk (show(0:Int)<=((n:Nat):Int) by lia)]
  apply cy #[Z,x,CW,B.dx,_,Z,W.ad.ins,CT.cl,CT.nS,B.fS,_,qs.length,rfl,.inl #[_,aH.of h1,by rw[K4]],_,Z,rfl,Z,?_]
  rw[Lk (show((n:Nat):Int)<((qs.length:Nat):Int) by lia)]
  exact bz k
def wV(P:Program)(w:World)(C CW:Addr):Sp:=λvs H Q _=>∃(x t:Addr) (fs:List (Str×V)) (dx aS aW:Addr) (f:WF) (T:List Nat),vs=[.ref x,.ref t]/\H x=some (.ins CW dx fs)/\fs.lookup ("spot_tuples":Str)=some (.ref aS)/\fs.lookup ("own_bits":Str)=some (.ref aW)/\(∃qs,H aS=some (.lst (qs.map V.ref))/\fh H f.W.sp qs)/\H aW=some (.lst (nats f.own))/\H t=some (.tup (nats T))/\(∀t∈T,t<f.W.sp.length)/\(∀s g,eY f.W.sp s=some g->g<f.own.length)/\Q (nat (cN f T)) H
def j3:aF ["self","spots","ahead","spot","giver"] ["self","spots"] (av sj):=ff
inductive AhI(H:Hp)(x t:Addr)(f:WF)(T:List Nat)(i:Nat)(σ:St)(H2:Hp):Prop
 |mk (v3 v4:Option V) (q0:σ=[some (.ref x),some (.ref t),some (nat (cN f (T.take i))),v3,v4]) (q1:H2=H)
def Ck{f C CW:Addr}{fd:FuncData}(F:dN K "bits_ahead" "Web.bits_ahead" sj f fd)(CT:jD K CW):bf P w K mg base cZ 1 f fd ["self","spots"] (wV P w C CW):=by
 apply F.oK j3 λcdv A outer s H vs Q E hr h=>?_
 ·obtain⟨x,t,fs,dx,aS,aW,f,T,rfl,ins,lS,lW,⟨qs,hqs,hp⟩,how,ht,tl,gl,kk⟩:=h
  apply#[_,ag (cM 2 j3 aj)
   (ag (bO LC rfl (jM (pv 1)) (fE 3 j3)
    (ag (cM 4 j3 (aQ cL (aQ aI (bM (pv 0) rfl) (pv 3) (λ_ _=>rfl)) aj (λ_ _=>rfl)))
    (ak (bK (aY Dl (pv 4) jG (bp _)) (ak (cM 2 j3 (aw iU (pv 2) (aQ aI (bM (pv 0) rfl) (pv 4) (λ_ _=>rfl))))) aM))))
   (ak (aK (pv 2)))),?_]
  ac_rfl
  have lq:=Lz hp
  apply#[Z,t,rfl,#[_,cz.of ht],my (K:=K) (a:=t) (xs:=nats T) (AhI H x t f T) #[none,none,rfl,rfl] (λi σ H2 _ h=>by cases h;subst_vars;exact cz.of ht) ?_ ?_]
  ·rintro i v σ H2 hi ⟨v3,v4,rfl,rfl⟩
   obtain⟨n,hn,rfl⟩:=gI hi
   have hlt:=tl n (Lg hn)
   have hqn:qs[n]?=some (qs[n]'(by lia)):=K7 (by lia)
   obtain⟨p,hpn,hq⟩:=br hp hqn
   generalize qs[n]'(by lia)=q at hqn hq
   have eg:eY f.W.sp n=p.2:=by unfold eY;rw[hpn];rfl
   have es:cN f (T.take (i+1))=match p.2 with|some g=>cN f (T.take i) ||| f.own.getD g 0|none=>cN f (T.take i):=by
    unfold cN
    rw[ay hn,MZ,<-eg]
    rfl
   apply#[Z,x,CW,dx,_,Z,ins,CT.cl,CT.nS,lS,Z,aS,_,_,Z,rfl,aH.of hqs,aD (j:=n) (by rw[LD,hqn];rfl),q,_,1,Z,rfl,cz.of hq,aD (j:=1) rfl,?_]
   have gl:=gl n
   rw[eg]at gl
   obtain⟨y,g⟩:=p
   cases g with
   |none =>
    apply#[Z,rfl,Z,?_]
    apply bz ?_
    exact#[_,_,by rw[es];rfl,rfl]
   |some g =>
    apply#[Z,rfl,Z,?_]
    apply cy ?_
    apply#[Z,Z,x,CW,dx,_,Z,ins,CT.cl,CT.nW,lW,Z,aW,_,_,Z,rfl,aH.of how,aD (j:=g) (cV (gl g rfl)),_,Z,rfl,?_]
    dsimp only[nat]
    rw[gL]
    exact#[_,_,by rw[es];rfl,rfl]
  ·rintro σ H2 ⟨v3,v4,rfl,rfl⟩
   rw[bD,LH]
   exact#[Z,kk]
abbrev pM:Stmt:=top 59
def dQ.same{H H':Hp}{w md sq cq pq tq dq:Addr}{f:WF}(h:dQ H w md sq cq pq tq dq f)(s:au H H'):dQ H' w md sq cq pq tq dq f:=by
 obtain⟨qs,h1,h2⟩:=h.sp
 exact#[s _ _ h.w,#[qs,s _ _ h1,Paired.cc h2 λ_ _ e=>s _ _ e],s _ _ h.tk,s _ _ h.be,s _ _ h.own]
theorem jv{α β:Type}{R:α->β->Prop}:∀{xs ys:List α} {qs rs:List β},Paired R xs qs->Paired R ys rs->Paired R (xs++ys) (qs++rs)
 |_,_,_,_,.nil,k=>k
 |_,_,_,_,.cons e h,k=>.cons e (jv h k)
def mf(f:WF)(x:Str)(ah:List Nat)(s:Nat):Bool:=decide ((f.W.sp[s]?).map (·.1)=some x)&&ah.all λo=>(f.W.be.getD s 0).testBit o
def kD(f:WF):List Str->List Nat->List (List Nat)
 |[],ah=>[dB ah]
 |x::xs,ah=>(List.range f.W.sp.length).flatMap λs=>if mf f x ah s then kD f xs (ah++[s]) else []
def jw(f:WF)(x:Str)(xs:List Str)(ah:List Nat)(i:Nat):List (List Nat):=(List.range i).flatMap λs=>if mf f x ah s then kD f xs (ah++[s]) else []
def ic(f:WF)(x:Str)(xs:List Str)(ah:List Nat)(i:Nat):jw f x xs ah (i+1)=jw f x xs ah i++if mf f x ah i then kD f xs (ah++[i]) else []:=by
 unfold jw
 rw[Om,Of]
 simp
def Bc{f:WF}{x:Str}{xs:List Str}{ah:List Nat}{i j:Nat}(h:i<=j):(jw f x xs ah i).length<=(jw f x xs ah j).length:=by
 induction j with
 |zero =>
  have:i=0:=by lia
  subst this
  exact La _
 |succ j ih =>
  by_cases e:i=j+1
  ·subst e;exact La _
  ·rw[ic,K5]
   have:=ih (by lia)
   lia
abbrev Hu(H:Hp):List (List Nat)->List Addr->Prop:=Paired λT q=>H q=some (.tup (nats T))
def r6(d:Nat):Sp:=λvs H Q _=>∃(w md sq cq pq tq dq l a:Addr) (f:WF) (xs:List Str) (ah:List Nat),vs=[.ref w,.ref l,.ref a]/\dQ H w md sq cq pq tq dq f/\f.W.be.length=f.W.sp.length/\f.W.sp.length<=250/\H l=some (.lst (aE xs))/\H a=some (.lst (nats ah))/\xs.length<d/\ah.length+xs.length<=8/\(kD f xs ah).length<=sizeLine /\
 ∀H' r qs,au H H'->H r=none->H' r=some (.lst (qs.map V.ref))->Hu H' (kD f xs ah) qs->Q (.ref r) H'
def rW:aF ["_law_web","_law_places","_law_ahead","_law_some","_law_spot"] ["_law_web","_law_places","_law_ahead"] (av pM):=ff
inductive SeI(H:Hp)(w l a sm:Addr)(f:WF)(x:Str)(xs:List Str)(ah:List Nat)(i:Nat)(σ:St)(H2:Hp):Prop
 |mk (v4:Option V) (qs:List Addr) (q0:σ=[some (.ref w),some (.ref l),some (.ref a),some (.ref sm),v4]) (q1:au H H2) (q2:H2 sm=some (.lst (qs.map V.ref))) (q3:Hu H2 (jw f x xs ah i) qs)
def rS{f:Addr}{fd:FuncData}(F:dN K "_law_sets" "_law_sets" pM f fd)(D:Def K mg "_law_sets" pM ["_law_web","_law_places","_law_ahead"] f fd)(T:Txt K mg)(T2:Txt2 mg){d:Nat}
  (GS:bf P w K mg base cZ d f fd ["_law_web","_law_places","_law_ahead"] (r6 d)):bf P w K mg base cZ (d+1) f fd ["_law_web","_law_places","_law_ahead"] (r6 (d+1)):=by
 apply F.oK rW λcdv A outer s H vs Q E hr h=>?_
 ·obtain⟨w,md,sq,cq,pq,tq,dq,l,a,f,xs,ah,rfl,O,bl,gX,hl,ha,ld,l8,hz,kk⟩:=h
  have hu:=c7 hr
  have hsl:=LG
  apply#[_,ag (bK (aY eq_nil (pv 1) (bu af) (bp _)) (ak (aK (bu (aa (a8 cj rfl T.tup eA (aa (aA mU rfl T.aL cf (aa (pv 2) af)) af)) af)))) aM)
   (ag (cM 3 rW (bu af))
   (ag (bO LC rfl (fj rfl T2.rng (aa (aA bB rfl T.len cY (aa (bC hu (pv 0) bX (λ_ _=>rfl)) af)) af)) (fE 4 rW)
    (ak (bK (PW.pt (pw_and (aY fJ (aQ cL (aQ aI (bC hu (pv 0) bX (λ_ _=>rfl)) (pv 4) (λ_ _=>rfl)) aj (λ_ _=>rfl)) (aQ aI (pv 1) aj (λ_ _=>rfl)) (bp _))
      (pw_and1 (ck (aA (gY rfl) rfl T.all qk (aa (cE (N:=["_law_one","_law_web","_law_spot"]) (n:=1) (ci:=[0,4]) rfl (aZ (pv 2))
       (oO rW)
       (λz=>#[kJ 0,cR,dP fJ (aw gr (aw rJ (aQ aI (bC hu (pv 1) bX (λ_ _=>rfl)) (pv 2) (λ_ _=>rfl)) (pv 0)) aj) aj (by with_unfolding_all rfl)])) af))))))
     (ak (a9 (df Lr PySem.F.slot_list_extend PySem.F.type_list_extend zO (pv 3) (aa (eu GS hr rfl D.mg D.fn.kp D.bd .nil bR (aa (pv 0) (aa (bY cT (pv 1) (bV aj) cU) (aa (aw eC (pv 2) (bu (aa (pv 4) af))) af)))) af)))) aM)))
   (ak (aK (pv 3))))),?_]
  ac_rfl
  have huA:=hu
  apply#[Z,LA _,λe0 ne0=>?_]
  obtain⟨H1,eU,s0,he0⟩:=fL ne0 (.lst [])
  rw[eU]
  apply#[l,e0,Z,rfl,L8 (Mq _) hu,aH.of (s0 _ _ hl),aH.of he0,Z,?_]
  cases xs with
  |nil =>
   apply cy ?_
   apply#[Z,a,ah,rfl,aH.of (s0 _ _ ha),by lia,λp np=>#[p,Z,.inl #[aH.of ae,λt nt=>#[by show 1<=sizeLine;lia,λr nr=>?_]]]]
   have s1:au H1 (upd (upd H1 p (.lst (nats (dB ah)))) t (.tup (nats (dB ah)))):=(ao np).trans (ao nt)
   have ht:(upd (upd H1 p (.lst (nats (dB ah)))) t (.tup (nats (dB ah)))) t=some (.tup (nats (dB ah))):=ae
   generalize upd (upd H1 p (.lst (nats (dB ah)))) t (.tup (nats (dB ah)))=H2 at s1 ht nr ⊢
   have s02:=s0.trans s1
   apply kk _ r [t] (s02.trans (ao nr)) (s02.free nr) ae (.cons (ao nr _ _ ht) .nil)
  |cons x xs =>
   apply bz ?_
   apply#[LA _,λsm nsm=>?_]
   have nsm0:H sm=none:=s0.free nsm
   have s1:au H (upd H1 sm (.lst [])):=s0.trans (ao nsm)
   have hsm:(upd H1 sm (.lst [])) sm=some (.lst (([]:List Addr).map V.ref)):=ae
   generalize upd H1 sm (.lst [])=H2 at s1 hsm ⊢
   clear s0 he0 nsm
   obtain⟨qs,hqs,hp⟩:=O.sp
   have lq:=Lz hp
   have hz':(jw f x xs ah f.W.sp.length).length<=sizeLine:=hz
   apply#[Z,w,Z,(O.same s1).kQ,_,qs.length,rfl,.inl #[_,aH.of (s1 _ _ hqs),by rw[K4]],Z,by lia,by lia,g0 (lo:=0) (n:=qs.length) (SeI H w l a sm f x xs ah) #[none,[],rfl,s1,hsm,.nil] ?_ ?_]
   ·rintro i σ H3 hi ⟨v4,rs,rfl,s3,hsm3,tp⟩
    rw[show(0:Int)+(i:Int)=i from OW _]
    have O3:=O.same s3
    have hqn:qs[i]?=some (qs[i]'hi):=K7 hi
    obtain⟨p,hpn,hq⟩:=br hp hqn
    generalize qs[i]'hi=q at hqn hq
    have hl3:=s3 _ _ hl
    have ha3:=s3 _ _ ha
    apply#[Z,w,Z,O3.kQ,Z,sq,_,_,Z,rfl,aH.of (s3 _ _ hqs),aD (j:=i) (by rw[LD,hqn];rfl),q,_,0,Z,rfl,cz.of (s3 _ _ hq),aD (j:=0) rfl,Z,l,_,0,Z,rfl,aH.of hl3,aD (j:=0) rfl,rfl,Z,?_]
    have e1:decide ((f.W.sp[i]?).map (·.1)=some x)=decide (V.str p.1=V.str x):=by
     rw[hpn]
     exact Mi.mpr #[λz=>L6 V.str (LS z),λz=>L6 some (V.str.inj z)]
    have go:∀H4,au H3 H4->mf f x ah i=false->SeI H w l a sm f x xs ah (i+1) [some (.ref w),some (.ref l),some (.ref a),some (.ref sm),some (nat i)] H4:=λH4 s4 z=>by
     apply#[_,rs,rfl,s3.trans s4,s4 _ _ hsm3,?_]
     rw[ic,z]
     simp only[L5,MT,NN]
     exact Paired.cc tp λ_ _ e=>s4 _ _ e
    cases c1:decide (V.str p.1=V.str x) with
    |false =>
     apply bz (bz ?_)
     exact go H3 (λ_ _ e=>e) (by unfold mf;rw[e1,c1];rfl)
    |true =>
     apply cy ?_
     apply#[Z,a,rfl,#[_,aH.of ha3],λz D1 hD=>cv (a:=a) (xs:=nats ah) (λj ys H5=>ys=(ah.take j).map (λo=>V.bl ((f.W.be.getD i 0).testBit o))/\H5 D1=some (.lst ys)/\au H3 H5) #[rfl,ae,ao hD] (λj ys H5 _ p=>aH.of (p.2.2 _ _ ha3)) ?_ ?_]
     ·rintro j vv ys H5 hj ⟨rfl,hys,s5⟩
      obtain⟨o,ho,rfl⟩:=gI hj
      have O5:=O3.same s5
      apply#[Z,w,Z,O5.Cz,Z,dq,_,_,Z,rfl,aH.of O5.be,aD (j:=i) (cV (by lia)),Z,_,Z,rfl,(by lia),_,Z,rfl,rfl,hys,?_,?_,ae,aJ s5 hD]
      ·rw[K4,Lf]
       lia
      ·rw[ay ho,Ll,yp]
       rfl
     rintro ys H5 ⟨rfl,hys,s5⟩
     rw[bD,LH]at hys
     apply#[D1,ah.map λo=>(f.W.be.getD i 0).testBit o,rfl,aH.of (by rw[hys,LY];rfl),Z,?_]
     have e2:(ah.map λo=>(f.W.be.getD i 0).testBit o).all id=ah.all λo=>(f.W.be.getD i 0).testBit o:=by rw[NZ];rfl
     rw[e2]
     cases c2:ah.all λo=>(f.W.be.getD i 0).testBit o with
     |false =>
      apply bz ?_
      exact go H5 s5 (by unfold mf;rw[e1,c1,c2];rfl)
     |true =>
      apply cy ?_
      have fit:mf f x ah i=true:=by unfold mf;rw[e1,c1,c2];rfl
      have s05:=s3.trans s5
      clear hys hD
      apply#[Z,.inl #[rfl,_,aH.of (s5 _ _ hsm3)],Z,Z,Z,l,Z,aH.of (s05 _ _ hl),λl1 nl1=>?_]
      rw[show dR (aE (x::xs)) (some (1:Int)) none=aE xs from FO (x::xs) 1]
      obtain⟨H6,eU,s6,hl1⟩:=fL nl1 (.lst (aE xs))
      rw[eU]
      apply#[Z,Z,by show 1<=sizeLine;lia,λl2 nl2=>?_]
      obtain⟨H7,eU,s7,hl2⟩:=fL nl2 (.lst [V.int (i:Int)])
      rw[eU]
      have s07:=s05.trans (s6.trans s7)
      apply#[a,l2,_,Z,rfl,s07 _ _ ha,hl2,by rw[bD];show ah.length+1<=_;lia,λl3 nl3=>?_]
      rw[show nats ah++[V.int (i:Int)]=nats (ah++[i]) from eI ah i]
      obtain⟨H8,eU,s8,hl3'⟩:=fL nl3 (.lst (nats (ah++[i])))
      rw[eU]
      have s08:=s07.trans s8
      have s58:au H5 H8:=s6.trans (s7.trans s8)
      have hsu:=ic f x xs ah i
      rw[fit,Ls rfl]at hsu
      have hzi:(jw f x xs ah (i+1)).length<=sizeLine:=LM (Bc (by lia)) hz'
      rw[hsu,K5]at hzi
      apply#[w,md,sq,cq,pq,tq,dq,l1,l3,f,xs,ah++[i],rfl,O.same s08,bl,gX,s8 _ _ (s7 _ _ hl1),hl3',(by simp at ld;lia),(by simp at l8 ⊢;lia),by lia,λH9 r ts s9 nr hr9 tp9=>?_]
      have hsm9:=s9 _ _ (s58 _ _ (s5 _ _ hsm3))
      have lt:=Lz tp
      have lt9:=Lz tp9
      apply#[sm,r,_,Z,rfl,hsm9,hr9,by rw[K4,K4,<-lt,<-lt9];exact hzi,?_]
      have s39:au H3 H9:=s5.trans (s58.trans s9)
      have noT:∀{q T},H9 q=some (.tup (nats T))->q≠sm:=λ{q T} e z=>by rw[z,hsm9]at e;cases e
      apply#[_,rs++ts,rfl,aJ (s3.trans s39) nsm0,by rw[ae,Ll],?_]
      rw[hsu]
      have t1:Hu H9 (jw f x xs ah i++kD f xs (ah++[i])) (rs++ts):=jv (Paired.cc tp λ_ _ e=>s39 _ _ e) tp9
      exact Paired.cc t1 λ_ _ e=>by rw[ai (noT e)];exact e
   ·rintro σ H3 ⟨v4,rs,rfl,s3,hsm3,tp⟩
    rw[<-lq]at tp
    exact#[Z,kk _ sm rs s3 nsm0 hsm3 tp]
end Uf
namespace L2
open PySem PySem.Spec PyProof.Rows UfSrt
def F9{xs:List V}{p:V->Bool}{i:Nat}{x:V}(h:xs.all p=true)(e:xs[i]?=some x):p x=true:=Mz.mp h x (Lg e)
def mz{xs:List V}{us:List Value}(r:Vals xs us){i:Nat}{u:Value}(e:us[i]?=some u):∃x,xs[i]?=some x/\RelV x u:=by
 have hl:=r.length
 have hi:=(Lh.mp e).1
 have h1:xs[i]?=some xs[i]:=K7 (by lia)
 obtain⟨w,h2,h3⟩:=r.get h1
 rw[e]at h2
 cases h2
 exact#[_,h1,h3]
section
variable {X:Cx}
inductive Alike(K:PySem.W.Frag)(H:Hp):V->V->Prop
 |flat {v:V}:gE v=true->Alike K H v v
 |tup {p q:Addr} {ts:List V}:cz K H p ts->cz K H q ts->ts.all gE=true->Alike K H (.ref p) (.ref q)
def sY{v:V}(h:gE v=true):ue v v=true:=by
 cases v <;> first|rfl|exact absurd (show false=true from h) LI|(simp[ue])
def Cq{pins:List (Addr×Obj)}{s:Shared}{σ:St}{H:Hp}{A:Around}{x y:V}{u v:Value}(I:Inv X pins σ H s)(h:Alike X.K H x y)(rx:RelV x u)(ry:RelV y v)(hu:A.units<cLine):SeqAt.EqAt A s u v true:=by
 cases h with
 |flat f =>
  have:=iV (A:=A) (s:=s) rx ry f f
  rwa[sY f]at this
 |@tup p q ts h1 h2 f =>
  cases rx
  cases ry
  by_cases e:p=q
  ·subst e
   exact NP _
  ·obtain⟨its,r1,p1,_⟩:=I.tuple h1
   obtain⟨its2,r2,p2,_⟩:=I.tuple h2
   have l1:=r1.length
   have l2:=r2.length
   have:=NV (A:=A) (e:=λ_=>true) p1 p2 hu λj h1 h2=>by
    have h1':j<its.length:=by simpa using h1
    have h2':j<its2.length:=by simpa using h2
    obtain⟨w,e1,e2⟩:=mz r1 (K7 h1')
    obtain⟨w',e3,e4⟩:=mz r2 (K7 h2')
    rw[e1]at e3
    cases e3
    have fw:=F9 f e1
    have:=iV (A:=A.in1) (s:=s) e2 e4 fw fw
    rwa[sY fw]at this
   have e5:((List.range (min its.toArray.size its2.toArray.size)).all (λ_=>true)&&its.toArray.size==its2.toArray.size)=true:=by
    rw[Lu,Lu,<-l1,<-l2]
    simp
   rw[e5]at this
   exact .of_refs e this
def iR{pins:List (Addr×Obj)}{s:Shared}{σ:St}{H:Hp}{A:Around}{xs ys:List V}{us vs:List Value}(I:Inv X pins σ H s)(h:Paired (Alike X.K H) xs ys)(rx:Vals xs us)(ry:Vals ys vs)(hu:A.units<cLine) :
  ∀j (h1:j<us.toArray.size) (h2:j<vs.toArray.size),SeqAt.EqAt A s us.toArray[j] vs.toArray[j] true:=λj h1 h2=>by
 have h1':j<us.length:=by simpa using h1
 have h2':j<vs.length:=by simpa using h2
 obtain⟨w,e1,e2⟩:=mz rx (K7 h1')
 obtain⟨w',e3,e4⟩:=mz ry (K7 h2')
 obtain⟨a,e5,e6⟩:=lV h e3
 rw[e1]at e5
 cases e5
 exact Cq I e6 e2 e4 hu
def Ai(K:PySem.W.Frag)(b:Bool)(A:Around):R2:=λx y H Q=>∃p q xs ys,x=.ref p/\y=.ref q/\A.units+1<cLine/\aH K H p xs/\aH K H q ys/\Paired (Alike K H) xs ys/\Q (.bl b) H
def AN:gW X (compareOp .Eq) (Ai X.K true X.A):=by
 intro pins s σ H x y v u Q I rx ry h
 obtain⟨p,q,xs,ys,rfl,rfl,hu,hp,hq,hal,k⟩:=h
 cases rx
 cases ry
 obtain⟨its,r1,p1,_⟩:=I.list hp
 obtain⟨its2,r2,p2,_⟩:=I.list hq
 have l1:=r1.length
 have l2:=r2.length
 have l3:=Lz hal
 apply SeqAt.RcAt.lists (e:=λ_=>true) p1.isList p2.isList (by simp;lia) (by lia) (iR (A:=X.A.in1) I hal r1 r2 hu) X.prog X.w X.xe _ #[.bl true,H,I,?_,k]
 show Value.bool _=Value.bool true
 simp
def iX:gW X (compareOp .NotEq) (Ai X.K false X.A):=by
 intro pins s σ H x y v u Q I rx ry h
 obtain⟨p,q,xs,ys,rfl,rfl,hu,hp,hq,hal,k⟩:=h
 cases rx
 cases ry
 obtain⟨its,r1,p1,_⟩:=I.list hp
 obtain⟨its2,r2,p2,_⟩:=I.list hq
 have l1:=r1.length
 have l2:=r2.length
 have l3:=Lz hal
 apply SeqAt.RcNeAt.lists (e:=λ_=>true) p1.isList p2.isList (by simp;lia) (by lia) (iR (A:=X.A.in1) I hal r1 r2 hu) X.prog X.w X.xe _ #[.bl false,H,I,?_,k]
 show Value.bool _=Value.bool false
 simp
theorem du{K:PySem.W.Frag}{H:Hp}:∀{xs:List V},xs.all gE=true->Paired (Alike K H) xs xs
 |[],_=>.nil
 |x::xs,h=>by
  rw[OL,Md]at h
  exact .cons (.flat h.1) (du h.2)
end
end L2
namespace Uf
open PySem L2 UfSrt UfB UfTs
abbrev qN:Stmt:=inClass oG 7
abbrev rB:Stmt:=inClass oG 8
def rj(f:WF)(t:Nat):Str:=((f.W.sp[t]?).map (·.1)).getD ""
def ed(B:WA)(x:Str)(h:x∉[("base_net":Str), "spot_tuples","occurrence_tuples","numbers_there","own_bits","given_bits","beside_bits","taker_bits","place_bits"]):B.fs.lookup x=none:=by
 simp only[Lc,LR,Mt,Pg]at h
 obtain⟨h1,h2,h3,h4,h5,h6,h7,h8,h9⟩:=h
 unfold WA.fs xp
 rw[az,Le h9,az,Le h8,az,Le h7,az,Le h6,az,Le h5,az,Le h4,az,Le h3,az,Le h2,az,Le h1]
 rfl
def yE(P:Program)(w:World)(C CW:Addr):Sp:=λvs H Q _=>∃(x l:Addr) (B:WA) (ms:List Mv) (S:List Str) (f:WF) (m:Mv) (T:List Nat),vs=[.ref x,.str m.1,.ref l]/\eR P w C CW H x B ms S f/\m∈ms/\H l=some (.lst (nats T))/\T.length<=4/\(∀t∈T,t<f.W.sp.length)/\aL (T.map (rj f))=aL m.2.1/\∀H',au H H'->Q .non H'
def mK:aF ["self","move","spots","places","spot"] ["self","move","spots"] (av qN):=ff
inductive MfI(H:Hp)(x l pl:Addr)(m:Str)(i:Nat)(σ:St)(H2:Hp):Prop
 |mk (v4:Option V) (q0:σ=[some (.ref x),some (.str m),some (.ref l),some (.ref pl),v4]) (q1:H2=H)
def BQ{f C CW:Addr}{fd:FuncData}(F:dN K "must_fit" "Web.must_fit" qN f fd)(T0:Txt K mg)(NC:iA K C)(CT:jD K CW)
  (DT:kI P w K mg base C "takes" "Net.takes" iP ["self","move"] 3 (iI C (·.2.1)))
  (DS:kI P w K mg base CW "must_have_spot" "Web.must_have_spot" sk ["self","number"] 1 (xD P w C CW)) :
  bf P w K mg base cZ 4 f fd ["self","move","spots"] (yE P w C CW):=by
 apply F.oK mK λcdv A outer s H vs Q E hr h=>?_
 ·obtain⟨x,l,B,ms,S,f,m,T,rfl,W,hm,hl,l4,tl,hs,kk⟩:=h
  have hu:=c7 hr
  have hsl:=LG
  apply#[_,ag (cM 3 mK (cJ (bM (pv 0) rfl) NC.cl DT.d.mt DT.g hr DT.d.bd .nil bR (aa (pv 1) af)))
   (ag (bO LC rfl (aZ (pv 2)) (fE 4 mK)
    (ak (a9 (cJ (pv 0) CT.cl DS.d.mt DS.g (hr.mono (by decide)) DS.d.bd .nil bR (aa (pv 4) af)))))
   (ak (bK (aY iX (aA cu rfl T0.aL cf (aa (cE (N:=["spot","self"]) (n:=1) (ci:=[0]) rfl (aZ (pv 2))
     (oO mK)
     (λz=>#[kJ 0,cR,aQ cL (aQ aI (bM (pv 1) rfl) (pv 0) (λ_ _=>rfl)) aj (λ_ _=>rfl)])) af)) (pv 3) (bp _)) (ak cH) aM))),?_]
  ac_rfl
  obtain⟨dn,aP,aS,aT,aG,kT,kG,n1,_⟩:=W.CU.at'.ob
  apply#[Z,x,CW,B.dx,_,Z,W.ad.ins,CT.cl,CT.nN,B.fN,B.p,dn,Z,n1,dc _ _ _ _ sL ug uA sQ,Z,B.p,ms,S,m,rfl,W.CU,hm,λH1 pl s1 npl hpl=>?_]
  have W1:=W.same s1
  have hl1:=s1 _ _ hl
  apply#[Z,l,rfl,#[_,aH.of hl1],bJ (K:=K) (a:=l) (xs:=nats T) (MfI H1 x l pl m.1) #[none,rfl,rfl] (λi σ H2 _ h=>by cases h;subst_vars;exact aH.of hl1) ?_ ?_]
  ·rintro i v σ H2 hi ⟨v4,rfl,rfl⟩
   obtain⟨n,hn,rfl⟩:=gI hi
   exact#[Z,x,B.dx,Z,W1.ad.ins,ed B _ (by decide +kernel),Z,x,B,ms,S,f,n,rfl,W1,tl n (Lg hn),Z,rfl]
  ·rintro σ H2 ⟨v4,rfl,rfl⟩
   obtain⟨qs,hqs,hp⟩:=W1.ad.sp
   have lq:=Lz hp
   apply#[Z,l,rfl,#[_,aH.of hl1],λz D hD=>cv (a:=l) (xs:=nats T) (λi ys H3=>ys=aE ((T.take i).map (rj f))/\H3 D=some (.lst ys)/\au H2 H3) #[rfl,ae,ao hD] (λi ys H3 _ p=>aH.of (p.2.2 _ _ hl1)) ?_ ?_]
   ·rintro i v ys H3 hi ⟨rfl,hys,s3⟩
    obtain⟨n,hn,rfl⟩:=gI hi
    have hlt:=tl n (Lg hn)
    have hqn:qs[n]?=some (qs[n]'(by lia)):=K7 (by lia)
    obtain⟨p,hpn,hq⟩:=br hp hqn
    generalize qs[n]'(by lia)=q at hqn hq
    have en:rj f n=p.1:=by unfold rj;rw[hpn];rfl
    apply#[Z,x,CW,B.dx,_,Z,s3 _ _ W1.ad.ins,CT.cl,CT.nS,B.fS,Z,B.aS,_,_,Z,rfl,aH.of (s3 _ _ hqs),aD (j:=n) (by rw[LD,hqn];rfl),q,_,0,Z,rfl,cz.of (s3 _ _ hq),aD (j:=0) rfl,hys,?_,?_,ae,aJ s3 hD]
    ·rw[ar,K4,Lf]
     lia
    ·rw[ay hn,Ll]
     unfold aE
     rw[Ll]
     show _=_++[V.str (rj f n)]
     rw[en]
   rintro ys H3 ⟨rfl,hys,s3⟩
   rw[bD,LH]at hys
   apply#[D,Z,aH.of hys,by rw[K4];lia,λso nso=>?_]
   rw[hs]
   obtain⟨H4,eU,s4,hso⟩:=fL nso (.lst (aE (aL m.2.1)))
   rw[eU]
   apply#[Z,so,pl,_,Z,rfl,hu,aH.of hso,aH.of ((s3.trans s4) _ _ hpl),du (da _),Z,?_]
   exact bz (kk _ (s1.trans (s3.trans s4)))
def ya(P:Program)(w:World)(C CW:Addr):Sp:=λvs H Q _=>∃(x l:Addr) (B:WA) (ms:List Mv) (S:List Str) (f:WF) (T:List Nat),vs=[.ref x,.ref l]/\eR P w C CW H x B ms S f/\f.W.be.length=f.W.sp.length/\H l=some (.lst (nats T))/\(∀t∈T,t<f.W.sp.length)/\T.Nodup/\(∀a∈T,∀b∈T,a≠b->(f.W.be.getD a 0).testBit b=true)/\∀H',au H H'->Q .non H'
def mG:aF ["self","spots","at","other","one"] ["self","spots"] (av rB):=ff
inductive KN(H:Hp)(x l:Addr)(i:Nat)(σ:St)(H2:Hp):Prop
 |mk (v2 v3 v4:Option V) (q0:σ=[some (.ref x),some (.ref l),v2,v3,v4]) (q1:au H H2)
inductive JX(H:Hp)(x l:Addr)(v2 v3:Option V)(i:Nat)(σ:St)(H2:Hp):Prop
 |mk (v4:Option V) (q0:σ=[some (.ref x),some (.ref l),v2,v3,v4]) (q1:H2=H)
def A5{f C CW:Addr}{fd:FuncData}(F:dN K "must_stand_beside" "Web.must_stand_beside" rB f fd)(T2:Txt2 mg)(CT:jD K CW)
  (DH:gG P w K mg base "has" EK ["bits","number"] 1 Fx) :
  bf P w K mg base cZ 2 f fd ["self","spots"] (ya P w C CW):=by
 apply F.oK mG λcdv A outer s H vs Q E hr h=>?_
 ·obtain⟨x,l,B,ms,S,f,T,rfl,W,bl,hl,tl,nd,sd,kk⟩:=h
  apply#[_,ak (bO LC rfl (r9 rfl T2.enm (aa (pv 1) af)) (eD rfl (aU (fE 2 mG) (aU (fE 3 mG) di)))
   (ak (bO LC rfl (aZ (bY cT (pv 1) cU (bV (pv 2)))) (fE 4 mG)
    (ak (bK (cF (ck (eV DH hr (aa (aQ aI (bM (pv 0) rfl) (pv 4) (λ_ _=>rfl)) (aa (pv 3) af))))) (ak cH) aM))))),?_]
  ac_rfl
  apply#[Z,l,rfl,#[_,aH.of hl],sH (K:=K) (a:=l) (xs:=nats T) (KN H x l) #[none,none,none,rfl,λ_ _ e=>e] (λi σ H2 _ h=>by obtain⟨_,_,_,_,s⟩:=h;exact aH.of (s _ _ hl)) ?_ ?_]
  ·rintro i v p σ H2 hi ⟨v2,v3,v4,rfl,s2⟩ np
   obtain⟨n,hn,rfl⟩:=gI hi
   obtain⟨H3,eU,s3,hp⟩:=fL np (.tup [.int (i:Int),nat n])
   rw[eU]
   have s03:=s2.trans s3
   have cut:dR (nats T) none (some (i:Int))=nats (T.take i):=by
    rw[Ba]
    unfold nats
    rw[Nf]
   apply#[p,Z,cz.of hp,rfl,_,Z,_,Z,rfl,?_]
   apply#[Z,Z,Z,l,Z,aH.of (s03 _ _ hl),λc nc=>?_]
   rw[cut]
   obtain⟨H4,eU,s4,hc⟩:=fL nc (.lst (nats (T.take i)))
   rw[eU]
   have W4:=W.same (s03.trans s4)
   apply#[c,rfl,#[_,aH.of hc],bJ (K:=K) (a:=c) (xs:=nats (T.take i)) (JX H4 x l _ _) #[Z,rfl] (λj σ H5 _ h=>by cases h;subst_vars;exact aH.of hc) ?_ ?_]
   ·rintro j v σ H5 hj ⟨v4,rfl,rfl⟩
    obtain⟨k,hk,rfl⟩:=gI hj
    have hk':k∈T.take i:=Lg hk
    have kT:=Mm hk'
    have ne:k≠n:=λz=>by
     obtain⟨j',hj',e⟩:=List.mem_take_iff_getElem.mp hk'
     have e1:T[j']?=some n:=by rw[K7 (by lia),e,z]
     have:=(List.getElem?_inj (by lia) nd).mp (e1.trans hn.symm)
     lia
    apply#[Z,x,CW,B.dx,_,Z,W4.ad.ins,CT.cl,CT.nB,B.fB,Z,B.aB,_,_,Z,rfl,aH.of W4.ad.be,aD (j:=k) (cV (by rw[bl];exact tl k kT)),Z,_,n,rfl,Z,?_]
    rw[sd k kT n (Lg hn) ne]
    exact bz #[Z,rfl]
   ·rintro σ H5 ⟨v4,rfl,rfl⟩
    exact#[_,_,Z,s03.trans s4]
  ·rintro σ H2 ⟨v2,v3,v4,rfl,s2⟩
   exact kk _ s2
abbrev xA:Stmt:=inClass oG 10
abbrev xi:Stmt:=inClass oG 4
def vU{A:Around}{k:Nat}(hr:cW k A):A.units+2<cLine:=L8 (Qv (by decide:2<=64) _) hr.units
def JY(n:Nat):(((2 ^ n:Nat):Int))-1=((2 ^ n-1:Nat):Int):=by
 have:=Nat.one_le_two_pow (n:=n)
 lia
theorem jF{α β:Type}{R:α->β->Prop}:∀{xs:List α} {ys:List β} {z:α×β},Paired R xs ys->z∈xs.zip ys->R z.1 z.2
 |_,_,_,.nil,h=>nomatch h
 |_,_,_,.cons e r,h=>by
  rcases Lc.mp h with q|q
  ·rw[q];exact e
  ·exact jF r q
def FI(f:WF)(T:List Nat)(i:Nat):qB:=#[f.W.sp,bL f.W.tk (T.take i) f.oc.length,f.W.be,f.W.pl]
def JU(f:WF)(T:List Nat):Nat:=T.foldl (λb t=>b &&& f.W.be.getD t 0) (2 ^ f.W.sp.length-1)
section
variable {P:Program}{w:World}{C CW x:Addr}{H H':Hp}{B:WA}{ms:List Mv}{S:List Str}{f:WF}
def eR.own(h:eR P w C CW H x B ms S f):∀a∈B.l,∀o,H a=some o->(∀xs,o≠.tup xs)/\(∀c d fs,o≠.ins c d fs)/\(a≠B.aP->∀kv,o≠.dK kv):=by
 obtain⟨qs,e1,e2,e3⟩:=h.oc
 obtain⟨gs,g1,g2⟩:=h.gb
 obtain⟨q2,i1,i2⟩:=h.ad.sp
 intro a ha o e
 unfold WA.l at ha
 simp only[Lc,LR,Mt]at ha
 rcases ha with rfl|rfl|rfl|rfl|rfl|rfl|rfl|rfl
 ·rw[h.ad.pl]at e;cases e;exact#[(λ_ z=>nomatch z),(λ_ _ _ z=>nomatch z),λz=>absurd rfl z]
 ·rw[h.ad.tk]at e;cases e;exact#[(λ_ z=>nomatch z),(λ_ _ _ z=>nomatch z),λ_ _ z=>nomatch z]
 ·rw[h.ad.be]at e;cases e;exact#[(λ_ z=>nomatch z),(λ_ _ _ z=>nomatch z),λ_ _ z=>nomatch z]
 ·rw[g1]at e;cases e;exact#[(λ_ z=>nomatch z),(λ_ _ _ z=>nomatch z),λ_ _ z=>nomatch z]
 ·rw[h.ow]at e;cases e;exact#[(λ_ z=>nomatch z),(λ_ _ _ z=>nomatch z),λ_ _ z=>nomatch z]
 ·rw[e3]at e;cases e;exact#[(λ_ z=>nomatch z),(λ_ _ _ z=>nomatch z),λ_ _ z=>nomatch z]
 ·rw[e1]at e;cases e;exact#[(λ_ z=>nomatch z),(λ_ _ _ z=>nomatch z),λ_ _ z=>nomatch z]
 ·rw[i1]at e;cases e;exact#[(λ_ z=>nomatch z),(λ_ _ _ z=>nomatch z),λ_ _ z=>nomatch z]
def eR.Au(h:eR P w C CW H x B ms S f)(b:cG B.l H H'):cB C (rm H' B.aP) B.p ms S:=by
 have go:∀c o,rm H B.aP c=some o->((∃xs,o=.tup xs)\/(∃c d fs,o=.ins c d fs)\/∃kv,o=.dK kv)->rm H' B.aP c=some o:=λc o e z=>by
  have nc:c≠B.aP:=λq=>by rw[q,km]at e;cases e
  rw[lO nc]at e ⊢
  apply b _ _ e λhc=>?_
  obtain⟨o1,o2,o3⟩:=h.own c hc o e
  rcases z with⟨xs,z⟩|⟨c',d,fs,z⟩|⟨kv,z⟩
  ·exact o1 _ z
  ·exact o2 _ _ _ z
  ·exact o3 nc _ z
 obtain⟨dn,aP,aS,aT,aG,kT,kG,h1,h2,h3,h4,h5,h6,h7⟩:=h.net.at'.ob
 have tp:∀c xs,rm H B.aP c=some (.tup xs)->rm H' B.aP c=some (.tup xs):=λc xs e=>go c _ e (.inl #[_,rfl])
 exact#[#[dn,aP,aS,aT,aG,kT,kG,go _ _ h1 (.inr (.inl #[_,_,_,rfl])),tp _ _ h2,tp _ _ h3,go _ _ h4 (.inr (.inr #[_,rfl])),go _ _ h5 (.inr (.inr #[_,rfl])),h6.same tp,h7.same tp],h.net.so]
end
structure EE(f:WF)(ms:List Mv)(S:List Str)(m:Mv)(T:List Nat):Prop where
 mm:m∈ms
 may:uz f T (aL m.2.2)
 l4:T.length<=4
 nd:T.Nodup
 nm:aL (T.map (rj f))=aL m.2.1
 new:(m.1,T)∉f.oc
 oc:f.oc.length<=200
 pl:(f.W.pl.map (·.1)).Nodup/\f.W.pl.length<=12/\∀y∈m.2.2,y∈f.W.pl.map (·.1)
def Ci(P:Program)(w:World)(C CW:Addr):Sp:=λvs H Q _=>∃(x q:Addr) (B:WA) (ms:List Mv) (S:List Str) (f:WF) (m:Mv) (T:List Nat),vs=[.ref x,.ref q]/\eR P w C CW H x B ms S f/\Good f/\gK H (m.1,T) q/\EE f ms S m T /\
 ∀H',eR P w C CW H' x B ms S (bN f m.1 T (aL m.2.2))->cG B.l H H'->Q (nat f.oc.length) H'
def k7:aF ["self","occurrence","number","spots_ahead","beside","spot"] ["self","occurrence"] (av xA):=ff
inductive AoI(CW:Addr)(H:Hp)(x q:Addr)(B:WA)(f:WF)(T:List Nat)(i:Nat)(σ:St)(H2:Hp):Prop
 |mk (v5:Option V) (q0:σ=[some (.ref x),some (.ref q),some (nat f.oc.length),some (nat (2 ^ f.W.sp.length)),some (nat (JU f (T.take i))),v5]) (q1:EL CW H2 x B.dx B.fs B.aS B.aT B.aB B.aP (FI f T i)) (q2:cG [B.aT] H H2)
def Ee{f C CW:Addr}{fd:FuncData}(F:dN K "add_occurrence" "Web.add_occurrence" xA f fd)(T0:Txt K mg)(NC:iA K C)(CT:jD K CW)
  (DB:gG P w K mg base "bit" Bu ["number"] 1 Aq)
  (DG:kI P w K mg base C "gives" "Net.gives" jP ["self","move"] 3 (iI C (·.2.2)))
  (DH:kI P w K mg base CW "bits_ahead" "Web.bits_ahead" sj ["self","spots"] 1 (wV P w C CW))
  (DA:kI P w K mg base CW "add_spots" "Web.add_spots" BR ["self","places","giver","beside"] 2 (Bl CW .lst)) :
  bf P w K mg base cZ 4 f fd ["self","occurrence"] (Ci P w C CW):=by
 apply F.oK k7 λcdv A outer s H vs Q E hr h=>?_
 ·obtain⟨x,q,B,ms,S,f,m,T,rfl,W,gd,⟨t,hq,ht⟩,can,kk⟩:=h
  have hu:=c7 hr
  have hsl:=LG
  apply#[_,ag (cM 2 k7 (aA bB rfl T0.len cY (aa (bM (pv 0) rfl) af)))
   (ag (cM 3 k7 (eV DB (hr.mono (by decide)) (aa (aA bB rfl T0.len cY (aa (bM (pv 0) rfl) af)) af)))
   (ag (cM 4 k7 (aw iN (pv 3) aj))
   (ag (bO LC rfl (jM (aQ cL (pv 1) aj (λ_ _=>rfl))) (fE 5 k7)
    (ag (cM 4 k7 (aw gr (pv 4) (aQ aI (bM (pv 0) rfl) (pv 5) (λ_ _=>rfl))))
    (ak (jz (aw iU (aQ aI (bM (pv 0) rfl) (pv 5) (λ_ _=>rfl)) (eV DB (hr.mono (by decide)) (aa (pv 2) af))) (k6 (bM (pv 0) rfl) (pv 5) set_list)))))
   (ag (a9 (df Lr Lv Lw bb (bM (pv 0) rfl) (aa (pv 1) af)))
   (ag (Dp (vU hr) (bM (pv 0) rfl) (pv 1) (pv 2) rfl)
   (ag (a9 (df Lr Lv Lw bb (bM (pv 0) rfl) (aa (aw iU (eV DB (hr.mono (by decide)) (aa (pv 2) af)) (cJ (pv 0) CT.cl DH.d.mt DH.g (hr.mono (by decide)) DH.d.bd .nil bR (aa (aQ cL (pv 1) aj (λ_ _=>rfl)) af))) af)))
   (ag (a9 (cJ (pv 0) CT.cl DA.d.mt DA.g (hr.mono (by decide)) DA.d.bd .nil bR (aa (cJ (bM (pv 0) rfl) NC.cl DG.d.mt DG.g hr DG.d.bd .nil bR (aa (aQ cL (pv 1) aj (λ_ _=>rfl)) af)) (aa (pv 2) (aa (pv 4) af)))))
   (ag (a9 (df Lr Lv Lw bb (bM (pv 0) rfl) (aa (aw iN (eV DB (hr.mono (by decide)) (aa (aA bB rfl T0.len cY (aa (bM (pv 0) rfl) af)) af)) (pv 3)) af)))
   (ak (aK (pv 2))))))))))),?_]
  ac_rfl
  obtain⟨qo,o1,o2,o3⟩:=W.oc
  obtain⟨gs,g1,g2⟩:=W.gb
  obtain⟨qs,i1,i2⟩:=W.ad.sp
  have lo:=Lz o2
  have ls:=Lz i2
  have gX:=gd.gX
  have loc:=can.oc
  have may:=can.may
  have nd:=W.nd
  unfold WA.l at nd
  simp only[Mo,Lc,LR,Mt,Pg]at nd
  obtain⟨⟨p1,p2,p3,p4,p5,p6,p7⟩,⟨t1,t2,t3,t4,t5,t6⟩,⟨b1,b2,b3_,b4,b5⟩,⟨gg1,gg2,gg3,gg4⟩,⟨w1,w2,w3⟩,⟨n1,n2⟩,n3,_⟩:=nd
  apply#[Z,x,CW,B.dx,_,Z,W.ad.ins,CT.cl,CT.nO,B.fO,_,qo.length,rfl,.inl #[_,aH.of o1,by rw[K4]],?_]
  rw[<-lo]
  apply#[Z,x,CW,B.dx,_,Z,W.ad.ins,CT.cl,CT.nS,B.fS,_,qs.length,rfl,.inl #[_,aH.of i1,by rw[K4]],qs.length,rfl,by lia,?_]
  rw[<-ls]
  apply#[Z,_,Z,rfl,?_]
  have e0:V.int (((2 ^ f.W.sp.length:Nat):Int)-1)=nat (2 ^ f.W.sp.length-1):=by rw[JY];rfl
  have hadT:∀c ys,H c=some (.tup ys)->c∉[B.aT]:=λc ys e z=>by
   have z:c=B.aT:=by simpa using z
   rw[z,W.ad.tk]at e
   cases e
  apply#[Z,q,_,1,Z,rfl,cz.of hq,aD (j:=1) rfl,t,rfl,#[_,cz.of ht],my (K:=K) (a:=t) (xs:=nats T) (AoI CW H x q B f T) #[none,?_,W.ad,λc o e _=>e] (λi σ H2 _ h=>?_) ?_ ?_]
  ·show _=[_,_,_,_,some (nat (2 ^ f.W.sp.length-1)),_]
   rw[<-e0]
   rfl
  ·obtain⟨_,_,_,b⟩:=h
   exact cz.of (b _ _ ht (hadT _ _ ht))
  ·rintro i v σ H2 hi ⟨v5,rfl,A2,b2'⟩
   obtain⟨n,hn,rfl⟩:=gI hi
   have hnl:=may.lt n (Lg hn)
   have l1:(FI f T i).tk.length=f.W.sp.length:=by show(bL _ _ _).length=_;rw[de,gd.tl]
   have l2:(FI f T i).be.length=f.W.sp.length:=gd.bl
   apply#[Z,Z,x,CW,B.dx,_,Z,A2.ins,CT.cl,CT.nB,B.fB,Z,B.aB,_,_,Z,rfl,aH.of A2.be,aD (j:=n) (cV (by lia)),_,Z,rfl,?_]
   apply#[Z,x,CW,B.dx,_,Z,A2.ins,CT.cl,CT.nT,B.fT,Z,B.aT,_,_,Z,rfl,aH.of A2.tk,aD (j:=n) (cV (by lia)),Z,f.oc.length,rfl,by lia,_,Z,rfl,?_]
   dsimp only[nat]
   rw[gL,jj]
   apply#[Z,x,CW,B.dx,_,Z,A2.ins,CT.cl,CT.nT,B.fT,Z,B.aT,_,_,n,rfl,rfl,A2.tk,jX (by rw[bD];lia),?_]
   have set1:(nats (FI f T i).tk).set n (V.int (((FI f T i).tk.getD n 0 ||| 2 ^ f.oc.length:Nat):Int))=nats (FI f T (i+1)).tk:=by
    show _=nats (bL f.W.tk (T.take (i+1)) f.oc.length)
    rw[ay hn,jH]
    exact jY _ _ _
   rw[set1]
   obtain⟨q2,j1,j2⟩:=A2.sp
   have nx:x≠B.aT:=aX A2.ins A2.tk (λz=>nomatch z)
   apply#[some (nat n),?_,#[by rw[ai nx];exact A2.ins,#[q2,by rw[ai (LO t6)];exact j1,fh.put j2 A2.tk],ae,by rw[ai (LO t1)];exact A2.be,by rw[ai p1];exact A2.pl],b2'.upd (by simp)]
   show _=[_,_,_,_,some (nat (JU f (T.take (i+1)))),_]
   unfold JU
   rw[ay hn,MZ]
   rfl
  ·rintro σ H3 ⟨v5,rfl,A3,b3⟩
   have eT:T.take (nats T).length=T:=by rw[bD,LH]
   have eW:FI f T (nats T).length=#[f.W.sp,bL f.W.tk T f.oc.length,f.W.be,f.W.pl]:=by unfold FI;rw[eT]
   rw[eT]
   rw[eW]at A3
   have nT:∀{c o},H c=some o->c≠B.aT->H3 c=some o:=λ{c o} e n=>b3 _ _ e (by simpa using n)
   have tup3:∀{c ys},H c=some (.tup ys)->H3 c=some (.tup ys):=λ{c ys} e=>b3 _ _ e (hadT _ _ e)
   have o13:=nT o1 (LO t5)
   have o33:=nT o3 (LO t4)
   have w3':=nT W.ow (LO t3)
   have g13:=nT g1 (LO t2)
   have hq3:=tup3 hq
   have ht3:=tup3 ht
   have pr3:kj H3 f.oc qo:=Paired.cc o2 λ_ _ e=>e.same λ_ _ e=>tup3 e
   apply#[Z,x,CW,B.dx,_,Z,A3.ins,CT.cl,CT.nO,B.fO,.inl #[rfl,_,aH.of o13],Z,B.aO,_,Z,rfl,o13,by rw[K4];lia,?_]
   have u4:∀{c o},H3 c=some o->c≠B.aO->(upd H3 B.aO (.lst (qo.map V.ref++[V.ref q]))) c=some o:=λ{c o} e n=>by rw[ai n];exact e
   have tup4:∀{c ys},H3 c=some (.tup ys)->(upd H3 B.aO (.lst (qo.map V.ref++[V.ref q]))) c=some (.tup ys):=λ{c ys} e=>u4 e (aX e o13 (λz=>nomatch z))
   have o14:(upd H3 B.aO (.lst (qo.map V.ref++[V.ref q]))) B.aO=some (.lst ((qo++[q]).map V.ref)):=by rw[ae,Ll];rfl
   generalize upd H3 B.aO (.lst (qo.map V.ref++[V.ref q]))=H4 at u4 tup4 o14 ⊢
   have ins4:=u4 A3.ins (aX A3.ins o13 (λz=>nomatch z))
   have pr4:kj H4 f.oc qo:=Paired.cc pr3 λ_ _ e=>e.same λ_ _ e=>tup4 e
   have pq4:gK H4 (m.1,T) q:=#[t,tup4 hq3,tup4 ht3]
   have zk:(f.oc.zip qo).map (·.1)=f.oc:=List.map_fst_zip (by lia)
   apply#[Z,Z,x,CW,B.dx,_,Z,ins4,CT.cl,CT.nH,B.fH,Z,q,B.aN,(m.1,T),f.oc.zip qo,rfl,rfl,pq4,u4 o33 n1,λz hz=>jF pr4 hz,by rw[zk];exact can.new,by rw[List.length_zip];lia,?_]
   have u5:∀{c o},H4 c=some o->c≠B.aN->(upd H4 B.aN (PD P w B.aN (f.oc.zip qo++[((m.1,T),q)]))) c=some o:=λ{c o} e n=>by rw[ai n];exact e
   have tup5:∀{c ys},H4 c=some (.tup ys)->(upd H4 B.aN (PD P w B.aN (f.oc.zip qo++[((m.1,T),q)]))) c=some (.tup ys):=λ{c ys} e=>u5 e (aX e (u4 o33 n1) (λz=>nomatch z))
   have o35:(upd H4 B.aN (PD P w B.aN (f.oc.zip qo++[((m.1,T),q)]))) B.aN=some (PD P w B.aN (f.oc.zip qo++[((m.1,T),q)])):=ae
   have ins5:=u5 ins4 (aX ins4 (u4 o33 n1) (λz=>nomatch z))
   change (uK _ _) _ _ (upd H4 B.aN (PD P w B.aN (f.oc.zip qo++[((m.1,T),q)])))
   generalize upd H4 B.aN (PD P w B.aN (f.oc.zip qo++[((m.1,T),q)]))=H5 at u5 tup5 o35 ins5 ⊢
   have to5:∀{c o},H3 c=some o->c≠B.aO->c≠B.aN->H5 c=some o:=λ{c o} e n n'=>u5 (u4 e n) n'
   have w5:=to5 w3' w2 w1
   have tup35:∀{c ys},H3 c=some (.tup ys)->H5 c=some (.tup ys):=λ{c ys} e=>tup5 (tup4 e)
   obtain⟨q3,s31,s32⟩:=A3.sp
   have s51:=to5 s31 (LO n3) (LO n2)
   have s52:fh H5 f.W.sp q3:=Paired.cc s32 λ_ _ e=>tup35 e
   have hq5:=tup35 hq3
   have ht5:=tup35 ht3
   apply#[Z,x,CW,B.dx,_,Z,ins5,CT.cl,CT.nW,B.fW,.inl #[rfl,_,aH.of w5],Z,f.oc.length,rfl,by lia,Z,x,B.dx,Z,ins5,ed B _ (by decide +kernel),Z,q,_,1,Z,rfl,cz.of hq5,aD (j:=1) rfl,x,t,B.fs,B.dx,B.aS,B.aW,f,T,rfl,ins5,B.fS,B.fW,#[q3,s51,s52],w5,ht5,may.lt,λs g hg=>by rw[gd.wl];exact gd.gvlt s g hg,_,Z,rfl,B.aW,_,Z,rfl,w5,by rw[bD,gd.wl];lia,?_]
   dsimp only[nat]
   rw[gL,show nats f.own++[V.int ((2 ^ f.oc.length ||| cN f T:Nat):Int)]=nats (f.own++[2 ^ f.oc.length ||| cN f T]) from eI _ _]
   have u6:∀{c o},H5 c=some o->c≠B.aW->(upd H5 B.aW (.lst (nats (f.own++[2 ^ f.oc.length ||| cN f T])))) c=some o:=λ{c o} e n=>by rw[ai n];exact e
   have tup6:∀{c ys},H5 c=some (.tup ys)->(upd H5 B.aW (.lst (nats (f.own++[2 ^ f.oc.length ||| cN f T])))) c=some (.tup ys):=λ{c ys} e=>u6 e (aX e w5 (λz=>nomatch z))
   have w6:(upd H5 B.aW (.lst (nats (f.own++[2 ^ f.oc.length ||| cN f T])))) B.aW=some (.lst (nats (f.own++[2 ^ f.oc.length ||| cN f T]))):=ae
   have ins6:=u6 ins5 (aX ins5 w5 (λz=>nomatch z))
   generalize upd H5 B.aW (.lst (nats (f.own++[2 ^ f.oc.length ||| cN f T])))=H6 at u6 tup6 w6 ins6 ⊢
   have to6:∀{c o},H3 c=some o->c≠B.aO->c≠B.aN->c≠B.aW->H6 c=some o:=λ{c o} e n n' n''=>u6 (to5 e n n') n''
   have tup36:∀{c ys},H3 c=some (.tup ys)->H6 c=some (.tup ys):=λ{c ys} e=>tup6 (tup35 e)
   have A6:EL CW H6 x B.dx B.fs B.aS B.aT B.aB B.aP #[f.W.sp,bL f.W.tk T f.oc.length,f.W.be,f.W.pl]:=#[ins6,#[q3,u6 s51 (LO w3),Paired.cc s32 λ_ _ e=>tup36 e],to6 A3.tk t5 t4 t3,to6 A3.be b4 b3_ b2,to6 A3.pl p6 p5 p4]
   have but6:cG B.l H H6:=λc o e n=>by
    unfold WA.l at n
    simp only[Lc,LR,Mt,Pg]at n
    exact to6 (nT e n.2.1) n.2.2.2.2.2.2.1 n.2.2.2.2.2.1 n.2.2.2.2.1
   have N6:cB C H6 B.p ms S:=(W.Au but6).same (qv _ _)
   obtain⟨dn,nP,nS,nT',nG,kT,kG,nn1,_⟩:=N6.at'.ob
   apply#[Z,x,B.dx,Z,ins6,ed B _ (by decide +kernel),Z,x,CW,B.dx,_,Z,ins6,CT.cl,CT.nN,B.fN,B.p,dn,Z,nn1,dc _ _ _ _ yC xC xg yB,Z,q,_,0,Z,rfl,cz.of (tup6 hq5),aD (j:=0) rfl,B.p,ms,S,m,rfl,N6,can.mm,λH7 gl s7 ngl hgl=>?_]
   have A7:EL CW H7 x B.dx B.fs B.aS B.aT B.aB B.aP #[f.W.sp,bL f.W.tk T f.oc.length,f.W.be,f.W.pl]:=let #[i,#[q,a,b],c,d,e]:=A6;#[s7 _ _ i,#[q,s7 _ _ a,Paired.cc b λ_ _ z=>s7 _ _ z],s7 _ _ c,s7 _ _ d,s7 _ _ e]
   have ngl4:gl∉[B.aS,B.aT,B.aB,B.aP]:=λz=>by
    simp only[Lc,LR,Mt]at z
    obtain⟨q6,a6,_⟩:=A6.sp
    rcases z with z|z|z|z
    ·rw[z,a6]at ngl;cases ngl
    ·rw[z,A6.tk]at ngl;cases ngl
    ·rw[z,A6.be]at ngl;cases ngl
    ·rw[z,A6.pl]at ngl;cases ngl
   have pl:=can.pl
   have lg:(aL m.2.2).length=m.2.2.length:=by rw[cP]
   have fit:mh (#[f.W.sp,bL f.W.tk T f.oc.length,f.W.be,f.W.pl],fb f T) (aL m.2.2):=#[by show(bL _ _ _).length=_;rw[de,gd.tl],gd.bl,rC gd,may.gX,λy hy=>pl.2.2 y (cQ.mp hy),pl.1,pl.2.1]
   apply#[Z,Z,x,B.dx,gl,B.aS,B.aT,B.aB,B.aP,B.fs,#[f.W.sp,bL f.W.tk T f.oc.length,f.W.be,f.W.pl],some f.oc.length,fb f T,aL m.2.2,rfl,nQ _ _ _ _ _ _ _ _ _,LO t6,LO b5,t1,A7,hgl,ngl4,fit,λH8 A8 b8=>?_]
   have to8:∀{c o},H6 c=some o->c∉[B.aS,B.aT,B.aB,B.aP]->H8 c=some o:=λ{c o} e n=>b8 _ _ (s7 _ _ e) n
   have tup8:∀{c ys},H6 c=some (.tup ys)->H8 c=some (.tup ys):=λ{c ys} e=>to8 e λz=>by
    simp only[Lc,LR,Mt]at z
    obtain⟨q6,a6,_⟩:=A6.sp
    rcases z with z|z|z|z
    ·rw[z,a6]at e;cases e
    ·rw[z,A6.tk]at e;cases e
    ·rw[z,A6.be]at e;cases e
    ·rw[z,A6.pl]at e;cases e
   have g8:H8 B.aG=some (.lst (nats gs)):=to8 (to6 g13 gg3 gg2 gg1) (by simp[gg4,LO t2,LO b1,LO p3])
   obtain⟨q8,s81,s82⟩:=A8.sp
   have l8:=Lz s82
   have lsp:(bx (some f.oc.length) (#[f.W.sp,bL f.W.tk T f.oc.length,f.W.be,f.W.pl],fb f T) (aL m.2.2)).1.sp.length=f.W.sp.length+(aL m.2.2).length:=by
    rw[(gU gd may).sp,K5,K4]
   have fw:=may.gX
   apply#[Z,x,CW,B.dx,_,Z,A8.ins,CT.cl,CT.nG,B.fG,.inl #[rfl,_,aH.of g8],Z,x,CW,B.dx,_,Z,A8.ins,CT.cl,CT.nS,B.fS,_,q8.length,rfl,.inl #[_,aH.of s81,by rw[K4]],q8.length,rfl,by lia,Z,_,Z,rfl,B.aG,_,Z,rfl,g8,by rw[bD];lia,?_]
   have eg:V.int (((2 ^ q8.length:Nat):Int)-((2 ^ f.W.sp.length:Nat):Int))=nat (2 ^ q8.length-2 ^ f.W.sp.length):=by
    have:=LX (n:=2) (by decide) (show f.W.sp.length<=q8.length by lia)
    unfold nat
    congr 1
    lia
   dsimp only[nat]at eg ⊢
   rw[eg,show nats gs++[V.int ((2 ^ q8.length-2 ^ f.W.sp.length:Nat):Int)]=nats (gs++[2 ^ q8.length-2 ^ f.W.sp.length]) from eI _ _]
   have u9:∀{c o},H8 c=some o->c≠B.aG->(upd H8 B.aG (.lst (nats (gs++[2 ^ q8.length-2 ^ f.W.sp.length])))) c=some o:=λ{c o} e n=>by rw[ai n];exact e
   have tup9:∀{c ys},H8 c=some (.tup ys)->(upd H8 B.aG (.lst (nats (gs++[2 ^ q8.length-2 ^ f.W.sp.length])))) c=some (.tup ys):=λ{c ys} e=>u9 e (aX e g8 (λz=>nomatch z))
   have g9:(upd H8 B.aG (.lst (nats (gs++[2 ^ q8.length-2 ^ f.W.sp.length])))) B.aG=some (.lst (nats (gs++[2 ^ q8.length-2 ^ f.W.sp.length]))):=ae
   generalize upd H8 B.aG (.lst (nats (gs++[2 ^ q8.length-2 ^ f.W.sp.length])))=H9 at u9 tup9 g9 ⊢
   have tup39:∀{c ys},H3 c=some (.tup ys)->H9 c=some (.tup ys):=λ{c ys} e=>tup9 (tup8 (tup36 e))
   have but9:cG B.l H H9:=λc o e n=>by
    have e6:=but6 c o e n
    unfold WA.l at n
    simp only[Lc,LR,Mt,Pg]at n
    exact u9 (to8 e6 (by simp[n.1,n.2.1,n.2.2.1,n.2.2.2.2.2.2.2])) n.2.2.2.1
   have n4:∀{c},c∈[B.aO,B.aN,B.aW]->c∉[B.aS,B.aT,B.aB,B.aP]:=λ{c} hc=>by
    simp only[Lc,LR,Mt]at hc
    rcases hc with rfl|rfl|rfl
    ·simp[n3,LO t5,LO b4,LO p6]
    ·simp[n2,LO t4,LO b3_,LO p5]
    ·simp[w3,LO t3,LO b2,LO p4]
   apply#[Z,kk _ #[#[u9 A8.ins (aX A8.ins g8 (λz=>nomatch z)),#[q8,u9 s81 (LO gg4),Paired.cc s82 λ_ _ e=>tup9 e],u9 A8.tk t2,u9 A8.be b1,u9 A8.pl p3],#[qo++[q],u9 (to8 (u6 (u5 o14 (LO n1)) (LO w2)) (n4 (by simp))) (LO gg3),?_,?_],u9 (to8 w6 (n4 (by simp))) (LO gg1),#[_,g9,?_],W.nd,W.Au but9] but9]
   ·exact ML (Paired.cc pr3 λ_ _ e=>e.same λ_ _ e=>tup39 e) #[t,tup39 hq3,tup39 ht3]
   ·have ez:(f.oc++[(m.1,T)]).zip (qo++[q])=f.oc.zip qo++[((m.1,T),q)]:=by rw[List.zip_append lo];rfl
    show H9 B.aN=some (PD P w B.aN ((f.oc++[(m.1,T)]).zip (qo++[q])))
    rw[ez]
    exact u9 (to8 (u6 o35 (LO w1)) (n4 (by simp))) (LO gg2)
   ·show(gs++[_]).length=(f.oc++[_]).length
    rw[K5,K5,g2]
    rfl
def mr(f:WF)(x:Str):Nat->Nat
 |0=>0
 |i+1=>mr f x i+if (f.W.sp[i]?).map (·.1)=some x then 1 else 0
def xn(f:WF):List Str->Nat
 |[]=>1
 |x::xs=>mr f x f.W.sp.length*xn f xs
theorem yg(f:WF){x y:Str}(h:x≠y):∀i,mr f x i+mr f y i<=i
 |0=>La _
 |i+1=>by
  have:=yg f h i
  unfold mr
  by_cases e:(f.W.sp[i]?).map (·.1)=some x
  ·rw[Ls e,Le (λz=>h (LS (e.symm.trans z)))]
   lia
  ·rw[Le e]
   split <;> lia
theorem Br(f:WF)(x:Str):∀i,mr f x i<=i
 |0=>La _
 |i+1=>by
  have:=Br f x i
  unfold mr
  split <;> lia
theorem um(f:WF):∀(xs:List Str) (ah:List Nat),(kD f xs ah).length<=xn f xs
 |[],ah=>La _
 |x::xs,ah=>by
  have:∀i,(jw f x xs ah i).length<=mr f x i*xn f xs:=λi=>by
   induction i with
   |zero=>exact LA _
   |succ i ih =>
    rw[ic,K5]
    unfold mr
    have r:=um f xs (ah++[i])
    by_cases e:(f.W.sp[i]?).map (·.1)=some x
    ·rw[Ls e,Nat.add_mul,Nat.one_mul]
     split
     ·lia
     ·simp;lia
    ·rw[if_neg e,show mf f x ah i=false by unfold mf;rw[decide_eq_false e];rfl]
     simpa using ih
  exact this _
def IU{a b:Nat}(h:a+b<=52):a*b<=676:=by
 have h1:∀a<53,a*(52-a)<=676:=by decide
 exact LM (Nat.mul_le_mul_left a (show b<=52-a by lia)) (h1 a (by lia))
def De{f:WF}{xs:List Str}(hn:xs.Nodup)(hl:xs.length<=4)(gX:f.W.sp.length<=52):xn f xs<=456976:=by
 have two:∀{x y:Str},x≠y->mr f x f.W.sp.length*mr f y f.W.sp.length<=676:=λh=>IU (LM (yg f h _) gX)
 have one:∀x:Str,mr f x f.W.sp.length<=676:=λx=>LM (Br f x _) (by lia)
 match xs,hn,hl with
 |[],_,_=>show 1<=_;decide
 |[a],_,_=>have:=one a;show _*1<=_;lia
 |[a,b],hn,_=>have:=two (x:=a) (y:=b) (by simp at hn;exact hn);show _*(_*1)<=_;rw[Qb];lia
 |[a,b,c],hn,_ =>
  have:=Nat.mul_le_mul (two (x:=a) (y:=b) (by simp at hn;exact hn.1.1)) (one c)
  show _*(_*(_*1))<=_
  rw[Qb,<-Qs]
  exact this
 |[a,b,c,d],hn,_ =>
  have:=Nat.mul_le_mul (two (x:=a) (y:=b) (by simp at hn;exact hn.1.1)) (two (x:=c) (y:=d) (by simp at hn;exact hn.2.2))
  show _*(_*(_*(_*1)))<=_
  rw[Qb,<-Qs]
  exact this
 |_::_::_::_::_::_,_,hl=>simp at hl
theorem sJ{f:WF}{T:List Nat}:∀{xs:List Str} {ah:List Nat},T∈kD f xs ah->∃U,T=dB (ah++U)/\U.map (rj f)=xs/\(∀u∈U,u<f.W.sp.length/\∀o∈ah,(f.W.be.getD u 0).testBit o=true)/\U.Pairwise λa b=>(f.W.be.getD b 0).testBit a=true
 |[],ah,h=>by
  cases LZ.mp h
  exact#[[],by rw[NN],rfl,(λ_ h=>nomatch h),List.Pairwise.nil]
 |x::xs,ah,h=>by
  obtain⟨s,hs,h⟩:=PF.mp h
  have hs:=M7.mp hs
  cases e:mf f x ah s with
  |false=>rw[e]at h;simp at h
  |true =>
   rw[e,Ls rfl]at h
   obtain⟨U,h1,h2,h3,h4⟩:=sJ h
   unfold mf at e
   obtain⟨e1,e2⟩:=LU.mp e
   have e1:=Ml e1
   have e2:=Mz.mp e2
   have es:=K7 hs
   apply#[s::U,by rw[h1,Mr];rfl,?_,λu hu=>?_,Ov.mpr #[λu hu=>(h3 u hu).2 s (by simp),h4]]
   ·rw[Mh,h2]
    congr 1
    unfold rj
    simp_all
   ·rcases Lc.mp hu with rfl|hu
    ·exact#[hs,e2]
    ·exact#[(h3 u hu).1,λo ho=>(h3 u hu).2 o (Lj _ ho)]
end Uf
namespace L2
open PySem PySem.Spec PyProof.Rows UfSrt UfTs
section
variable {X:Cx}
def Aj(X:Cx):R2:=λx y H Q=>∃p q qs ks k,x=.ref p/\y=.ref q/\X.A.units+2<cLine/\gK H k p/\H q=some (.lst (qs.map V.ref))/\Paired (gK H) ks qs/\Q (.bl (!decide (k∈ks))) H
def rn:gW X (compareOp .NotIn) (Aj X):=by
 intro pins s σ H x y v u Q I rx ry h
 obtain⟨p,q,qs,ks,k,rfl,rfl,hu,hp,hq,hpq,kk⟩:=h
 cases rx
 cases ry
 obtain⟨its,r,pl,hz⟩:=I.list (aH.of (K:=X.K) hq)
 have kp:=mV I hp
 let e:Value->Bool:=λu=>match u with
  |.ref b=>@decide (zX s.heap k b) (Classical.propDecidable _)
  |_=>false
 have he:∀(b:Addr) (k':Pr),zX s.heap k' b->e (.ref b)=decide (k'=k):=λb k' hb=>by
  show @decide (zX s.heap k b) (Classical.propDecidable _)=_
  exact Mi.mpr #[λz=>hb.inj z,λz=>by rw[<-z];exact hb]
 have all:∀{ks:List Pr} {qs:List Addr} {us:List Value},Paired (gK H) ks qs->Vals (qs.map V.ref) us->(∀w∈us,SeqAt.EqAt X.A.in1 s w (.ref p) (e w))/\us.any e=decide (k∈ks):=by
  intro ks qs us h
  induction h generalizing us with
  |nil =>
   intro hv
   cases hv
   exact#[(λw hw=>by cases hw),by simp]
  |@cons k' q' ks qs h0 ht ih =>
   intro hv
   cases hv with
   |cons r0 rt =>
    cases r0
    obtain⟨i1,i2⟩:=ih rt
    have h1:=mV I h0
    apply#[λw hw=>?_,?_]
    ·rcases Lc.mp hw with rfl|hw
     ·rw[he q' k' h1]
      exact AF h1 kp (by show X.A.units+1+1<cLine;exact hu)
     ·exact i1 w hw
    ·rw[Nd,i2,he q' k' h1]
     rw[LV,M0,LP,LP,LP,Lc]
     exact#[λz=>z.imp Eq.symm id,λz=>z.imp Eq.symm id]
 obtain⟨a1,a2⟩:=all hpq r
 apply Pd e pl.isList (λw hw=>a1 w (by simpa using hw)) #[.bl _,H,I,rfl,?_]
 rw[show its.toArray.any e=its.any e by simp,a2]
 exact kk
def Em(K:PySem.W.Frag)(A:Around):R2:=λx y H Q=>∃p q xs ys,x=.ref p/\y=.ref q/\A.units+1<cLine/\cz K H p xs/\cz K H q ys/\Paired (Alike K H) xs ys/\Q (.bl false) H
def pN:gW X (compareOp .NotEq) (Em X.K X.A):=by
 intro pins s σ H x y v u Q I rx ry h
 obtain⟨p,q,xs,ys,rfl,rfl,hu,hp,hq,hal,k⟩:=h
 cases rx
 cases ry
 obtain⟨its,r1,p1,_⟩:=I.tuple hp
 obtain⟨its2,r2,p2,_⟩:=I.tuple hq
 have l1:=r1.length
 have l2:=r2.length
 have l3:=Lz hal
 apply SeqAt.RcNeAt.tuples (e:=λ_=>true) p1 p2 (by lia) (iR (A:=X.A.in1) I hal r1 r2 hu) X.prog X.w X.xe _ #[.bl false,H,I,?_,k]
 show Value.bool _=Value.bool false
 simp
 lia
end
end L2
namespace Uf
open PySem L2 UfSrt UfB UfTs
abbrev yb:Stmt:=top 60
def IA(f:WF)(ms:List Mv)(k:Pr):Prop:=∃m∈ms,k.1=m.1/\k.2∈kD f (aL m.2.1) []/\k∉f.oc
theorem iG.same{H H':Hp}{w md sq cq pq tq dq:Addr}{ms:List Mv}{f:WF}(h:iG H w md sq cq pq tq dq ms f)(s:au H H'):iG H' w md sq cq pq tq dq ms f:=by
 obtain⟨qs,c1,c2⟩:=h.cm
 obtain⟨o,qm,m1,m2⟩:=h.mv
 exact#[h.ow.same s,#[qs,s _ _ c1,Paired.cc c2 λ_ _ #[t,a,b]=>#[t,s _ _ a,s _ _ b]],o,qm,s _ _ m1,Paired.cc m2 λ_ _ #[l,g,a,b,c,d]=>#[l,g,s _ _ a,s _ _ b,s _ _ c,d]]
theorem xl{R:Mv->Addr->Prop}:∀{ms:List Mv} {qs:List Addr} {i:Nat} {k:Key} {v:V},Paired R ms qs->(lX ms qs)[i]?=some (k,v)->∃m q,ms[i]?=some m/\k=Sum.inr m.1/\v=.ref q/\R m q
 |_,_,_,_,_,.nil,h=>by simp[lX]at h
 |m::ms,q::qs,0,k,v,.cons r _,h=>by
  have h:some ((Sum.inr m.1:Key),V.ref q)=some (k,v):=h
  cases h
  exact#[m,q,rfl,rfl,rfl,r]
 |m::ms,q::qs,i+1,k,v,.cons _ h,e=>by
  obtain⟨m',q',h1,h2⟩:=xl h (show(lX ms qs)[i]?=some (k,v) from e)
  exact#[m',q',h1,h2]
def Cj:Sp:=λvs H Q _=>∃(w md sq cq pq tq dq:Addr) (ms:List Mv) (f:WF),vs=[.ref w]/\iG H w md sq cq pq tq dq ms f/\f.W.be.length=f.W.sp.length/\f.W.sp.length<=52/\ms.length<=12/\(∀m∈ms,m.2.1.Nodup/\m.2.1.length<=4) /\
 ∀H' r (qs:List Addr),au H H'->H r=none->H' r=some (.lst (qs.map V.ref))->(∀q∈qs,∃k,gK H' k q/\IA f ms k)->Q (.ref r) H'
def nU:aF ["_law_web","_law_some","_law_move","_law_ends","_law_spots"] ["_law_web"] (av yb):=ff
inductive OpI(H:Hp)(w sm:Addr)(f:WF)(ms:List Mv)(i:Nat)(σ:St)(H2:Hp):Prop
 |mk (v2 v3 v4:Option V) (qs:List Addr) (q0:σ=[some (.ref w),some (.ref sm),v2,v3,v4]) (q1:au H H2) (q2:H2 sm=some (.lst (qs.map V.ref))) (q3:∀q∈qs,∃k,gK H2 k q/\IA f ms k) (q4:qs.length<=i*456976)
inductive Ku(H5:Hp)(w sm e:Addr)(f:WF)(ms:List Mv)(m:Str)(i j:Nat)(σ:St)(H2:Hp):Prop
 |mk (v4:Option V) (qs:List Addr) (q0:σ=[some (.ref w),some (.ref sm),some (.str m),some (.ref e),v4]) (q1:cG [sm] H5 H2) (q2:H2 sm=some (.lst (qs.map V.ref))) (q3:∀q∈qs,∃k,gK H2 k q/\IA f ms k) (q4:qs.length<=i*456976+j)
def Ku.but{H5:Hp}{w sm e:Addr}{f:WF}{ms:List Mv}{m:Str}{i j:Nat}{σ:St}{H2:Hp}(h:Ku H5 w sm e f ms m i j σ H2):cG [sm] H5 H2:=by
 cases h
 assumption
def Eb{f:Addr}{fd:FuncData}(F:dN K "_law_open" "_law_open" yb f fd)(T:Txt K mg)
  (DS:gG P w K mg base "_law_sets" pM ["_law_web","_law_places","_law_ahead"] 5 (r6 5)) :
  bf P w K mg base cZ 6 f fd ["_law_web"] Cj:=by
 apply F.oK nU λcdv A outer s H vs Q E hr h=>?_
 ·obtain⟨w,md,sq,cq,pq,tq,dq,ms,f,rfl,O,bl,gX,lm,hm,kk⟩:=h
  have hsl:=LG
  have hu:=c7 hr
  have hu2:=vU hr
  apply#[_,ag (cM 1 nU (bu af))
   (ag (bO LC rfl (AQ (bC hu (pv 0) bX (λ_ _=>rfl))) (eD rfl (aU (fE 2 nU) (aU (fE 3 nU) di)))
    (ak (bO LC rfl (aZ (eV DS hr (aa (pv 0) (aa (aQ cL (pv 3) aj (λ_ _=>rfl)) (aa (bu af) af))))) (fE 4 nU)
     (ak (bK (aY rn (cX (aa (pv 2) (aa (pv 4) af))) (bC hu (pv 0) bX (λ_ _=>rfl)) (by with_unfolding_all rfl))
      (ak (a9 (df Lr Lv Lw bb (pv 1) (aa (cX (aa (pv 2) (aa (pv 4) af))) af)))) aM)))))
   (ak (aK (aA vR rfl T.aL cf (aa (pv 1) af))))),?_]
  clear hu
  dsimp only[bZ,Cx.dY]
  apply#[LA _,λsm nsm=>?_]
  obtain⟨H0,eU,s0,hsm0⟩:=fL nsm (.lst [])
  rw[eU]
  obtain⟨o,qm,hmd,hpm⟩:=O.mv
  apply#[Z,w,Z,(O.ow.same s0).CK,md,o,Z,s0 _ _ hmd,zg (OpI H w sm f ms) #[none,none,none,[],rfl,s0,hsm0,(λ_ h=>nomatch h),by simp] (λi σ H2 _ #[_,_,_,_,_,s,_,_,_]=>s _ _ hmd) ?_ ?_]
  ·rintro i kx vx pp σ H2 hkv ⟨v2,v3,v4,qs,rfl,s2,hs2,hq2,l2⟩ npp
   obtain⟨m,q,hmi,rfl,rfl,l,g,e1,e2,e3,_⟩:=xl hpm hkv
   have s3:au H2 (upd H2 pp (.tup [kV (Sum.inr m.1),V.ref q])):=ao npp
   have hpp:(upd H2 pp (.tup [kV (Sum.inr m.1),V.ref q])) pp=some (.tup [.str m.1,.ref q]):=ae
   apply#[pp,Z,cz.of ae,rfl,?_]
   generalize upd H2 pp (.tup [kV (Sum.inr m.1),V.ref q])=H3 at s3 hpp ⊢
   have s03:=s2.trans s3
   have hmm:=Lg hmi
   obtain⟨nd4,l4⟩:=hm m hmm
   have il:=(Lh.mp hmi).1
   apply#[_,Z,_,Z,rfl,Z,Z,q,_,0,Z,rfl,cz.of (s03 _ _ e1),aD (j:=0) rfl,LA _,λa0 na0=>?_]
   obtain⟨H4,eU,s4,ha0⟩:=fL na0 (.lst [])
   rw[eU]
   have s04:=s03.trans s4
   have ls:(aL m.2.1).length<=4:=by rw[(dy _).length_eq];exact l4
   have sz:=LM (um f (aL m.2.1) []) (De ((dy _).nodup_iff.mpr nd4) ls gX)
   apply#[w,md,sq,cq,pq,tq,dq,l,a0,f,aL m.2.1,[],rfl,O.ow.same s04,bl,by lia,s04 _ _ e2,ha0,by lia,by simp;lia,by lia,λH5 r ts s5 nr hr5 tp5=>?_]
   have s05:=s04.trans s5
   have hs5:=s5 _ _ (s4 _ _ (s3 _ _ hs2))
   have lt:=Lz tp5
   apply#[r,rfl,#[_,aH.of hr5],bJ (K:=K) (a:=r) (xs:=ts.map V.ref) (Ku H5 w sm q f ms m.1 i)
    #[_,qs,rfl,λ_ _ e _=>e,hs5,λq hq=>(hq2 q hq).imp λk z=>#[z.1.same λ_ _ e=>s5 _ _ (s4 _ _ (s3 _ _ e)),z.2],LM l2 (Nat.le_add_right _ 0)] (λj σ H6 _ h=>aH.of (h.but _ _ hr5 (by simp;exact(aq (s4 _ _ (s3 _ _ hs2)) nr).symm))) ?_ ?_]
   ·rintro j v σ H6 hj ⟨v4,qs,rfl,b6,hs6,hq6,l6⟩
    obtain⟨tp,htj,rfl⟩:=cO hj
    obtain⟨T',hT,hTp⟩:=br tp5 htj
    have hTp6:=b6 _ _ hTp (by simp;exact aX hTp hs5 (λz=>nomatch z))
    have s06:au H H6:=λc o e=>b6 _ _ (s05 _ _ e) (by simp;exact aq e nsm)
    obtain⟨qc,hc,cm⟩:=(O.same s06).cm
    apply#[Z,Z,by show 2<=sizeLine;lia,λp np=>?_]
    obtain⟨H7,eU,s7,hp7⟩:=fL np (.tup [.str m.1,.ref tp])
    rw[eU]
    apply#[Z,w,Z,(O.ow.same (s06.trans s7)).uS,p,cq,qc,f.oc,(m.1,T'),rfl,rfl,hu2,#[tp,hp7,s7 _ _ hTp6],s7 _ _ hc,Paired.cc cm λ_ _ #[t,a,b]=>#[t,s7 _ _ a,s7 _ _ b],Z,?_]
    have b7:cG [sm] H5 H7:=b6.same s7
    have hs7:=s7 _ _ hs6
    have hq7:∀q∈qs,∃k,gK H7 k q/\IA f ms k:=λq hq=>(hq6 q hq).imp λk z=>#[z.1.same λ_ _ e=>s7 _ _ e,z.2]
    cases hin:decide ((m.1,T')∈f.oc) with
    |true=>exact bz #[_,qs,rfl,b7,hs7,hq7,by lia]
    |false =>
     have jl:=(Lh.mp htj).1
     apply cy #[Z,.inl #[rfl,_,aH.of hs7],Z,Z,by show 2<=sizeLine;lia,λp2 np2=>?_]
     obtain⟨H8,eU,s8,hp8⟩:=fL np2 (.tup [.str m.1,.ref tp])
     rw[eU]
     have hs8:=s8 _ _ hs7
     have up:∀{k:Pr} {q:Addr} {o:HO},gK H8 k q->gK (upd H8 sm o) k q:=λz=>z.same λc xs e=>by rw[ai (aX e hs8 (λz=>nomatch z))];exact e
     apply#[sm,_,Z,rfl,hs8,by rw[K4];lia,_,qs++[p2],rfl,(b7.same s8).upd (by simp),by rw[ae,Ll];rfl,λq hq=>?_,by rw[K5,Np];lia]
     rcases K9.mp hq with z|z
     ·obtain⟨k,k1,k2⟩:=hq7 q z
      exact#[k,up (k1.same λ_ _ e=>s8 _ _ e),k2]
     ·cases LZ.mp z
      exact#[(m.1,T'),up #[tp,hp8,s8 _ _ (s7 _ _ hTp6)],m,hmm,rfl,Lg hT,of_decide_eq_false hin]
   ·rintro σ H6 ⟨v4,qs,rfl,b6,hs6,hq6,l6⟩
    apply#[_,_,_,qs,rfl,λc o e=>b6 _ _ (s05 _ _ e) (by simp;exact aq e nsm),hs6,hq6,?_]
    rw[K4]at l6
    lia
  ·rintro σ H2 ⟨v2,v3,v4,qs,rfl,s2,hs2,hq2,l2⟩
   apply#[Z,sm,qs,rfl,aH.of hs2,hu2,λq hq=>?_,λp qs' np sub _=>?_]
   ·obtain⟨k,⟨t,a,b⟩,_⟩:=hq2 q hq
    exact#[k.1,t,k.2,a,b]
   ·apply kk _ p qs' (s2.trans (ao np)) (s2.free np) ae λq hq=>?_
    obtain⟨k,k1,k2⟩:=hq2 q (sub q hq)
    exact#[k,k1.same λ_ _ e=>ao np _ _ e,k2]
abbrev rP:Stmt:=top 61
def JO(K:PySem.W.Frag)(H:Hp)(a b:Addr):Prop:=∃xs ys,H a=some (.tup xs)/\H b=some (.tup ys)/\xs.length=2/\Paired (L2.Alike K H) xs ys
def yi(K:PySem.W.Frag):Sp:=λvs H Q _=>∃(a b:Addr) (as bs:List Addr),vs=[.ref a,.ref b]/\H a=some (.lst (as.map V.ref))/\H b=some (.lst (bs.map V.ref))/\as.length<=300/\Paired (JO K H) as bs/\Q (.bl true) H
def yz:aF ["_law_found","_law_due","_law_k"] ["_law_found","_law_due"] (av rP):=ff
def CD{f:Addr}{fd:FuncData}(F:dN K "_law_alike" "_law_alike" rP f fd)(T:Txt K mg)(T2:Txt2 mg):bf P w K mg base cZ 1 f fd ["_law_found","_law_due"] (yi K):=by
 apply F.oK yz λcdv A outer s H vs Q E hr h=>?_
 ·obtain⟨a,b,as,bs,rfl,ha,hb,l3,al,kk⟩:=h
  have hsl:=LG
  have lab:=Lz al
  apply#[_,ag (bK (PW.pt (pw_or (cF (ck (aA gS rfl T.isi qC (aa (pv 0) (aa (jb (v:=.ty "list") rfl T.lst dW rfl) af))))) (pw_or1 (aY ou (aA bB rfl T.len cY (aa (pv 0) af)) (aA bB rfl T.len cY (aa (pv 1) af)) (bp _))))) (ak cH) aM)
   (ag (bO LC rfl (fj rfl T2.rng (aa (aA bB rfl T.len cY (aa (pv 1) af)) af)) (fE 2 yz)
    (ak (bK (PW.pt (pw_or (cF (ck (aA gS rfl T.isi qC (aa (aQ aI (pv 0) (pv 2) (λ_ _=>rfl)) (aa (jb (v:=.ty "tuple") rfl T.tup eA rfl) af)))))
     (pw_or (aY ou (aA bB rfl T.len cY (aa (aQ aI (pv 0) (pv 2) (λ_ _=>rfl)) af)) aj (bp _))
     (pw_or1 (aY pN (aQ aI (pv 0) (pv 2) (λ_ _=>rfl)) (aQ aI (pv 1) (pv 2) (λ_ _=>rfl)) (bp _)))))) (ak cH) aM)))
   (ak (aK iz))),?_]
  ac_rfl
  apply#[Z,_, "list",_,true,rfl,iw.lst ha,(by rfl),true,rfl,bz #[Z,_,as.length,rfl,.inl #[_,aH.of ha,by rw[K4]],Z,_,bs.length,rfl,.inl #[_,aH.of hb,by rw[K4]],rfl,Z,?_]]
  rw[show(!decide (V.int as.length=V.int bs.length))=false by rw[lab];simp]
  apply bz #[Z,_,bs.length,rfl,.inl #[_,aH.of hb,by rw[K4]],Z,by lia,by lia,g0 (lo:=0) (n:=bs.length) (λi σ H2=>H2=H/\∃v,σ=[some (.ref a),some (.ref b),v]) #[rfl,none,rfl] ?_ ?_]
  ·rintro i σ H2 hi ⟨rfl,v,rfl⟩
   rw[show(0:Int)+(i:Int)=i from OW _]
   have hbi:bs[i]?=some (bs[i]'hi):=K7 hi
   obtain⟨p,hai,xs,ys,hx,hy,lx,pa⟩:=br al hbi
   generalize bs[i]'hi=q at hbi hy
   have ga:(as.map V.ref)[i]?=some (.ref p):=by rw[LD,hai];rfl
   have gb:(bs.map V.ref)[i]?=some (.ref q):=by rw[LD,hbi];rfl
   apply#[Z,Z,a,_,_,Z,rfl,aH.of ha,aD (j:=i) ga,_, "tuple",_,true,rfl,iw.tup hx,(by rfl),true,rfl,bz #[Z,Z,a,_,_,Z,rfl,aH.of ha,aD (j:=i) ga,_,2,rfl,.inr #[_,cz.of hx,lx.symm],rfl,Z,bz #[Z,Z,a,_,_,Z,rfl,aH.of ha,aD (j:=i) ga,Z,Z,b,_,_,Z,rfl,aH.of hb,aD (j:=i) gb,p,q,xs,ys,rfl,rfl,c7 hr,cz.of hx,cz.of hy,pa,Z,bz #[rfl,_,rfl]]]]
  ·rintro σ H2 ⟨rfl,v,rfl⟩
   exact kk
abbrev oP:Stmt:=top 42
abbrev uo:Stmt:=top 62
abbrev yD:Stmt:=inClass oG 1
abbrev ES:Stmt:=inClass oG 2
abbrev E4:Stmt:=inClass oG 3
def qR:Sp:=λvs H Q _=>∃n:Int,vs=[.int n]/\Q (.bl true) H
def E8:aF ["_law_found"] ["_law_found"] (av oP):=ff
def Ib:bootBuiltins "int"=some (.type "int"):=by decide +kernel
def Gj:bootBuiltins "bool"=some (.type "bool"):=by decide +kernel
def Af{f:Addr}{fd:FuncData}(F:dN K "_law_whole" "_law_whole" oP f fd)(T:Txt K mg)(mi:mg "int"=none)(mb:mg "bool"=none):bf P w K mg base cZ 1 f fd ["_law_found"] qR:=by
 apply F.oK E8 λcdv A outer s H vs Q E hr h=>?_
 ·obtain⟨n,rfl,k⟩:=h
  apply#[_,ak (aK (jA (aA gS rfl T.isi qC (aa (pv 0) (aa (jb (v:=.ty "int") rfl mi Ib rfl) af))) (jI (Bd (aA gS rfl T.isi qC (aa (pv 0) (aa (jb (v:=.ty "bool") rfl mb Gj rfl) af))))))),?_]
  ac_rfl
  exact#[Z,_, "int",_,true,rfl,iw.int n,(by rfl),true,rfl,cy #[Z,_, "bool",_,false,rfl,iw.int n,(by rfl),false,rfl,k]]
def AO(P:Program)(w:World)(C CW:Addr):Sp:=λvs H Q _=>∃(x:Addr) (B:WA) (ms:List Mv) (S:List Str) (f:WF),vs=[.ref x]/\eR P w C CW H x B ms S f/\Q (.ref B.p) H
def Gq:aF ["self"] ["self"] (av yD):=ff
def DJ{f C CW:Addr}{fd:FuncData}(F:dN K "net" "Web.net" yD f fd)(CT:jD K CW):bf P w K mg base cZ 1 f fd ["self"] (AO P w C CW):=by
 apply F.oK Gq λcdv A outer s H vs Q E hr h=>?_
 ·obtain⟨x,B,ms,S,f,rfl,W,k⟩:=h
  apply#[_,ak (aK (bM (pv 0) rfl)),?_]
  ac_rfl
  exact#[Z,x,CW,B.dx,_,Z,W.ad.ins,CT.cl,CT.nN,B.fN,k]
def xE(P:Program)(w:World)(C CW:Addr)(sel:WA->Addr):Sp:=λvs H Q _=>∃(x:Addr) (B:WA) (ms:List Mv) (S:List Str) (f:WF) (ys:List V),vs=[.ref x]/\eR P w C CW H x B ms S f/\H (sel B)=some (.lst ys)/\∀q,H q=none->Q (.ref q) (upd H q (.lst ys))
def HF:aF ["self"] ["self"] (av ES):=ff
def Ij:aF ["self"] ["self"] (av E4):=ff
def Hn{f C CW:Addr}{fd:FuncData}(F:dN K "spots" "Web.spots" ES f fd)(T:Txt K mg)(CT:jD K CW):bf P w K mg base cZ 1 f fd ["self"] (xE P w C CW WA.aS):=by
 apply F.oK HF λcdv A outer s H vs Q E hr h=>?_
 ·obtain⟨x,B,ms,S,f,ys,rfl,W,hy,k⟩:=h
  apply#[_,ak (aK (a8 bF rfl T.lst dW (aa (bM (pv 0) rfl) af))),?_]
  ac_rfl
  exact#[Z,x,CW,B.dx,_,Z,W.ad.ins,CT.cl,CT.nS,B.fS,B.aS,Z,.inl (aH.of hy),k]
def Gs{f C CW:Addr}{fd:FuncData}(F:dN K "occurrences" "Web.occurrences" E4 f fd)(T:Txt K mg)(CT:jD K CW):bf P w K mg base cZ 1 f fd ["self"] (xE P w C CW WA.aO):=by
 apply F.oK Ij λcdv A outer s H vs Q E hr h=>?_
 ·obtain⟨x,B,ms,S,f,ys,rfl,W,hy,k⟩:=h
  apply#[_,ak (aK (a8 bF rfl T.lst dW (aa (bM (pv 0) rfl) af))),?_]
  ac_rfl
  exact#[Z,x,CW,B.dx,_,Z,W.ad.ins,CT.cl,CT.nO,B.fO,B.aO,Z,.inl (aH.of hy),k]
def pW(T:List Nat):(nats T).all gE=true:=Mz.mpr λv hv=>by
 obtain⟨n,_,rfl⟩:=LQ.mp hv
 rfl
def EI(P:Program)(w:World)(C CW:Addr):Sp:=λvs H Q _=>∃(x w' md sq cq pq tq dq:Addr) (B:WA) (ms:List Mv) (S:List Str) (f:WF),vs=[.ref x,.ref w']/\eR P w C CW H x B ms S f/\iG H w' md sq cq pq tq dq ms f/\f.W.sp.length<=250/\f.oc.length<=200/\(∀k∈f.oc,k.2.length<=4)/\∀H',au H H'->Q (.bl true) H'
def iH:aF ["_law_web","_law_own_web","_law_spots","_law_some","_law_place","_law_giver","_law_move","_law_taken"] ["_law_web","_law_own_web"] (av uo):=ff
inductive Jh(H:Hp)(x w sp so:Addr)(σ:St)(H2:Hp):Prop
 |mk (v4 v5 v6 v7:Option V) (q0:σ=[some (.ref x),some (.ref w),some (.ref sp),some (.ref so),v4,v5,v6,v7]) (q1:au H H2)
def Jh.sm{H:Hp}{x w sp so:Addr}{σ:St}{H2:Hp}(h:Jh H x w sp so σ H2):au H H2:=by
 cases h
 assumption
theorem Fj{K:PySem.W.Frag}{H:Hp}:∀{sp:List (Str×Option Nat)} {as bs:List Addr},fh H sp as->fh H sp bs->Paired (JO K H) as bs
 |_,_,_,.nil,.nil=>.nil
 |p::sp,_,_,.cons h r,.cons h' r'=>.cons #[_,_,h,h',rfl,du (by cases p.2 <;> rfl)] (Fj r r')
theorem FU{K:PySem.W.Frag}{H:Hp}:∀{oc:List (Str×List Nat)} {as bs:List Addr},kj H oc as->EZ H oc bs->Paired (JO K H) as bs
 |_,_,_,.nil,.nil=>.nil
 |_::_,_,_,.cons #[t,h,ht] r,.cons #[t',h',ht'] r'=>.cons #[_,_,h,h',rfl,.cons (.flat rfl) (.cons (.tup (cz.of ht) (cz.of ht') (pW _)) .nil)] (FU r r')
def Dd{f C CW:Addr}{fd:FuncData}(F:dN K "_law_told" "_law_told" uo f fd)(T:Txt K mg)(CT:jD K CW)
  (DS:kI P w K mg base CW "spots" "Web.spots" ES ["self"] 1 (xE P w C CW WA.aS))
  (DO:kI P w K mg base CW "occurrences" "Web.occurrences" E4 ["self"] 1 (xE P w C CW WA.aO))
  (DA:gG P w K mg base "_law_alike" rP ["_law_found","_law_due"] 1 (yi K))
  (DW:gG P w K mg base "_law_whole" oP ["_law_found"] 1 qR) :
  bf P w K mg base cZ 2 f fd ["_law_web","_law_own_web"] (EI P w C CW):=by
 apply F.oK iH λcdv A outer s H vs Q E hr h=>?_
 ·obtain⟨x,w',md,sq,cq,pq,tq,dq,B,ms,S,f,rfl,W,O,l1,l2,l4,kk⟩:=h
  have hsl:=LG
  have hu:=c7 hr
  apply#[_,ag (cM 2 iH (dw (pv 0) CT.cl DS.d.mt DS.g hr DS.d.bd .nil bR))
   (ag (cM 3 iH (dw (pv 0) CT.cl DO.d.mt DO.g hr DO.d.bd .nil bR))
   (ag (bK (PW.pt (pw_or (cF (ck (eV DA hr (aa (pv 2) (aa (bC hu (pv 1) bX (λ_ _=>rfl)) af))))) (pw_or1 (cF (ck (eV DA hr (aa (pv 3) (aa (bC hu (pv 1) bX (λ_ _=>rfl)) af)))))))) (ak cH) aM)
   (ag (bO LC rfl (aZ (pv 2)) (eD rfl (aU (fE 4 iH) (aU (fE 5 iH) di)))
    (ak (bK (PW.pt (pw_and (mW (rO (pv 5))) (pw_and1 (cF (ck (eV DW hr (aa (pv 5) af))))))) (ak cH) aM)))
   (ag (bO LC rfl (aZ (pv 3)) (eD rfl (aU (fE 6 iH) (aU (fE 7 iH) di)))
    (ak (bK (PW.pt (pw_or (cF (ck (aA gS rfl T.isi qC (aa (pv 7) (aa (jb (v:=.ty "tuple") rfl T.tup eA rfl) af)))))
     (pw_or1 (cF (ck (aA (gY rfl) rfl T.all qk (aa (cE (N:=["_law_spot"]) (n:=1) (ci:=[]) rfl (jM (pv 7))
       (oO iH)
       (λz=>#[kJ 0,cR,eV DW (hr.mono (by decide)) (aa (pv 0) af)])) af))))))) (ak cH) aM)))
   (ag (a9 (df Lr Lv Lw bb (pv 2) (aa (cX (aa bX (aa aj af))) af)))
   (ag (a9 (df Lr Lv Lw bb (pv 3) (aa (cX (aa bX (aa (cX (aa aj af)) af))) af)))
   (ak (aK iz)))))))),?_]
  clear hu
  dsimp only[bZ,Cx.dY]
  obtain⟨sq1,sp1,sp2⟩:=W.ad.sp
  obtain⟨oq1,oc1,oc2,_⟩:=W.oc
  obtain⟨sq2,sp3,sp4⟩:=O.ow.sp
  obtain⟨oq2,oc3,oc4⟩:=O.cm
  apply#[Z,x,B.dx,Z,W.ad.ins,ed B _ (by decide +kernel),x,B,ms,S,f,Z,W,sp1,λsd nsd=>?_]
  obtain⟨H1,eU,t1,hsd⟩:=fL nsd (.lst (sq1.map V.ref))
  rw[eU]
  have W1:=W.same t1
  apply#[Z,x,B.dx,Z,W1.ad.ins,ed B _ (by decide +kernel),x,B,ms,S,f,Z,W1,t1 _ _ oc1,λca nca=>?_]
  have t2:au H1 (upd H1 ca (.lst (oq1.map V.ref))):=ao nca
  have hca:(upd H1 ca (.lst (oq1.map V.ref))) ca=some (.lst (oq1.map V.ref)):=ae
  have nsc:sd≠ca:=aq hsd nca
  generalize upd H1 ca (.lst (oq1.map V.ref))=H2 at t2 hca ⊢
  have s2:=t1.trans t2
  have hsd2:=t2 _ _ hsd
  have O2:=O.same s2
  have ls:=Lz sp2
  have lo:=Lz oc2
  have sm1:fh H2 f.W.sp sq1:=Paired.cc sp2 λ_ _ e=>s2 _ _ e
  have om1:kj H2 f.oc oq1:=Paired.cc oc2 λ_ _ e=>e.same λ_ _ e=>s2 _ _ e
  apply#[Z,Z,w',Z,O2.ow.kQ,sd,sq,sq1,sq2,rfl,hsd2,s2 _ _ sp3,by lia,Fj sm1 (Paired.cc sp4 λ_ _ e=>s2 _ _ e),true,rfl,bz ?_]
  apply#[Z,Z,w',Z,O2.ow.uS,ca,cq,oq1,oq2,rfl,hca,s2 _ _ oc3,by lia,FU om1 (Paired.cc oc4 λ_ _ #[t,a,b]=>#[t,s2 _ _ a,s2 _ _ b]),true,rfl,bz ?_]
  apply#[Z,sd,rfl,#[_,aH.of hsd2],bJ (K:=K) (a:=sd) (xs:=sq1.map V.ref) (λ_=>Jh H2 x w' sd ca) #[none,none,none,none,rfl,au.refl _] (λ_ _ _ _ h=>aH.of (h.sm _ _ hsd2)) ?_ ?_]
  ·rintro i v σ H3 hi ⟨v4,v5,v6,v7,rfl,s3⟩
   obtain⟨q,hq,rfl⟩:=cO hi
   obtain⟨p,hp,e⟩:=br sm1 hq
   apply#[q,Z,cz.of (s3 _ _ e),rfl,_,Z,_,Z,rfl,Z,Z,?_]
   cases p.2 with
   |none=>exact bz (bz #[_,_,_,Z,s3])
   |some g=>exact cy #[Z,Z,true,rfl,bz #[_,_,_,Z,s3]]
  ·rintro σ H3 ⟨v4,v5,v6,v7,rfl,s3⟩
   have hca3:=s3 _ _ hca
   apply#[Z,ca,rfl,#[_,aH.of hca3],bJ (K:=K) (a:=ca) (xs:=oq1.map V.ref) (λ_=>Jh H3 x w' sd ca) #[_,_,_,Z,au.refl _] (λ_ _ _ _ h=>aH.of (h.sm _ _ hca3)) ?_ ?_]
   ·rintro i v σ H4 hi ⟨v4,v5,v6,v7,rfl,s4⟩
    obtain⟨q,hq,rfl⟩:=cO hi
    obtain⟨k,hk,t,e1,e2⟩:=br om1 hq
    have lk:=l4 k (Lg hk)
    have s34:=s3.trans s4
    have e2:=s34 _ _ e2
    apply#[q,Z,cz.of (s34 _ _ e1),rfl,_,Z,_,Z,rfl,Z,_, "tuple",_,true,rfl,iw.tup e2,(by rfl),true,rfl,bz ?_]
    apply#[Z,t,rfl,#[_,cz.of e2],λz D hD=>oF (K:=K) (a:=t) (xs:=nats k.2) (λj ys H5=>ys=List.replicate j (V.bl true)/\H5 D=some (.lst ys)/\au H4 H5) #[rfl,ae,ao hD] (λj ys H5 _ p=>cz.of (p.2.2 _ _ e2)) ?_ ?_]
    ·rintro j vv ys H5 hj ⟨rfl,hys,s5⟩
     obtain⟨n,hn,rfl⟩:=gI hj
     have jl:=(Lh.mp hn).1
     exact#[Z,Z,hys,by rw[MQ];lia,Qm.symm,ae,aJ s5 hD]
    ·rintro ys H5 ⟨rfl,hys,s5⟩
     apply#[D,List.replicate (nats k.2).length true,rfl,aH.of (by rw[hys,List.map_replicate]),Z,?_]
     rw[show(List.replicate (nats k.2).length true).all id=true by simp]
     exact bz #[_,_,_,Z,s4.trans s5]
   ·rintro σ H4 ⟨v4,v5,v6,v7,rfl,s4⟩
    have s34:=s3.trans s4
    have s04:=s2.trans s34
    apply#[Z,.inl #[rfl,_,aH.of (s34 _ _ hsd2)],by show 2<=sizeLine;lia,λp np=>?_]
    have s5:au H4 (upd H4 p (.tup [.str "a",.int 5])):=ao np
    generalize upd H4 p (.tup [.str "a",.int 5])=H5 at s5 ⊢
    have s25:=s34.trans s5
    have hca5:=s25 _ _ hca
    apply#[sd,_,Z,rfl,s25 _ _ hsd2,by rw[K4];lia,?_]
    have s06:au H (upd H5 sd (.lst (sq1.map V.ref++[.ref p]))):=aJ (s04.trans s5) nsd
    have hca6:=(ai nsc.symm (H:=H5) (o:=.lst (sq1.map V.ref++[.ref p]))).trans hca5
    generalize upd H5 sd (.lst (sq1.map V.ref++[.ref p]))=H6 at s06 hca6 ⊢
    apply#[Z,.inl #[rfl,_,aH.of hca6],by show 1<=sizeLine;lia,λp2 np2=>#[by show 2<=sizeLine;lia,λp3 np3=>?_]]
    have s7:au H6 (upd (upd H6 p2 (.tup [.int 5])) p3 (.tup [.str "a",.ref p2])):=(ao np2).trans (ao np3)
    generalize upd (upd H6 p2 (.tup [.int 5])) p3 (.tup [.str "a",.ref p2])=H7 at s7 ⊢
    exact#[ca,_,Z,rfl,s7 _ _ hca6,by rw[K4];lia,kk _ (aJ (s06.trans s7) (t1.free nca))]
end Uf
namespace HT
open PySem PyProof.Rows
section
open PySem.SeqAt PySem.AutoSeq1 PySem.MeetsSeq PySem.MeetsSeq2 PySem.MeetsSeq3
variable {prog:Program}{w:World}{A:Around}{E:Value->Shared->Prop}{s:Shared}
def j9{t sl:Addr}{items:Array Value}{vl vu:Value}{lo hi:Option Int}{Q:Value->Shared->Prop}(ht:IsTup s.heap t items)(hs:s.heap.IsSliceOf sl vl vu .none)(pl:IsPart vl lo)(pu:IsPart vu hi)
  (h1:dO items.size 0 lo=0) (h2:dO items.size items.size hi=items.size) (h:Q (.ref t) s):wpAny (model prog w) A (getItem (.ref t) (.ref sl)) Q E s:=by
 obtain⟨os,hos,hcs,hds⟩:=id hs
 have hTs:s.TypeIs (.ref sl) "slice":=#[os,hos,hcs]
 unfold getItem
 try with_reducible apply Mn ?_
 first|apply K3 (K6 ?_)|skip
 apply K3 (wpAny_sequenceKey ht.typeIs (by decide) ?_)
 apply K3 (NI (name:=Str.ofString "__getitem__") ht.typeIs Ms
  (MG Ms ht.typeIs entry_tuple_getitem ?_ (args_tuple_getitem _ _)))
 show wpAny _ _ (Builtin.Tuple.tupleItemsOf (.ref t) >>= _) _ _ s
 apply K3 (tupleItemsOf_ ht ?_)
 apply K3 (NB hTs ?_)
 rw[Ls (by decide)]
 apply K3 (hC hs pl pu ?_)
 show wpAny _ _ (if (((dO items.size 0 lo:Nat):Int)==0&&(1:Int)==1&&(dO items.size items.size hi-dO items.size 0 lo)==items.size)=true then _ else _) _ _ s
 rw[Ls (by rw[h1,h2];simp)]
 apply K3 ?_
 unfold Builtin.Tuple.tupleIsExact
 apply K3 (NB ht.typeIs ?_)
 apply K6 ?_
 rw[Ls (by decide)]
 exact K3 (MV (K6 #[Z,K6 h]))
end
end HT
namespace L2
open PySem PySem.Spec PyProof.Rows
section
variable {X:Cx}
def KA(K:PySem.W.Frag):V->Option Int->Option Int->Hp->VK->Prop:=λx lo hi H Q=>∃a xs,x=.ref a/\H a=some (.tup xs)/\∀p H',au H H'->H' p=some (.tup (dR xs lo hi))->Q (.ref p) H'
def xU:HN X (KA X.K):=by
 intro pins s σ H x v vl vu lo hi sl Q I rx hs pl pu h
 obtain⟨a,xs,rfl,hx,q⟩:=h
 by_cases hw:HT.dO xs.length 0 lo=0/\HT.dO xs.length xs.length hi=xs.length
 ·cases rx
  obtain⟨its,r,ht,hz⟩:=I.tuple (cz.of (K:=X.K) hx)
  have hlen:its.toArray.size=xs.length:=by rw[Lu];exact r.length.symm
  apply#["tuple",_,Ms.lookup,ht.typeIs,?_]
  apply HT.j9 ht hs pl pu (by rw[hlen];exact hw.1) (by rw[hlen];exact hw.2) #[.ref a,H,I,rfl,q a H (au.refl _) ?_]
  rw[show dR xs lo hi=xs by unfold dR;rw[hw.1,hw.2];simp]
  exact hx
 ·exact Gz pins s σ H _ v vl vu lo hi sl Q I rx hs pl pu #[a,xs,rfl,cz.of hx,hw,λp np=>q p _ (Uf.ao np) ae]
end
end L2
namespace Uf
open PySem L2 UfSrt UfB UfTs
abbrev mw:Stmt:=top 63
def ud:Sp:=λvs H Q _=>∃(t:Addr) (c:Int) (T:List Nat),vs=[.ref t,.int c]/\H t=some (.tup (nats T))/\T≠[]/\T.length<=4/\∀H' r U,au H H'->H r=none->H' r=some (.lst (nats U))->U.Perm T->Q (.ref r) H'
def nI:aF ["_law_spots","_law_cell","_law_cut_at","_law_row"] ["_law_spots","_law_cell"] (av mw):=ff
def Am(T:List Nat):(nats T).reverse=nats T.reverse:=(List.map_reverse ..).symm
def Bo(T U:List Nat):nats T++nats U=nats (T++U):=(Ll ..).symm
def zB{f:Addr}{fd:FuncData}(F:dN K "_law_turned" "_law_turned" mw f fd)(T:Txt K mg):bf P w K mg base cZ 1 f fd ["_law_spots","_law_cell"] ud:=by
 apply F.oK nI λcdv A outer s H vs Q E hr h=>?_
 ·obtain⟨t,c,T',rfl,ht,ne,l4,kk⟩:=h
  have hsl:=LG
  apply#[_,ag (cM 2 nI (aw bH (pv 1) (aA bB rfl T.len cY (aa (pv 0) af))))
   (ag (cM 3 nI (aw eC (a8 bF rfl T.lst dW (aa (bY xU (pv 0) (bV (pv 2)) cU) af)) (a8 bF rfl T.lst dW (aa (bY xU (pv 0) cU (bV (pv 2))) af))))
   (ag (bK (aY fJ (aw bH (aw bU (pv 1) aj) aj) aj (bp _)) (ak (a9 (vm Lr PySem.F.slot_list_reverse PySem.F.type_list_reverse wg (pv 3)))) aM)
   (ak (aK (pv 3))))),?_]
  ac_rfl
  have lp:0<T'.length:=List.length_pos_iff.mpr ne
  apply#[Z,Z,_,T'.length,rfl,.inr #[_,cz.of ht,by rw[bD]],c,Z,rfl,(by lia),?_]
  obtain⟨k,hk⟩:∃k:Nat,c % (T'.length:Int)=k:=#[(c % (T'.length:Int)).toNat,by have:=Mc c (show(T'.length:Int)≠0 by lia);lia]
  rw[hk]
  apply#[Z,Z,Z,t,Z,ht,λp1 H1 s1 hp1=>#[p1,Z,.inr (cz.of hp1),λq1 nq1=>?_]]
  rw[show dR (nats T') (some (k:Int)) none=nats (T'.drop k) by rw[Hf];exact(Oc ..).symm]
  obtain⟨H2,eU,s2,hq1⟩:=fL nq1 (.lst (nats (T'.drop k)))
  rw[eU]
  apply#[Z,Z,Z,t,Z,(s1.trans s2) _ _ ht,λp2 H3 s3 hp2=>#[p2,Z,.inr (cz.of hp2),λq2 nq2=>?_]]
  rw[show dR (nats T') none (some (k:Int))=nats (T'.take k) by rw[Ba];exact(Nf ..).symm]
  obtain⟨H4,eU,s4,hq2⟩:=fL nq2 (.lst (nats (T'.take k)))
  rw[eU]
  have s04:=s1.trans (s2.trans (s3.trans s4))
  have ll:=Mp (i:=k) (l:=T')
  have lt:=Lf (i:=k) (l:=T')
  apply#[q1,q2,_,Z,rfl,(s3.trans s4) _ _ hq1,hq2,by rw[bD,bD];lia,λr nr=>?_]
  rw[Bo]
  have pm:(T'.drop k++T'.take k).Perm T':=List.perm_append_comm.trans (by rw[Nr])
  have nr0:=s04.free nr
  have s5:au H (upd H4 r (.lst (nats (T'.drop k++T'.take k)))):=s04.trans (ao nr)
  have hr5:(upd H4 r (.lst (nats (T'.drop k++T'.take k)))) r=some (.lst (nats (T'.drop k++T'.take k))):=ae
  generalize upd H4 r (.lst (nats (T'.drop k++T'.take k)))=H5 at s5 hr5 ⊢
  apply#[Z,c,4,rfl,rfl,(by unfold Cu;decide),_,2,rfl,rfl,(by show(0:Int)<2;decide),rfl,Z,?_]
  show if _ then _ else _
  split
  ·apply⟨_,rfl,.inl ⟨rfl,_,aH.of hr5⟩,r,_,rfl,rfl,hr5,?_⟩
   rw[Am]
   exact#[Z,kk _ r _ (aJ s5 nr0) nr0 ae ((List.reverse_perm _).trans pm)]
  ·exact#[Z,kk _ r _ s5 nr0 hr5 pm]
def Gp(H:Hp)(as:List Addr):Hp:=λb=>if b∈as then none else H b
def jO{H:Hp}{as:List Addr}{b:Addr}{o:HO}:Gp H as b=some o↔b∉as/\H b=some o:=by
 unfold Gp
 split
 next h=>exact#[(λz=>nomatch z),λz=>absurd h z.1]
 next h=>exact#[λz=>#[h,z],λz=>z.2]
def HA:HO->Bool
 |.tup _=>false
 |.ins _ _ _=>false
 |.frz _ _=>false
 |_=>true
def Mu(H:Hp)(as:List Addr):Prop:=∀a∈as,∀o,H a=some o->HA o=true
def Mu.out{H:Hp}{as:List Addr}{a:Addr}{o:HO}(m:Mu H as)(e:H a=some o)(h:HA o=false):a∉as:=λz=>by
 rw[m a z o e]at h
 cases h
def Mu.of{H:Hp}{as:List Addr}(h:∀a∈as,∃o,H a=some o/\HA o=true):Mu H as:=λa ha o e=>by
 obtain⟨o',e',m⟩:=h a ha
 rw[e]at e'
 cases e'
 exact m
abbrev ol(sq cq pq tq dq:Addr):List Addr:=[cq,pq,sq,tq,dq]
section
variable {P:Program}{w:World}{C CW x w' md sq cq pq tq dq:Addr}{H H':Hp}{B:WA}{ms:List Mv}{S:List Str}{f:WF}{bs:List Addr}
def eR.has(h:eR P w C CW H x B ms S f):∀a∈B.l,∃o,H a=some o/\HA o=true:=λa ha=>by
 obtain⟨qs,e1,_,e3⟩:=h.oc
 obtain⟨gs,g1,_⟩:=h.gb
 obtain⟨q2,i1,_⟩:=h.ad.sp
 unfold WA.l at ha
 simp only[Lc,LR,Mt]at ha
 rcases ha with rfl|rfl|rfl|rfl|rfl|rfl|rfl|rfl
 ·exact#[_,h.ad.pl,rfl]
 ·exact#[_,h.ad.tk,rfl]
 ·exact#[_,h.ad.be,rfl]
 ·exact#[_,g1,rfl]
 ·exact#[_,h.ow,rfl]
 ·exact#[_,e3,rfl]
 ·exact#[_,e1,rfl]
 ·exact#[_,i1,rfl]
def eR.mu(h:eR P w C CW H x B ms S f):Mu H B.l:=.of h.has
def eR.but(h:eR P w C CW H x B ms S f)(b:cG bs H H')(m:Mu H bs)(n:∀a∈B.l,a∉bs)(net:cB C (Gp H (B.l++bs)) B.p ms S):eR P w C CW H' x B ms S f:=by
 obtain⟨qs,e1,e2,e3⟩:=h.oc
 obtain⟨gs,g1,g2⟩:=h.gb
 obtain⟨q2,i1,i2⟩:=h.ad.sp
 have tp:∀a xs,H a=some (.tup xs)->H' a=some (.tup xs):=λa xs e=>b _ _ e (m.out e rfl)
 have up:∀a∈B.l,∀o,H a=some o->H' a=some o:=λa ha o e=>b _ _ e (n a ha)
 have hl:B.l=[B.aP,B.aT,B.aB,B.aG,B.aW,B.aN,B.aO,B.aS]:=rfl
 apply#[#[b _ _ h.ad.ins (m.out h.ad.ins rfl),#[q2,up _ (by simp[hl]) _ i1,Paired.cc i2 λ_ _ e=>tp _ _ e],up _ (by simp[hl]) _ h.ad.tk,up _ (by simp[hl]) _ h.ad.be,up _ (by simp[hl]) _ h.ad.pl],#[qs,up _ (by simp[hl]) _ e1,Paired.cc e2 λ_ _ e=>e.same tp,up _ (by simp[hl]) _ e3],up _ (by simp[hl]) _ h.ow,#[gs,up _ (by simp[hl]) _ g1,g2],h.nd,net.same λc o e=>?_]
 obtain⟨n1,e⟩:=jO.mp e
 rw[lO (λz=>n1 (by rw[z];simp[hl]))]
 exact b _ _ e λz=>n1 (Lp _ z)
def iG.has(h:iG H w' md sq cq pq tq dq ms f):∀a∈ol sq cq pq tq dq,∃o,H a=some o/\HA o=true:=λa ha=>by
 obtain⟨qs,e1,_⟩:=h.cm
 obtain⟨q2,i1,_⟩:=h.ow.sp
 simp only[Lc,LR,Mt]at ha
 rcases ha with rfl|rfl|rfl|rfl|rfl
 ·exact#[_,e1,rfl]
 ·exact#[_,h.ow.own,rfl]
 ·exact#[_,i1,rfl]
 ·exact#[_,h.ow.tk,rfl]
 ·exact#[_,h.ow.be,rfl]
def iG.mu(h:iG H w' md sq cq pq tq dq ms f):Mu H (ol sq cq pq tq dq):=.of h.has
def zG.but{as:List Addr}(h:zG H md ms as)(b:cG bs H H')(m:Mu H bs)(sub:∀a∈bs,a∈as):zG H' md ms as:=by
 obtain⟨o,qs,e,hp⟩:=h
 exact#[o,qs,b _ _ e (m.out e rfl),Paired.cc hp λ_ _ #[l,g,e1,e2,e3,n1,n2]=>#[l,g,b _ _ e1 (m.out e1 rfl),b _ _ e2 λz=>n1 (sub _ z),b _ _ e3 λz=>n2 (sub _ z),n1,n2]]
theorem iG.but{as:List Addr}(h:iG H w' md sq cq pq tq dq ms f)(mx:zG H md ms as)(b:cG bs H H')(m:Mu H bs)(n:∀a∈ol sq cq pq tq dq,a∉bs)(nw:w'∉bs)(sub:∀a∈bs,a∈as)(sub':∀a∈ol sq cq pq tq dq,a∈as):iG H' w' md sq cq pq tq dq ms f:=by
 obtain⟨qs,e1,e2⟩:=h.cm
 obtain⟨q2,i1,i2⟩:=h.ow.sp
 have tp:∀a xs,H a=some (.tup xs)->H' a=some (.tup xs):=λa xs e=>b _ _ e (m.out e rfl)
 have up:∀a∈ol sq cq pq tq dq,∀o,H a=some o->H' a=some o:=λa ha o e=>b _ _ e (n a ha)
 obtain⟨o,qm,m1,m2⟩:=mx.but b m sub
 exact#[#[b _ _ h.ow.w nw,#[q2,up _ (by simp) _ i1,Paired.cc i2 λ_ _ e=>tp _ _ e],up _ (by simp) _ h.ow.tk,up _ (by simp) _ h.ow.be,up _ (by simp) _ h.ow.own],#[qs,up _ (by simp) _ e1,Paired.cc e2 λ_ _ #[t,a,b]=>#[t,tp _ _ a,tp _ _ b]],o,qm,m1,Paired.cc m2 λ_ _ #[l,g,e1,e2,e3,n1,n2]=>#[l,g,e1,e2,e3,λz=>n1 (sub' _ z),λz=>n2 (sub' _ z)]]
end
theorem vd{g:Option Nat}:∀(xs:List Str) (p:qB×Nat),(bx g p xs).1.pl.map (·.1)=p.1.pl.map (·.1)
 |[],_=>rfl
 |x::xs,p=>(vd xs (gJ g p x)).trans (kN _ _ _)
structure WK(f:WF)(ms:List Mv)(S:List Str)(k:Nat):Prop where
 gd:Good f
 pk:f.W.pl.map (·.1)=dv ms S
 sl:f.W.sp.length<=12+4*k
 oc:f.oc.length<=k
 ol:∀p∈f.oc,p.2.length<=4
def WK.le{f:WF}{ms:List Mv}{S:List Str}{k j:Nat}(h:WK f ms S k)(hk:k<=j):WK f ms S j:=#[h.gd,h.pk,by have:=h.sl;lia,by have:=h.oc;lia,h.ol]
def uB{ms:List Mv}{S:List Str}(so:Sound ms S):WK (cI (W0 ms S).pl (aL S)) ms S 0:=by
 have sl:=so.Hz
 have l:(aL S).length<=250:=by rw[cP];lia
 apply#[jK _ l,(vd _ _).trans ?_,?_,LA _,λp hp=>(by cases hp)]
 ·show((dv ms S).map λx=>(x,0)).map (·.1)=_
  rw[LY]
  exact Qc _
 ·have:=(gf (W0 ms S).pl l).sp
  show(bx _ _ _).1.sp.length<=_
  rw[this,K5,K4,cP]
  show 0+S.length<=12+4*0
  lia
def EJ{f:WF}{ms:List Mv}{S:List Str}{m:Mv}{T:List Nat}{k:Nat}(so:Sound ms S)(h:WK f ms S k)(c:EE f ms S m T):WK (bN f m.1 T (aL m.2.2)) ms S (k+1):=by
 obtain⟨_,_,_,_,g4⟩:=fA (so.mv m c.mm)
 have sl:=h.sl
 have oc:=h.oc
 apply#[kY h.gd c.may,(vd _ _).trans h.pk,?_,?_,λp hp=>?_]
 ·have:=(gU h.gd c.may).sp
  show(bx _ _ _).1.sp.length<=_
  rw[this,K5,K4,cP]
  show f.W.sp.length+_<=_
  lia
 ·show(f.oc++[_]).length<=_
  rw[K5]
  show f.oc.length+1<=_
  lia
 ·rcases K9.mp (show p∈f.oc++[(m.1,T)] from hp) with z|z
  ·exact h.ol p z
  ·have z:p=(m.1,T):=by simpa using z
   subst z
   exact c.l4
section
variable {P:Program}{w:World}
def tW{C CW x p:Addr}{H H0 H1:Hp}{ms:List Mv}{S:List Str}(N:cB C H p ms S)(s0:au H H0)(nx:H x=none)(hw:AK CW H0 H1 x p (bx none (W0 ms S,0) (aL S)).1)(b:∀c o,H0 c=some o->c≠x->H1 c=some o) :
  ∃B:WA,H1 B.aN=some (.dK [])/\au H (upd H1 B.aN (PD P w B.aN []))/\eR P w C CW (upd H1 B.aN (PD P w B.aN [])) x B ms S (cI (W0 ms S).pl (aL S))/\B.p=p/\∀a∈B.l,H a=none:=by
 obtain⟨dx,aS,aO,aN,aW,aG,aB,aT,aP,hA,hO,hN,hW,hG,nd,fr⟩:=hw
 have fr':∀a∈[aP,aT,aB,aG,aW,aN,aO,aS],H a=none:=λa ha=>s0.free (fr a ha)
 have s1:au H (upd H1 aN (PD P w aN [])):=λc o e=>by
  rw[ai (aq e (fr' aN (by simp)))]
  exact b c o (s0 _ _ e) (aq e nx)
 have k:∀{c o},H1 c=some o->o≠.dK []->(upd H1 aN (PD P w aN [])) c=some o:=λ{c o} e n=>by
  rw[ai (aX e hN n)]
  exact e
 obtain⟨qs,i1,i2⟩:=hA.sp
 apply#[#[p,dx,aS,aO,aN,aW,aG,aB,aT,aP],hN,s1,#[#[k hA.ins (λz=>nomatch z),#[qs,k i1 (λz=>nomatch z),Paired.cc i2 λ_ _ e=>k e (λz=>nomatch z)],k hA.tk (λz=>nomatch z),k hA.be (λz=>nomatch z),?_],#[[],k hO (λz=>nomatch z),.nil,ae],k hW (λz=>nomatch z),#[[],k hG (λz=>nomatch z),rfl],nd,?_],rfl,fr']
 ·show upd H1 aN _ aP=_
  rw[ai (λz=>by simp[z]at nd)]
  exact hA.pl
 ·apply N.same λc o e=>?_
  have n:c≠aP:=aq e (fr' aP (by simp))
  show rm _ aP c=_
  rw[lO n]
  exact s1 _ _ e
end
theorem xr{α:Type}{R:α->α->Prop}:∀{l:List α},l.Pairwise R->∀a∈l,∀b∈l,a≠b->R a b\/R b a
 |[],_,_,ha,_,_,_=>nomatch ha
 |x::l,h,a,ha,b,hb,n=>by
  obtain⟨h1,h2⟩:=Ov.mp h
  rcases Lc.mp ha with e|ha'
  ·rcases Lc.mp hb with e'|hb'
   ·exact absurd (e.trans e'.symm) n
   ·exact .inl (by rw[e];exact h1 b hb')
  ·rcases Lc.mp hb with e'|hb'
   ·exact .inr (by rw[e'];exact h1 a ha')
   ·exact xr h2 a ha' b hb' n
def C4{ms:List Mv}{S:List Str}{f:WF}{k:Nat}(so:Sound ms S)(h:WK f ms S k):f.W.pl.length<=12:=by
 rw[<-K4 (f:=(·.1)),h.pk]
 exact so.pl
def As{f:WF}{ms:List Mv}{S:List Str}{n:Nat}{k:Pr}(so:Sound ms S)(h:WK f ms S n)(hn:n<=50)(o:IA f ms k):∃m,k.1=m.1/\dB k.2=k.2/\EE f ms S m k.2:=by
 obtain⟨m,hm,e,hT,no⟩:=o
 obtain⟨U,h1,h2,h3,h4⟩:=sJ hT
 have h1:k.2=dB U:=h1
 obtain⟨u1,u2,t1,t4,g4⟩:=fA (so.mv m hm)
 have lU:U.length=m.2.1.length:=by rw[<-K4 (f:=rj f),h2,cP]
 have be:∀a b,a<f.W.sp.length->b<f.W.sp.length->(f.W.be.getD a 0).testBit b=true->(f.W.be.getD b 0).testBit a=true:=λa b ha hb z=>by
  obtain⟨z1,z2⟩:=(h.gd.be a b ha hb).mp z
  exact(h.gd.be b a hb ha).mpr #[z1.symm,z2.symm]
 have nd:U.Nodup:=(List.Pairwise.imp_of_mem (λ{a b} ha hb z e=>by
  subst e
  exact((h.gd.be a a (h3 a ha).1 (h3 a ha).1).mp z).1 rfl) h4:U.Pairwise (·≠·))
 have side:∀a∈U,∀b∈U,a≠b->(f.W.be.getD a 0).testBit b=true:=λa ha b hb n=>by
  rcases xr h4 a ha b hb n with z|z
  ·exact be b a (h3 b hb).1 (h3 a ha).1 z
  ·exact z
 have sl:=h.sl
 have oc:=h.oc
 apply#[m,e,by rw[h1];exact nE (eF U),hm,#[λt ht=>?_,λz=>?_,λa ha b hb n=>?_,by rw[cP];lia],by rw[h1,kq];lia,by rw[h1];exact(eF U).nodup_iff.mpr nd,?_,λz=>no (by rw[show k=(m.1,k.2) from Prod.ext e rfl];exact z),by lia,by rw[h.pk];exact rR ms S,C4 so h,λy hy=>by rw[h.pk];exact ot.mpr (.inr #[m,hm,.inr hy])]
 ·rw[h1]at ht
  exact(h3 t (ny.mp ht)).1
 ·rw[h1]at z
  have:=L6 List.length z
  rw[kq]at this
  simp at this
  rw[this]at lU
  simp at lU
  lia
 ·rw[h1]at ha hb
  exact side a (ny.mp ha) b (ny.mp hb) n
 ·rw[h1,kM (((eF U).map _)),h2]
  exact kM (dy _)
def Bh(P:Program)(w:World)(C CW:Addr):Sp:=λvs H Q _=>∃(x l:Addr) (B:WA) (ms:List Mv) (S:List Str) (f:WF) (m:Mv) (U:List Nat),vs=[.ref x,.str m.1,.ref l]/\eR P w C CW H x B ms S f/\Good f/\H l=some (.lst (nats U))/\EE f ms S m (dB U) /\
 ∀H',eR P w C CW H' x B ms S (bN f m.1 (dB U) (aL m.2.2))->cG B.l H H'->Q (nat f.oc.length) H'
def vF:aF ["self","move","spots","taken","occurrence"] ["self","move","spots"] (av xi):=ff
def Fe{f C CW:Addr}{fd:FuncData}(F:dN K "come" "Web.come" xi f fd)(T0:Txt K mg)(CT:jD K CW)
  (DF:kI P w K mg base CW "must_fit" "Web.must_fit" qN ["self","move","spots"] 4 (yE P w C CW))
  (DB:kI P w K mg base CW "must_stand_beside" "Web.must_stand_beside" rB ["self","spots"] 2 (ya P w C CW))
  (DO:kI P w K mg base CW "add_occurrence" "Web.add_occurrence" xA ["self","occurrence"] 4 (Ci P w C CW)) :
  bf P w K mg base cZ 5 f fd ["self","move","spots"] (Bh P w C CW):=by
 apply F.oK vF λcdv A outer s H vs Q E hr h=>?_
 ·obtain⟨x,l,B,ms,S,f,m,U,rfl,W,gd,hl,can,kk⟩:=h
  have hsl:=LG
  apply#[_,ag (cM 3 vF (aA mU rfl T0.aL cf (aa (pv 2) af)))
   (ag (a9 (cJ (pv 0) CT.cl DF.d.mt DF.g hr DF.d.bd .nil bR (aa (pv 1) (aa (pv 3) af))))
   (ag (a9 (cJ (pv 0) CT.cl DB.d.mt DB.g (hr.mono (by decide)) DB.d.bd .nil bR (aa (pv 3) af)))
   (ag (cM 4 vF (cX (aa (pv 1) (aa (a8 cj rfl T0.tup eA (aa (pv 3) af)) af))))
   (ag (bK (aY Ic (pv 4) (bM (pv 0) rfl) (by with_unfolding_all rfl)) (ak cH) aM)
   (ak (aK (cJ (pv 0) CT.cl DO.d.mt DO.g hr DO.d.bd .nil bR (aa (pv 4) af)))))))),?_]
  ac_rfl
  have may:=can.may
  have l4:=can.l4
  have lU:(dB U).length=U.length:=kq U
  apply#[Z,l,U,rfl,aH.of hl,by lia,λta nta=>?_]
  obtain⟨H1,eU,s1,hta⟩:=fL nta (.lst (nats (dB U)))
  rw[eU]
  have W1:=W.same s1
  apply#[Z,x,B.dx,Z,W1.ad.ins,ed B _ (by decide +kernel),Z,Z,x,ta,B,ms,S,f,m,dB U,rfl,W1,can.mm,hta,l4,may.lt,can.nm,λH2 s2=>?_]
  have W2:=W1.same s2
  apply#[Z,x,B.dx,Z,W2.ad.ins,ed B _ (by decide +kernel),Z,x,ta,B,ms,S,f,dB U,rfl,W2,gd.bl,s2 _ _ hta,may.lt,can.nd,may.side,λH3 s3=>?_]
  apply#[Z,Z,ta,Z,.inl #[aH.of ((s2.trans s3) _ _ hta),λtt ntt=>#[by show 2<=sizeLine;lia,λq nq=>?_]]]
  have s4:au H3 (upd (upd H3 tt (.tup (nats (dB U)))) q (.tup [.str m.1,.ref tt])):=(ao ntt).trans (ao nq)
  have htt:(upd (upd H3 tt (.tup (nats (dB U)))) q (.tup [.str m.1,.ref tt])) tt=some (.tup (nats (dB U))):=ao nq _ _ ae
  have hq:(upd (upd H3 tt (.tup (nats (dB U)))) q (.tup [.str m.1,.ref tt])) q=some (.tup [.str m.1,.ref tt]):=ae
  generalize upd (upd H3 tt (.tup (nats (dB U)))) q (.tup [.str m.1,.ref tt])=H4 at s4 htt hq ⊢
  have s04:=(s1.trans s2).trans (s3.trans s4)
  have W4:=W.same s04
  obtain⟨qo,o1,o2,o3⟩:=W4.oc
  have lo:=Lz o2
  have zk:(f.oc.zip qo).map (·.1)=f.oc:=List.map_fst_zip (by lia)
  apply#[Z,Z,x,CW,B.dx,_,Z,W4.ad.ins,CT.cl,CT.nH,B.fH,q,B.aN,(m.1,dB U),f.oc.zip qo,rfl,rfl,vU hr,#[tt,hq,htt],o3,λz hz=>jF o2 hz,Z,?_]
  rw[zk,Lq can.new]
  apply bz ?_
  exact#[Z,x,B.dx,Z,W4.ad.ins,ed B _ (by decide +kernel),Z,x,q,B,ms,S,f,m,dB U,rfl,W4,gd,#[tt,hq,htt],can,λH5 W5 b5=>kk _ W5 λc o e n=>b5 _ _ (s04 _ _ e) n]
abbrev xV:Stmt:=top 64
structure zh(P:Program)(w:World)(C CW:Addr)(H:Hp)(x:Addr)(B:WA)(w' md sq cq pq tq dq:Addr)(ms:List Mv)(S:List Str)(f:WF)(as:List Addr):Prop where
 web:eR P w C CW H x B ms S f
 own:iG H w' md sq cq pq tq dq ms f
 sep:Sep cq pq sq tq dq
 dj:∀a∈B.l,a∉ol sq cq pq tq dq++as
 oa:∀a∈ol sq cq pq tq dq,a∉as
 nw:w'∉B.l++as
 mx:zG H md ms (ol sq cq pq tq dq++(B.l++as))
 net:cB C (Gp H (B.l++(ol sq cq pq tq dq++as))) B.p ms S
def kL{H H':Hp}{as bs cs:List Addr}(b:cG cs H H')(h1:∀a∈cs,a∈as)(h2:∀a∈bs,a∈as):au (Gp H as) (Gp H' bs):=λc o e=>by
 obtain⟨n,e⟩:=jO.mp e
 exact jO.mpr #[λz=>n (h2 c z),b c o e λz=>n (h1 c z)]
def cG.of{H H':Hp}(s:au H H')(as:List Addr):cG as H H':=λc o e _=>s c o e
section
variable {P:Program}{w:World}{C CW x w' md sq cq pq tq dq:Addr}{H H':Hp}{B:WA}{ms:List Mv}{S:List Str}{f f':WF}{as:List Addr}
def zG.same{bs:List Addr}(h:zG H md ms bs)(s:au H H'):zG H' md ms bs:=h.but (bs:=[]) (cG.of s _) (λ_ h=>nomatch h) (λ_ h=>nomatch h)
theorem zh.same(h:zh P w C CW H x B w' md sq cq pq tq dq ms S f as)(s:au H H'):zh P w C CW H' x B w' md sq cq pq tq dq ms S f as :=
 #[h.web.same s,h.own.same s,h.sep,h.dj,h.oa,h.nw,h.mx.same s,h.net.same (kL (cs:=[]) (cG.of s _) (λ_ h=>nomatch h) λ_ h=>h)]
def zh.other(h:zh P w C CW H x B w' md sq cq pq tq dq ms S f as)(b:cG as H H')(m:Mu H as):zh P w C CW H' x B w' md sq cq pq tq dq ms S f as :=
  #[h.web.but b m (λa ha z=>h.dj a ha (Lp _ z)) (h.net.same (kL (cs:=[]) (cG.of (au.refl _) _) (λ_ h=>nomatch h) λa ha=>by simp at ha ⊢;rcases ha with z|z <;> simp[z])),
   h.own.but h.mx b m h.oa (λz=>h.nw (Lp _ z)) (λa z=>by simp[z]) (λa z=>Lj _ z),h.sep,h.dj,h.oa,h.nw,
   h.mx.but b m (λa z=>by simp[z]),h.net.same (kL b (λa z=>by simp[z]) λ_ h=>h)]
def zh.Ir(h:zh P w C CW H x B w' md sq cq pq tq dq ms S f as)(b:cG B.l H H'):iG H' w' md sq cq pq tq dq ms f/\zG H' md ms (ol sq cq pq tq dq++(B.l++as))/\cB C (Gp H' (B.l++(ol sq cq pq tq dq++as))) B.p ms S :=
 #[h.own.but h.mx b h.web.mu (λa ha z=>h.dj a z (Lj _ ha)) (λz=>h.nw (Lj _ z)) (λa z=>by simp[z]) (λa z=>Lj _ z),h.mx.but b h.web.mu (λa z=>by simp[z]),h.net.same (kL b (λa z=>by simp[z]) λ_ h=>h)]
end
def Be(P:Program)(w:World)(C CW:Addr):Sp:=λvs H Q _=>∃(x w' md sq cq pq tq dq:Addr) (B:WA) (ms:List Mv) (S:List Str) (f:WF) (as:List Addr) (n:Nat) (c:Int),vs=[.ref x,.ref w',.int c]/\zh P w C CW H x B w' md sq cq pq tq dq ms S f as/\WK f ms S n/\n<=9/\Sound ms S /\
 ∀H' f',zh P w C CW H' x B w' md sq cq pq tq dq ms S f' as->WK f' ms S (n+1)->cG (B.l++ol sq cq pq tq dq) H H'->Q (.bl true) H'
def jQ:aF ["_law_web","_law_own_web","_law_cell","_law_some","_law_move","_law_spots","_law_handed","_law_kept","_law_number"] ["_law_web","_law_own_web","_law_cell"] (av xV):=ff
def E5{f C CW:Addr}{fd:FuncData}(F:dN K "_law_one_comes" "_law_one_comes" xV f fd)(T:Txt K mg)(CT:jD K CW)
  (DO:gG P w K mg base "_law_open" yb ["_law_web"] 6 Cj)
  (DT:gG P w K mg base "_law_turned" mw ["_law_spots","_law_cell"] 1 ud)
  (DM:kI P w K mg base CW "come" "Web.come" xi ["self","move","spots"] 5 (Bh P w C CW))
  (DW:gG P w K mg base "_law_whole" oP ["_law_found"] 1 qR)
  (DC:gG P w K mg base "_law_comes" rX ["_law_web","_law_move","_law_spots"] 4 xO)
  (DD:gG P w K mg base "_law_told" uo ["_law_web","_law_own_web"] 2 (EI P w C CW)) :
  bf P w K mg base cZ 7 f fd ["_law_web","_law_own_web","_law_cell"] (Be P w C CW):=by
 apply F.oK jQ λcdv A outer s H vs Q E hr h=>?_
 ·obtain⟨x,w',md,sq,cq,pq,tq,dq,B,ms,S,f,as,n,c,rfl,W,wk,n9,so,kk⟩:=h
  have hsl:=LG
  have hu:=c7 hr
  have hr1:cW 1 _:=hr.mono (by decide)
  have hr2:cW 2 _:=hr.mono (by decide)
  have hr4:cW 4 _:=hr.mono (by decide)
  have hr5:cW 5 _:=hr.mono (by decide)
  apply#[_,ag (cM 3 jQ (eV DO hr (aa (pv 1) af)))
   (ag (bK (aY eq_nil (pv 3) (bu af) (bp _)) (ak (aK iz)) aM)
   (ag (jz (aQ aI (pv 3) (aw bH (pv 2) (aA bB rfl T.len cY (aa (pv 3) af))) (λ_ _=>rfl)) (eD rfl (aU (fE 4 jQ) (aU (fE 5 jQ) di))))
   (ag (cM 6 jQ (eV DT hr1 (aa (pv 5) (aa (aw bU (pv 2) aj) af))))
   (ag (cM 7 jQ (a8 bF rfl T.lst dW (aa (pv 6) af)))
   (ag (cM 8 jQ (cJ (pv 0) CT.cl DM.d.mt DM.g hr5 DM.d.bd .nil bR (aa (pv 4) (aa (pv 6) af))))
   (ag (bK (PW.pt (pw_or (cF (ck (eV DW hr1 (aa (pv 8) af)))) (pw_or (aY ou (pv 8) (aA bB rfl T.len cY (aa (bC hu (pv 1) bX (λ_ _=>rfl)) af)) (bp _)) (pw_or1 (aY iX (pv 6) (pv 7) (bp _)))))) (ak cH) aM)
   (ag (a9 (vm Lr PySem.F.slot_list_clear PySem.F.type_list_clear Cm (pv 6)))
   (ag (a9 (eV DC hr4 (aa (pv 1) (aa (pv 4) (aa (pv 5) af)))))
   (ak (aK (jA (eV DD hr2 (aa (pv 0) (aa (pv 1) af))) (jI (eV DD hr2 (aa (pv 0) (aa (pv 1) af))))))))))))))),?_]
  clear hu
  dsimp only[bZ,Cx.dY]
  have sl:=wk.sl
  have lo:=wk.oc
  apply#[Z,w',md,sq,cq,pq,tq,dq,ms,f,rfl,W.own,wk.gd.bl,by lia,so.ml,λm hm=>?_,λH1 r qs s1 nr hr1' hqs=>?_]
  ·obtain⟨u1,u2,t1,t4,g4⟩:=fA (so.mv m hm)
   exact#[jg u1,t4]
  apply#[Z,LA _,λe0 ne0=>?_]
  obtain⟨H2,eU,s2,he0⟩:=fL ne0 (.lst [])
  rw[eU]
  have s02:=s1.trans s2
  have hr2':=s2 _ _ hr1'
  apply#[r,e0,Z,rfl,hr.wJ,aH.of hr2',aH.of he0,Z,?_]
  cases qs with
  |nil=>exact cy (kk H2 f (W.same s02) (wk.le (Mq _)) (cG.of s02 _))
  |cons q0 qs =>
   apply bz ?_
   generalize hq:q0::qs=us at hqs hr2'
   have l0:0<us.length:=by rw[<-hq];exact Nat.succ_pos _
   have m0:0<=c % (us.length:Int):=Mc _ (by lia)
   have m1:c % (us.length:Int)<us.length:=L9 _ (by lia)
   obtain⟨j,ej⟩:∃j:Nat,c % (us.length:Int)=(j:Int):=#[(c % (us.length:Int)).toNat,by lia]
   have jl:j<us.length:=by lia
   have huj:us[j]?=some us[j]:=K7 jl
   generalize us[j]=u at huj
   obtain⟨k,⟨t,ht,htU⟩,op⟩:=hqs u (Lg huj)
   obtain⟨m,ek,eT,can⟩:=As so wk (by lia) op
   obtain⟨mn,Tk⟩:=k
   obtain rfl:mn=m.1:=ek
   have eT:dB Tk=Tk:=eT
   have ne:Tk≠[]:=can.may.ne
   apply#[Z,Z,Z,_,us.length,rfl,.inl #[_,aH.of hr2',by rw[K4]],_,Z,rfl,(by lia),r,_,_,Z,rfl,aH.of hr2',by rw[ej];exact aD (j:=j) (by rw[LD,huj];rfl),u,Z,cz.of (s2 _ _ ht),rfl,_,Z,_,Z,rfl,?_]
   have ht2:=s2 _ _ htU
   apply#[Z,Z,c,64,rfl,rfl,(by unfold Cu;decide),t,_,Tk,rfl,ht2,ne,can.l4,λH3 hd U s3 nhd hhd pU=>?_]
   apply#[Z,hd,Z,.inl (aH.of hhd),λkp nkp=>?_]
   obtain⟨H4,eU,s4,hkp⟩:=fL nkp (.lst (nats U))
   rw[eU]
   have s24:=s3.trans s4
   have s04:=s02.trans s24
   have W4:=W.same s04
   have hhd4:=s4 _ _ hhd
   have eU:dB U=Tk:=(nE pU).trans eT
   have nhd0:=s02.free nhd
   have nkp0:=(s02.trans s3).free nkp
   have inH:∀{a},H a=none->a∉B.l++ol sq cq pq tq dq:=λ{a} n z=>by
    rcases K9.mp z with z|z
    ·obtain⟨_,e,_⟩:=W.web.has a z
     rw[n]at e
     cases e
    ·obtain⟨_,e,_⟩:=W.own.has a z
     rw[n]at e
     cases e
   apply#[Z,x,B.dx,Z,W4.web.ad.ins,ed B _ (by decide +kernel),Z,Z,x,hd,B,ms,S,f,m,U,rfl,W4.web,wk.gd,hhd4,(by rw[eU];exact can),λH5 W5 b5=>?_]
   rw[eU]at W5
   have nBh:=λz=>inH nhd0 (Lj _ z)
   have nBk:=λz=>inH nkp0 (Lj _ z)
   have hhd5:=b5 _ _ hhd4 nBh
   have hkp5:=b5 _ _ hkp nBk
   obtain⟨O5,mx5,net5⟩:=W4.Ir b5
   obtain⟨qc,cq1,cq2⟩:=O5.cm
   have lqc:=Lz cq2
   apply#[Z,Z,true,rfl,bz #[Z,Z,w',Z,O5.ow.uS,_,f.oc.length,rfl,.inl #[_,aH.of cq1,by rw[K4,lqc]],rfl,Z,?_]]
   rw[show(!decide (nat f.oc.length=V.int f.oc.length))=false by unfold nat;simp]
   apply bz #[Z,Z,hd,kp,_,Z,rfl,c7 hr,aH.of hhd5,aH.of hkp5,du (pW U),Z,bz ?_]
   apply#[Z,.inl #[rfl,_,aH.of hhd5],hd,Z,rfl,hhd5,?_]
   have up:∀{c o},H c=some o->(upd H5 hd (.lst [])) c=H5 c:=λ{c o} e=>ai (aq e nhd0)
   have b05:cG B.l H H5:=λc o e n=>b5 _ _ (s04 _ _ e) n
   have b06:cG B.l H (upd H5 hd (.lst [])):=λc o e n=>(up e).trans (b05 _ _ e n)
   have bh:cG [hd] H5 (upd H5 hd (.lst [])):=λc o e n=>by rw[ai (λz=>n (by simp[z]))];exact e
   have W6:eR P w C CW (upd H5 hd (.lst [])) x B ms S (bN f m.1 Tk (aL m.2.2)):=W5.but bh (λa ha o e=>by
    obtain rfl:a=hd:=by simpa using ha
    rw[hhd5]at e
    cases e
    rfl) (λa ha z=>nBh (LZ.mp z ▸ ha)) (W.net.same λc o e=>by
    obtain⟨n,e⟩:=jO.mp e
    exact jO.mpr #[λz=>by
     rcases K9.mp z with z|z
     ·exact n (Lj _ z)
     ·exact aq e nhd0 (by simpa using z),b05 _ _ e λz=>n (Lj _ z)])
   have ht5:=b5 _ _ (s24 _ _ ht2) (W4.web.mu.out (s24 _ _ ht2) rfl)
   have ht6:(upd H5 hd (.lst [])) t=some (.tup (nats Tk)):=by rw[ai (aX ht5 hhd5 (λz=>nomatch z))];exact ht5
   obtain⟨O6,mx6,net6⟩:=W.Ir b06
   generalize upd H5 hd (.lst [])=H6 at b06 W6 ht6 O6 mx6 net6 ⊢
   apply#[Z,Z,Z,w',md,sq,cq,pq,tq,dq,t,ms,f,m,Tk,rfl,O6,W.sep,wk.gd,so.nd,can.mm,ht6,can.may,by lia,λH7 O7 b7=>?_]
   have T7:zh P w C CW H7 x B w' md sq cq pq tq dq ms S (bN f m.1 Tk (aL m.2.2)) as:=#[W6.but b7 O6.mu (λa ha z=>W.dj a ha (Lj _ z)) (net6.same (kL (cs:=[]) (cG.of (au.refl _) _) (λ_ h=>nomatch h) λa ha=>(K9.mp ha).elim (λz=>Lj _ z) λz=>Lp _ (Lj _ z))),O7,W.sep,W.dj,W.oa,W.nw,mx6.but b7 O6.mu (λa z=>Lj _ z),net6.same (kL b7 (λa z=>Lp _ (Lj _ z)) λ_ h=>h)]
   have wk7:WK (bN f m.1 Tk (aL m.2.2)) ms S (n+1):=EJ so wk can
   have sl7:=wk7.sl
   have oc7:=wk7.oc
   apply#[Z,Z,x,w',md,sq,cq,pq,tq,dq,B,ms,S,Z,T7.web,T7.own,by lia,by lia,wk7.ol,λH8 s8=>#[true,rfl,cy ?_]]
   have T8:=T7.same s8
   apply#[Z,Z,x,w',md,sq,cq,pq,tq,dq,B,ms,S,Z,T8.web,T8.own,by lia,by lia,wk7.ol,λH9 s9=>?_]
   exact kk H9 _ (T8.same s9) wk7 λc o e n=>s9 _ _ (s8 _ _ (b7 _ _ (b06 _ _ e λz=>n (Lj _ z)) λz=>n (Lp _ z)))
abbrev qW:Stmt:=top 65
def yH(P:Program)(w:World)(C CW:Addr):Sp:=λvs H Q _=>∃(x d rl bl:Addr) (B:WA) (ms:List Mv) (S:List Str) (f:WF),vs=[.ref x,.ref d]/\eR P w C CW H x B ms S f/\H d=some (.tup [.ref rl,.ref bl])/\jN H rl ms/\H bl=some (.lst (aE S))/\∀H',au H H'->Q (.bl true) H'
def fg:aF ["_law_web","_law_drawn","_law_net_here","_law_name_here","_law_takes","_law_gives","_law_places"] ["_law_web","_law_drawn"] (av qW):=ff
inductive Kk(H:Hp)(x d p:Addr)(σ:St)(H2:Hp):Prop
 |mk (v3 v4 v5:Option V) (q0:σ=[some (.ref x),some (.ref d),some (.ref p),v3,v4,v5,none]) (q1:au H H2)
def Kk.sm{H:Hp}{x d p:Addr}{σ:St}{H2:Hp}(h:Kk H x d p σ H2):au H H2:=by
 cases h
 assumption
inductive JG(H:Hp)(x d p:Addr)(S:List Str)(ms:List Mv)(i:Nat)(σ:St)(H2:Hp):Prop
 |mk (v3 v4 v5:Option V) (l:Addr) (q0:σ=[some (.ref x),some (.ref d),some (.ref p),v3,v4,v5,some (.ref l)]) (q1:au H H2) (q2:H2 l=some (.lst (aE (S++gB (ms.take i)))))
def JG.sm{H:Hp}{x d p:Addr}{S:List Str}{ms:List Mv}{i:Nat}{σ:St}{H2:Hp}(h:JG H x d p S ms i σ H2):au H H2:=by
 cases h
 assumption
def CP{ms:List Mv}{i:Nat}{m:Mv}(h:ms[i]?=some m):gB (ms.take (i+1))=gB (ms.take i)++(m.2.1++m.2.2):=by
 unfold gB
 rw[ay h,Of]
 simp
def yh{ms:List Mv}(h:∀m∈ms,m.2.1.length<=4/\m.2.2.length<=4):(gB ms).length<=8*ms.length:=by
 induction ms with
 |nil=>exact La _
 |cons m ms ih =>
  obtain⟨h1,h2⟩:=h m (by simp)
  have:=ih λm hm=>h m (by simp[hm])
  show((m.2.1++m.2.2)++gB ms).length<=8*(ms.length+1)
  rw[K5,K5]
  lia
def CV{f C CW:Addr}{fd:FuncData}(F:dN K "_law_same_net" "_law_same_net" qW f fd)(T:Txt K mg)(NC:iA K C)(CT:jD K CW)
  (DN:kI P w K mg base CW "net" "Web.net" yD ["self"] 1 (AO P w C CW))
  (DT:kI P w K mg base C "takes" "Net.takes" iP ["self","move"] 3 (iI C λm=>m.2.1))
  (DG:kI P w K mg base C "gives" "Net.gives" jP ["self","move"] 3 (iI C λm=>m.2.2))
  (DP:kI P w K mg base C "places" "Net.places" uP ["self"] 1 (wu C))
  (DS:kI P w K mg base C "start" "Net.start" kP ["self"] 1 (mL C))
  (DM:kI P w K mg base C "moves" "Net.moves" pV ["self"] 1 (rA C)) :
  bf P w K mg base cZ 4 f fd ["_law_web","_law_drawn"] (yH P w C CW):=by
 apply F.oK fg λcdv A outer s H vs Q E hr h=>?_
 ·obtain⟨x,d,rl,bl,B,ms,S,f,rfl,W,hd,hrow,hbl,kk⟩:=h
  have hsl:=LG
  have hr1:cW 1 _:=hr.mono (by decide)
  apply#[_,ag (cM 2 fg (dw (pv 0) CT.cl DN.d.mt DN.g hr1 DN.d.bd .nil bR))
   (ag (bO LC rfl (aZ (aQ cL (pv 1) aj (λ_ _=>rfl))) (eD rfl (aU (fE 3 fg) (aU (fE 4 fg) (aU (fE 5 fg) di))))
    (ak (bK (PW.pt (pw_or (aY iX (cJ (pv 2) NC.cl DT.d.mt DT.g hr DT.d.bd .nil bR (aa (pv 3) af)) (aA cu rfl T.aL cf (aa (pv 4) af)) (bp _)) (pw_or1 (aY iX (cJ (pv 2) NC.cl DG.d.mt DG.g hr DG.d.bd .nil bR (aa (pv 3) af)) (aA cu rfl T.aL cf (aa (pv 5) af)) (bp _))))) (ak cH) aM)))
   (ag (cM 6 fg (a8 bF rfl T.lst dW (aa (aQ cL (pv 1) aj (λ_ _=>rfl)) af)))
   (ag (bO LC rfl (aZ (aQ cL (pv 1) aj (λ_ _=>rfl))) (eD rfl (aU (fE 3 fg) (aU (fE 4 fg) (aU (fE 5 fg) di))))
    (ak (cM 6 fg (aw eC (aw eC (pv 6) (pv 4)) (pv 5)))))
   (ag (bK (PW.pt (pw_or (aY iX (dw (pv 2) NC.cl DP.d.mt DP.g hr1 DP.d.bd .nil bR) (aA (nD rfl) rfl T.aL cf (aa (a8 (nR rfl) rfl T.set BE (aa (pv 6) af)) af)) (bp _)) (pw_or1 (aY pN (dw (pv 2) NC.cl DS.d.mt DS.g hr1 DS.d.bd .nil bR) (a8 cj rfl T.tup eA (aa (aA cu rfl T.aL cf (aa (aQ cL (pv 1) aj (λ_ _=>rfl)) af)) af)) (bp _))))) (ak cH) aM)
   (ak (aK (dP AN (dw (pv 2) NC.cl DM.d.mt DM.g hr1 DM.d.bd .nil bR) (aA cu rfl T.aL cf (aa (cE (N:=["_law_move"]) (n:=1) (ci:=[]) rfl (aZ (aQ cL (pv 1) aj (λ_ _=>rfl)))
    (oO fg)
    (λz=>#[kJ 0,cR,aQ cL (pv 0) aj (λ_ _=>rfl)])) af)) (bp _)))))))),?_]
  ac_rfl
  have N:=W.CU
  have so:=N.so
  obtain⟨qr,hqr,hpr⟩:=hrow
  have lqr:=Lz hpr
  have m4:∀m∈ms,m.2.1.length<=4/\m.2.2.length<=4:=λm hm=>by
   obtain⟨_,_,_,t4,g4⟩:=fA (so.mv m hm)
   exact#[t4,g4]
  have lp:=yh m4
  have ml:=so.ml
  have sl:=so.Hz
  have ins:∀{H'},au H H'->∃dx aP aS aT aG,H' B.p=some (.ins C dx (iD aP aS aT aG)):=λ{H'} s=>by
   obtain⟨dx,aP,aS,aT,aG,kT,kG,h1,_⟩:=(N.same s).at'.ob
   exact#[dx,aP,aS,aT,aG,h1]
  apply#[Z,x,B.dx,Z,W.ad.ins,ed B _ (by decide +kernel),x,B,ms,S,f,rfl,W,?_]
  apply#[Z,d,_,0,Z,rfl,cz.of hd,aD (j:=0) rfl,rl,rfl,#[_,aH.of hqr],bJ (K:=K) (a:=rl) (xs:=qr.map V.ref) (λ_=>Kk H x d B.p) #[none,none,none,rfl,au.refl _] (λ_ _ _ _ h=>aH.of (h.sm _ _ hqr)) ?_ ?_]
  ·rintro i v σ H1 hi ⟨v3,v4,v5,rfl,s1⟩
   obtain⟨q,hq,rfl⟩:=cO hi
   obtain⟨m,hm,l,g,e1,e2,e3⟩:=br hpr hq
   have hm:=Lg hm
   obtain⟨t4,g4⟩:=m4 m hm
   obtain⟨dx,aP,aS,aT,aG,h1⟩:=ins s1
   apply#[q,Z,cz.of (s1 _ _ e1),rfl,_,Z,_,Z,_,Z,rfl,?_]
   apply#[Z,B.p,dx,Z,h1,dc _ _ _ _ sL ug uA sQ,Z,B.p,ms,S,m,rfl,N.same s1,hm,λH2 q2 s2 nq2 hq2=>?_]
   have s12:=s1.trans s2
   apply#[Z,l,m.2.1,rfl,aH.of (s12 _ _ e2),by lia,λp3 np3=>?_]
   obtain⟨H3,eU,s3,hp3⟩:=fL np3 (.lst (aE (aL m.2.1)))
   rw[eU]
   have s13:=s12.trans s3
   obtain⟨dx,aP,aS,aT,aG,h1⟩:=ins s13
   apply#[q2,p3,_,Z,rfl,c7 hr,aH.of (s3 _ _ hq2),aH.of hp3,du (da _),Z,bz ?_]
   apply#[Z,B.p,dx,Z,h1,dc _ _ _ _ yC xC xg yB,Z,B.p,ms,S,m,rfl,N.same s13,hm,λH4 q4 s4 nq4 hq4=>?_]
   have s14:=s13.trans s4
   apply#[Z,g,m.2.2,rfl,aH.of (s14 _ _ e3),by lia,λp5 np5=>?_]
   have s5:au H4 (upd H4 p5 (.lst (aE (aL m.2.2)))):=ao np5
   exact#[q4,p5,_,Z,rfl,c7 hr,aH.of (s5 _ _ hq4),aH.of ae,du (da _),Z,bz #[_,_,Z,s14.trans s5]]
  ·rintro σ H1 ⟨v3,v4,v5,rfl,s1⟩
   apply#[Z,d,_,1,Z,rfl,cz.of (s1 _ _ hd),aD (j:=1) rfl,bl,Z,.inl (aH.of (s1 _ _ hbl)),λl0 nl0=>?_]
   have s2:au H1 (upd H1 l0 (.lst (aE S))):=ao nl0
   have hl0:(upd H1 l0 (.lst (aE S))) l0=some (.lst (aE (S++gB (ms.take 0)))):=by rw[ae];simp[gB]
   generalize upd H1 l0 (.lst (aE S))=H2 at s2 hl0 ⊢
   have s02:=s1.trans s2
   apply#[Z,d,_,0,Z,rfl,cz.of (s02 _ _ hd),aD (j:=0) rfl,rl,rfl,#[_,aH.of (s02 _ _ hqr)],bJ (K:=K) (a:=rl) (xs:=qr.map V.ref) (JG H x d B.p S ms) #[_,_,_,l0,rfl,s02,hl0] (λ_ _ _ _ h=>aH.of (h.sm _ _ hqr)) ?_ ?_]
   ·rintro i v σ H3 hi ⟨v3,v4,v5,l3,rfl,s3,hl3⟩
    obtain⟨q,hq,rfl⟩:=cO hi
    obtain⟨m,hm,l,g,e1,e2,e3⟩:=br hpr hq
    have il:=(Lh.mp hm).1
    obtain⟨t4,g4⟩:=m4 m (Lg hm)
    have lpi:=yh (ms:=ms.take i) λm hm=>m4 m (Mm hm)
    have lti:(ms.take i).length<=12:=by rw[Lf];lia
    apply#[q,Z,cz.of (s3 _ _ e1),rfl,_,Z,_,Z,_,Z,rfl,?_]
    apply#[Z,Z,l3,l,_,Z,rfl,hl3,s3 _ _ e2,by rw[ar,ar,K5];lia,λp4 np4=>?_]
    obtain⟨H4,eU,s4,hp4⟩:=fL np4 (.lst (aE (S++gB (ms.take i))++aE m.2.1))
    rw[eU]
    have s34:=s3.trans s4
    apply#[Z,p4,g,_,Z,rfl,hp4,s34 _ _ e3,by rw[K5,ar,ar,ar,K5];lia,λp5 np5=>?_]
    apply#[_,_,_,p5,rfl,s34.trans (ao np5),?_]
    rw[ae,CP hm]
    unfold aE
    simp[Ll]
   ·rintro σ H3 ⟨v3,v4,v5,l3,rfl,s3,hl3⟩
    rw[K4,<-lqr,LH]at hl3
    obtain⟨dx,aP,aS,aT,aG,h1⟩:=ins s3
    apply#[Z,B.p,dx,Z,h1,dc _ _ _ _ Fv Fp Fy FE,B.p,ms,S,rfl,N.same s3,λH4 q4 s4 nq4 hq4=>?_]
    have s04:=s3.trans s4
    have lS:(S++gB ms).length<=1000:=by rw[K5];lia
    have ld:(UfSet.dd (S++gB ms)).length<64:=by
     have:=so.pl
     unfold dv at this
     rw[cP]at this
     lia
    apply#[Z,l3,S++gB ms,rfl,aH.of (s4 _ _ hl3),lS,λp1 n1=>#[p1,Z,ae,ld,λp2 n2=>?_]]
    have s5:=(ao (o:=mY w p1 (UfSet.dd (S++gB ms))) n1).trans (ao (o:=.lst (aE (aL (UfSet.dd (S++gB ms))))) n2)
    have hp2:(upd (upd H4 p1 (mY w p1 (UfSet.dd (S++gB ms)))) p2 (.lst (aE (aL (UfSet.dd (S++gB ms)))))) p2=some (.lst (aE (dv ms S))):=ae
    dsimp only[bZ,Cx.dY,Cx.cg]
    generalize upd (upd H4 p1 (mY w p1 (UfSet.dd (S++gB ms)))) p2 (.lst (aE (aL (UfSet.dd (S++gB ms)))))=H5 at s5 hp2 ⊢
    have s05:=s04.trans s5
    apply#[q4,p2,_,Z,rfl,c7 hr,aH.of (s5 _ _ hq4),aH.of hp2,du (da _),Z,bz ?_]
    obtain⟨dx,aP,aS,aT,aG,h1⟩:=ins s05
    apply#[Z,B.p,dx,Z,h1,dc _ _ _ _ x9 xt xK yv,B.p,ms,S,rfl,N.same s05,λq6 hq6=>?_]
    apply#[Z,d,_,1,Z,rfl,cz.of (s05 _ _ hd),aD (j:=1) rfl,bl,S,rfl,aH.of (s05 _ _ hbl),by lia,λp6 n6=>#[p6,Z,.inl #[aH.of ae,λt7 n7=>?_]]]
    have s7:=(ao (o:=.lst (aE (aL S))) n6).trans (ao (o:=.tup (aE (aL S))) n7)
    have ht7:(upd (upd H5 p6 (.lst (aE (aL S)))) t7 (.tup (aE (aL S)))) t7=some (.tup (aE (aL S))):=ae
    generalize upd (upd H5 p6 (.lst (aE (aL S)))) t7 (.tup (aE (aL S)))=H7 at s7 ht7 ⊢
    have s07:=s05.trans s7
    apply#[q6,t7,_,Z,rfl,c7 hr,cz.of (s7 _ _ hq6),cz.of ht7,du (da _),Z,bz ?_]
    obtain⟨dx,aP,aS,aT,aG,h1⟩:=ins s07
    apply#[Z,B.p,dx,Z,h1,dc _ _ _ _ Bg Cn AJ BI,B.p,ms,S,rfl,N.same s07,λH8 q8 s8 nq8 hq8=>?_]
    have s08:=s07.trans s8
    apply#[Z,d,_,0,Z,rfl,cz.of (s08 _ _ hd),aD (j:=0) rfl,rl,rfl,#[_,aH.of (s08 _ _ hqr)],λz D hD=>cv (K:=K) (a:=rl) (xs:=qr.map V.ref) (λj ys H9=>ys=aE ((names ms).take j)/\H9 D=some (.lst ys)/\au H8 H9) #[rfl,ae,ao hD] (λj ys H9 _ p=>aH.of (p.2.2 _ _ (s08 _ _ hqr))) ?_ ?_]
    ·rintro j vv ys H9 hj ⟨rfl,hys,s9⟩
     obtain⟨q,hq,rfl⟩:=cO hj
     obtain⟨m,hm,l,g,e1,e2,e3⟩:=br hpr hq
     have hmj:(names ms)[j]?=some m.1:=by unfold names;rw[List.getElem?_map,hm];rfl
     have jl:=(Lh.mp hm).1
     apply#[Z,q,_,0,Z,rfl,cz.of (s9 _ _ (s08 _ _ e1)),aD (j:=0) rfl,hys,?_,?_,ae,aJ s9 hD]
     ·rw[ar,Lf]
      lia
     ·rw[ay hmj]
      unfold aE
      rw[Ll]
      rfl
    ·rintro ys H9 ⟨rfl,hys,s9⟩
     have ln:(names ms).length=ms.length:=K4 _
     rw[K4,<-lqr,<-ln,LH]at hys
     apply#[D,names ms,rfl,aH.of hys,by lia,λp9 n9=>?_]
     have s10:=ao (o:=.lst (aE (aL (names ms)))) n9
     exact#[q8,p9,_,Z,rfl,c7 hr,aH.of (s10 _ _ (s9 _ _ hq8)),aH.of ae,du (da _),kk _ (s08.trans (s9.trans s10))]
abbrev yO:Stmt:=top 66
structure Sd where
 x:Addr
 B:WA
 w:Addr
 md:Addr
 sq:Addr
 cq:Addr
 pq:Addr
 tq:Addr
 dq:Addr
abbrev Sd.o(z:Sd):List Addr:=ol z.sq z.cq z.pq z.tq z.dq
def Sd.l(z:Sd):List Addr:=z.B.l++z.o
abbrev AL(P:Program)(w:World)(C CW:Addr)(H:Hp)(z:Sd)(ms:List Mv)(S:List Str)(f:WF)(as:List Addr):Prop:=zh P w C CW H z.x z.B z.w z.md z.sq z.cq z.pq z.tq z.dq ms S f as
def zG.more{H H':Hp}{md:Addr}{ms:List Mv}{as bs:List Addr}(h:zG H md ms as)(fr:∀a∈bs,H a=none\/a∈as)(s:au H H'):zG H' md ms bs:=by
 obtain⟨o,qs,e,hp⟩:=h
 have nb:∀{c u},H c=some u->c∉as->c∉bs:=λ{c u} e n z=>by
  rcases fr c z with y|y
  ·rw[y]at e
   cases e
  ·exact n y
 exact#[o,qs,s _ _ e,Paired.cc hp λ_ _ #[l,g,e1,e2,e3,n1,n2]=>#[l,g,s _ _ e1,s _ _ e2,s _ _ e3,nb e2 n1,nb e3 n2]]
section
variable {P:Program}{w:World}{C CW:Addr}{H H':Hp}{z y:Sd}{ms:List Mv}{S:List Str}{f g:WF}{as:List Addr}
theorem zh.has(h:AL P w C CW H z ms S f as):∀a∈z.l,∃o,H a=some o/\HA o=true:=λa ha=>(K9.mp ha).elim (λq=>h.web.has a q) λq=>h.own.has a q
structure nz(P:Program)(w:World)(C CW:Addr)(H:Hp)(z y:Sd)(ms:List Mv)(S:List Str)(f g:WF)(n:Nat):Prop where
 a:AL P w C CW H z ms S f y.l
 b:AL P w C CW H y ms S g z.l
 wa:WK f ms S n
 wb:WK g ms S n
def nz.swap{n:Nat}(h:nz P w C CW H z y ms S f g n):nz P w C CW H y z ms S g f n:=#[h.b,h.a,h.wb,h.wa]
theorem nz.same{n:Nat}(h:nz P w C CW H z y ms S f g n)(s:au H H'):nz P w C CW H' z y ms S f g n:=#[h.a.same s,h.b.same s,h.wa,h.wb]
def nz.step{n:Nat}{f':WF}(h:nz P w C CW H z y ms S f g n)(a:AL P w C CW H' z ms S f' y.l)(wa:WK f' ms S (n+1))(b:cG z.l H H'):nz P w C CW H' z y ms S f' g (n+1):=#[a,h.b.other b (.of h.a.has),wa,h.wb.le (Mq _)]
end
def mI{C CW:Addr}{H:Hp}{z:Sd}{ms:List Mv}{S:List Str}{f:WF}{as:List Addr}{n:Nat}{Q:VK}{E:XK}(t:AL P w C CW H z ms S f as)(wk:WK f ms S n)(hn:n<=20)(k:∀H',au H H'->Q (.bl true) H'):EI P w C CW [.ref z.x,.ref z.w] H Q E:=by
 have:=wk.sl
 have:=wk.oc
 exact#[z.x,z.w,z.md,z.sq,z.cq,z.pq,z.tq,z.dq,z.B,ms,S,f,rfl,t.web,t.own,by lia,by lia,wk.ol,k]
inductive Ka(P:Program)(w:World)(C CW:Addr)(H2:Hp)(a d p wl wo sl:Addr)(z0 z1:Sd)(ms:List Mv)(S:List Str)(cs:List Int)(i:Nat)(σ:St)(H9:Hp):Prop
 |mk (v5 v6 v7:Option V) (f g:WF) (q0:σ=[some (.ref a),some (.ref d),some (.ref p),some (.ref wl),some (.ref wo),v5,v6,v7]) (q1:au H2 H9) (q2:H9 wl=some (.lst [.ref z0.x,.ref z1.x])) (q3:H9 wo=some (.lst [.ref z0.w,.ref z1.w])) (q4:H9 sl=some (.lst (cs.map V.int))) (q5:nz P w C CW H9 z0 z1 ms S f g i)
def Ka.at_{C CW:Addr}{H2:Hp}{a d p wl wo sl:Addr}{z0 z1:Sd}{ms:List Mv}{S:List Str}{cs:List Int}{i:Nat}{σ:St}{H9:Hp}(h:Ka P w C CW H2 a d p wl wo sl z0 z1 ms S cs i σ H9):H9 sl=some (.lst (cs.map V.int)):=by
 cases h
 assumption
def yo(K:PySem.W.Frag):Sp:=λvs H Q _=>∃(a:Addr) (ns:List Int),vs=[.ref a]/\aH K H a (ns.map V.int)/\ns.length<=63/\∀H',Q (.bl true) H'
def lK:aF ["_law_script","_law_drawn","_law_net_here","_law_webs","_law_own_webs","_law_k","_law_cell","_law_at_here"] ["_law_script"] (av yO):=ff
def Hg{f C CW fW:Addr}{fd fdW:FuncData}(F:dN K "law" "law" yO f fd)(T2:Txt2 mg)
  (DN:gG P w K mg base "_law_net" xu ["_law_script"] 3 (Cs K))
  (DM:gG P w K mg base "_law_made" xy ["_law_drawn"] 7 (Ap C))
  (mgW:mg "Web"=some (.ref CW)) (MW:Mk K CW fW) (bW:Binds K fdW ["self","net"] []) (GW:bf P w K mg base cZ 8 fW fdW ["self","net"] (yn C CW))
  (DB:gG P w K mg base "_law_begun" sv ["_law_drawn"] 4 xh)
  (DT:gG P w K mg base "_law_told" uo ["_law_web","_law_own_web"] 2 (EI P w C CW))
  (DO:gG P w K mg base "_law_one_comes" xV ["_law_web","_law_own_web","_law_cell"] 7 (Be P w C CW))
  (DA:gG P w K mg base "_law_at" HE ["_law_script","_law_k"] 1 (wc K))
  (DS:gG P w K mg base "_law_same_net" qW ["_law_web","_law_drawn"] 4 (yH P w C CW)) :
  bf P w K mg base cZ 10 f fd ["_law_script"] (yo K):=by
 apply F.oK lK λcdv A outer s H vs Q E hr h=>?_
 ·obtain⟨a,ns,rfl,ha,hz,kk⟩:=h
  have hsl:=LG
  have hr1:cW 1 _:=hr.mono (by decide)
  have hr2:cW 2 _:=hr.mono (by decide)
  have hr4:cW 4 _:=hr.mono (by decide)
  apply#[_,ag (cM 1 lK (eV DN (hr.mono (by decide)) (aa (pv 0) af)))
   (ag (cM 2 lK (eV DM (hr.mono (by decide)) (aa (pv 1) af)))
   (ag (cM 3 lK (bu (aa (Ah (rD MW GW hr rfl mgW bW .nil bR (aa (pv 2) af))) (aa (Ah (rD MW GW hr rfl mgW bW .nil bR (aa (pv 2) af))) af))))
   (ag (cM 4 lK (bu (aa (eV DB hr4 (aa (pv 1) af)) (aa (eV DB hr4 (aa (pv 1) af)) af))))
   (ag (bO LC rfl (fj rfl T2.rng (aa aj af)) (fE 5 lK)
    (ak (bK (cF (ck (eV DT hr2 (aa (aQ aI (pv 3) (pv 5) (λ_ _=>rfl)) (aa (aQ aI (pv 4) (pv 5) (λ_ _=>rfl)) af))))) (ak cH) aM)))
   (ag (bO LC rfl (aZ (bY cT (pv 0) (bV aj) (bV aj))) (fE 6 lK)
    (ag (cM 7 lK (aw oI (aw bH (aw bU (pv 6) aj) aj) (aw bH (aw bU (eV DA hr1 (aa (pv 0) (aa aj af))) aj) aj)))
    (ak (bK (PW.pt (pw_or (cF (ck (eV DO (hr.mono (by decide)) (aa (aQ aI (pv 3) (pv 7) (λ_ _=>rfl)) (aa (aQ aI (pv 4) (pv 7) (λ_ _=>rfl)) (aa (pv 6) af)))))) (pw_or1 (cF (ck (eV DT hr2 (aa (aQ aI (pv 3) (aw iN aj (pv 7)) (λ_ _=>rfl)) (aa (aQ aI (pv 4) (aw iN aj (pv 7)) (λ_ _=>rfl)) af)))))))) (ak cH) aM))))
   (ak (aK (jA (eV DS hr4 (aa (aQ aI (pv 3) aj (λ_ _=>rfl)) (aa (pv 1) af))) (jI (eV DS hr4 (aa (aQ aI (pv 3) aj (λ_ _=>rfl)) (aa (pv 1) af)))))))))))),?_]
  ac_rfl
  apply#[Z,a,ns,rfl,ha,hz,λH1 d rl bl ms S s1 hd hrow hbl dr told=>?_]
  apply#[Z,d,rl,bl,ms,S,rfl,hd,hrow,hbl,dr,λH2 p s2 N=>?_]
  have so:=N.so
  have m4:∀m∈ms,m.2.1.length<=4/\m.2.2.length<=4:=λm hm=>by
   obtain⟨_,_,_,t4,g4⟩:=fA (so.mv m hm)
   exact#[t4,g4]
  apply#[Z,λx0 dx0 nx0 ndx0 nxd0=>?_]
  have sn0:au H2 (upd (upd H2 dx0 (.own x0)) x0 (.ins CW dx0 [])):=λb o e=>by
   rw[ai (aq e nx0),ai (aq e ndx0)]
   exact e
  apply#[x0,dx0,p,ms,S,rfl,ae,N.same sn0,told,λG1 nw0 b0=>#[rfl,?_]]
  obtain⟨B0,hN0,t0,Wa,ep0,fr0⟩:=tW (P:=P) (w:=w) N sn0 nx0 nw0 b0
  apply#[B0.aN,hN0,?_]
  dsimp only[bZ,Cx.dY,Cx.cg]
  generalize upd G1 B0.aN (PD P w B0.aN [])=H3 at t0 Wa ⊢
  have N3:=N.same t0
  apply#[Z,λx1 dx1 nx1 ndx1 nxd1=>?_]
  have sn1:au H3 (upd (upd H3 dx1 (.own x1)) x1 (.ins CW dx1 [])):=λb o e=>by
   rw[ai (aq e nx1),ai (aq e ndx1)]
   exact e
  apply#[x1,dx1,p,ms,S,rfl,ae,N3.same sn1,told,λG2 nw1 b1=>#[rfl,?_]]
  obtain⟨B1,hN1,t1,Wb,ep1,fr1⟩:=tW (P:=P) (w:=w) N3 sn1 nx1 nw1 b1
  apply#[B1.aN,hN1,?_]
  generalize upd G2 B1.aN (PD P w B1.aN [])=H4 at t1 Wb ⊢
  apply#[by show 2<=sizeLine;lia,λwl nwl=>?_]
  obtain⟨H5,eU,s5,hwl⟩:=fL nwl (.lst [.ref x0,.ref x1])
  rw[eU]
  have s25:=t0.trans (t1.trans s5)
  have s15:=s2.trans s25
  have E0:∀a∈B0.l,H5 a≠none:=λa h z=>by
   obtain⟨o,e,_⟩:=Wa.has a h
   rw[s5 _ _ (t1 _ _ e)]at z
   cases z
  have E1:∀a∈B1.l,H5 a≠none:=λa h z=>by
   obtain⟨o,e,_⟩:=Wb.has a h
   rw[s5 _ _ e]at z
   cases z
  apply#[Z,d,rl,bl,ms,S,B0.l++B1.l,rfl,λa h=>(K9.mp h).elim (E0 a) (E1 a),s15 _ _ hd,hrow.same s15,s15 _ _ hbl,so.nd,so.ml,m4,so.Hz,λH6 w0 md0 sq0 cq0 pq0 tq0 dq0 s6 fr6 sep0 O0 mx0=>?_]
  have E6:∀a∈ol sq0 cq0 pq0 tq0 dq0,H6 a≠none:=λa h z=>by
   obtain⟨o,e,_⟩:=(O0 []).has a h
   rw[e]at z
   cases z
  have up:∀{a},H5 a≠none->H6 a≠none:=λ{a} h z=>h (s6.free z)
  have s16:=s15.trans s6
  apply#[Z,d,rl,bl,ms,S,(B0.l++B1.l)++ol sq0 cq0 pq0 tq0 dq0,rfl,λa h=>(K9.mp h).elim (λh=>up ((K9.mp h).elim (E0 a) (E1 a))) (E6 a),s16 _ _ hd,hrow.same s16,s16 _ _ hbl,so.nd,so.ml,m4,so.Hz,λH7 w1 md1 sq1 cq1 pq1 tq1 dq1 s7 fr7 sep1 O1 mx1=>?_]
  apply#[by show 2<=sizeLine;lia,λwo nwo=>?_]
  obtain⟨H8,eU,s8,hwo⟩:=fL nwo (.lst [.ref w0,.ref w1])
  rw[eU]
  have s68:=s7.trans s8
  have s58:=s6.trans s68
  have s28:=s25.trans s58
  have o5:∀a∈ol sq0 cq0 pq0 tq0 dq0,H5 a=none:=λa h=>fr6 a (by simp only[Lc,LR,Mt]at h ⊢;rcases h with h|h|h|h|h <;> simp[h])
  have o6:∀a∈ol sq1 cq1 pq1 tq1 dq1,H6 a=none:=λa h=>fr7 a (by simp only[Lc,LR,Mt]at h ⊢;rcases h with h|h|h|h|h <;> simp[h])
  have n5:H5 w0=none:=fr6 w0 (by simp)
  have n6:H6 w1=none:=fr7 w1 (by simp)
  have E03:∀a∈B0.l,H3 a≠none:=λa h z=>by
   obtain⟨o,e,_⟩:=Wa.has a h
   rw[e]at z
   cases z
  have nn:∀a,a∈B0.l\/a∈ol sq0 cq0 pq0 tq0 dq0\/a∈B1.l\/a∈ol sq1 cq1 pq1 tq1 dq1->H2 a=none:=λa h=>by
   rcases h with h|h|h|h
   ·exact fr0 a h
   ·exact s25.free (o5 a h)
   ·exact t0.free (fr1 a h)
   ·exact(s25.trans s6).free (o6 a h)
  have both:nz P w C CW H8 #[x0,B0,w0,md0,sq0,cq0,pq0,tq0,dq0] #[x1,B1,w1,md1,sq1,cq1,pq1,tq1,dq1] ms S (cI (W0 ms S).pl (aL S)) (cI (W0 ms S).pl (aL S)) 0:=by
   apply#[#[Wa.same ((t1.trans s5).trans s58),(O0 _).same s68,sep0,λa h z=>?_,λa h z=>?_,λz=>?_,mx0.more (λa h=>?_) s68,?_],#[Wb.same (s5.trans s58),(O1 _).same s8,sep1,λa h z=>?_,λa h z=>?_,λz=>?_,mx1.more (λa h=>?_) s8,?_],uB so,uB so]
   ·rcases K9.mp z with z|z
    ·exact E0 a h (o5 a z)
    rcases K9.mp z with z|z
    ·exact E03 a h (fr1 a z)
    ·exact up (E0 a h) (o6 a z)
   ·rcases K9.mp z with z|z
    ·exact E1 a z (o5 a h)
    ·exact E6 a h (o6 a z)
   ·rcases K9.mp z with z|z
    ·exact E0 _ z n5
    rcases K9.mp z with z|z
    ·exact E1 _ z n5
    ·have:=o6 _ z
     rw[(O0 []).ow.w]at this
     cases this
   ·rcases K9.mp h with z|z
    ·exact .inr (Lj _ z)
    rcases K9.mp z with z|z
    ·exact .inr (Lp _ (Lj _ z))
    rcases K9.mp z with z|z
    ·exact .inr (Lp _ (Lp _ z))
    ·exact .inl (o6 a z)
   ·show cB C _ B0.p ms S
    rw[ep0]
    apply N.same λc o e=>jO.mpr #[λz=>?_,s28 _ _ e]
    have z:=nn c (by
     rcases K9.mp z with z|z
     ·exact .inl z
     rcases K9.mp z with z|z
     ·exact .inr (.inl z)
     rcases K9.mp z with z|z
     ·exact .inr (.inr (.inl z))
     ·exact .inr (.inr (.inr z)))
    rw[z]at e
    cases e
   ·rcases K9.mp z with z|z
    ·exact up (E1 a h) (o6 a z)
    rcases K9.mp z with z|z
    ·exact E03 a z (fr1 a h)
    ·exact E1 a h (o5 a z)
   ·rcases K9.mp z with z|z
    ·exact up (E0 a z) (o6 a h)
    ·exact E6 a z (o6 a h)
   ·rcases K9.mp z with z|z
    ·exact up (E1 _ z) n6
    rcases K9.mp z with z|z
    ·exact up (E0 _ z) n6
    ·exact E6 _ z n6
   ·rcases K9.mp h with z|z
    ·exact .inr (Lj _ z)
    rcases K9.mp z with z|z
    ·exact .inr (Lp _ (Lj _ (Lp _ z)))
    rcases K9.mp z with z|z
    ·exact .inr (Lp _ (Lj _ (Lj _ z)))
    ·exact .inr (Lp _ (Lp _ z))
   ·show cB C _ B1.p ms S
    rw[ep1]
    apply N.same λc o e=>jO.mpr #[λz=>?_,s28 _ _ e]
    have z:=nn c (by
     rcases K9.mp z with z|z
     ·exact .inr (.inr (.inl z))
     rcases K9.mp z with z|z
     ·exact .inr (.inr (.inr z))
     rcases K9.mp z with z|z
     ·exact .inl z
     ·exact .inr (.inl z))
    rw[z]at e
    cases e
  have fz:∀a∈Sd.l #[x0,B0,w0,md0,sq0,cq0,pq0,tq0,dq0]++Sd.l #[x1,B1,w1,md1,sq1,cq1,pq1,tq1,dq1],H2 a=none:=λa h=>nn a (by
   rcases K9.mp h with z|z
   ·rcases K9.mp z with z|z
    ·exact .inl z
    ·exact .inr (.inl z)
   ·rcases K9.mp z with z|z
    ·exact .inr (.inr (.inl z))
    ·exact .inr (.inr (.inr z)))
  have hwl8:=s58 _ _ hwl
  have nwl':wl∉Sd.l #[x0,B0,w0,md0,sq0,cq0,pq0,tq0,dq0]++Sd.l #[x1,B1,w1,md1,sq1,cq1,pq1,tq1,dq1]:=λz=>by
   rcases K9.mp z with z|z
   ·rcases K9.mp z with z|z
    ·exact E03 _ z (t1.free nwl)
    ·have:=o5 _ z
     rw[hwl]at this
     cases this
   ·rcases K9.mp z with z|z
    ·obtain⟨o,e,_⟩:=Wb.has _ z
     rw[nwl]at e
     cases e
    ·have:=o6 _ z
     rw[s6 _ _ hwl]at this
     cases this
  have nwo':wo∉Sd.l #[x0,B0,w0,md0,sq0,cq0,pq0,tq0,dq0]++Sd.l #[x1,B1,w1,md1,sq1,cq1,pq1,tq1,dq1]:=λz=>by
   rcases K9.mp z with z|z
   ·rcases K9.mp z with z|z
    ·exact up (E0 _ z) (s7.free nwo)
    ·exact E6 _ z (s7.free nwo)
   ·rcases K9.mp z with z|z
    ·exact up (E1 _ z) (s7.free nwo)
    ·obtain⟨o,e,_⟩:=(O1 []).has _ z
     rw[nwo]at e
     cases e
  generalize hz0:(#[x0,B0,w0,md0,sq0,cq0,pq0,tq0,dq0]:Sd)=z0 at both fz nwl' nwo'
  generalize hz1:(#[x1,B1,w1,md1,sq1,cq1,pq1,tq1,dq1]:Sd)=z1 at both fz nwl' nwo'
  have hwl8:H8 wl=some (.lst [.ref z0.x,.ref z1.x]):=by rw[<-hz0,<-hz1];exact hwl8
  have hwo8:H8 wo=some (.lst [.ref z0.w,.ref z1.w]):=by rw[<-hz0,<-hz1];exact hwo
  have s18:=s2.trans s28
  have hrow2:=hrow.same s2
  have hd2:=s2 _ _ hd
  have hbl2:=s2 _ _ hbl
  have ha2:=(s1.trans s2).seq ha
  clear hz0 hz1 hwl hwo nwl nwo O0 O1 mx0 mx1 fr0 fr1 fr6 fr7 o5 o6 n5 n6 E0 E1 E03 E6 up Wa Wb nw0 nw1 b0 b1 sn0 sn1 hN0 hN1 ep0 ep1 sep0 sep1 nn s15 s16 s25 s58 s68 s5 s6 s7 s8 t0 t1 N3
  apply#[Z,by decide,by decide,g0 (lo:=0) (n:=2) (λ_ σ H9=>au H8 H9/\∃v5,σ=[some (.ref a),some (.ref d),some (.ref p),some (.ref wl),some (.ref wo),v5,none,none]) #[au.refl _,none,rfl] ?_ ?_]
  ·rintro i σ H9 hi ⟨s9,v5,rfl⟩
   rw[show(0+((i:Nat):Int))=((i:Nat):Int) by lia]
   have b9:=both.same s9
   rcases(show i=0\/i=1 by lia) with rfl|rfl
   ·apply⟨_,rfl,_,rfl,wl,_,_,_,rfl,rfl,aH.of (s9 _ _ hwl8),aD (j:=0) rfl,_,rfl,_,rfl,wo,_,_,_,rfl,rfl,aH.of (s9 _ _ hwo8),aD (j:=0) rfl,?_⟩
    dsimp only[tH]
    exact mI b9.a b9.wa (by lia) λH' s'=>#[true,rfl,bz #[s9.trans s',_,rfl]]
   ·apply⟨_,rfl,_,rfl,wl,_,_,_,rfl,rfl,aH.of (s9 _ _ hwl8),aD (j:=1) rfl,_,rfl,_,rfl,wo,_,_,_,rfl,rfl,aH.of (s9 _ _ hwo8),aD (j:=1) rfl,?_⟩
    dsimp only[tH]
    exact mI b9.b b9.wb (by lia) λH' s'=>#[true,rfl,bz #[s9.trans s',_,rfl]]
  ·rintro σ H9 ⟨s9,v5,rfl⟩
   have s29:=s28.trans s9
   apply#[Z,Z,Z,a,Z,s29.seq ha2,λsl nsl=>?_]
   rw[show dR (ns.map V.int) (some (11:Int)) (some (21:Int))=((ns.drop 11).take 10).map V.int by rw[show(11:Int)=((11:Nat):Int) from rfl,show(21:Int)=((21:Nat):Int) from rfl,FP,Nf,Oc]]
   have lcs:((ns.drop 11).take 10).length<=10:=by rw[Lf];exact Nat.min_le_left _ _
   generalize (ns.drop 11).take 10=cs at lcs ⊢
   obtain⟨H10,eU,s10,hsl'⟩:=fL nsl (.lst (cs.map V.int))
   rw[eU]
   have s8x:=s9.trans s10
   have nsl':sl∉z0.l++z1.l:=λz=>by
    have b9:=both.same s9
    rcases K9.mp z with z|z
    ·obtain⟨o,e,_⟩:=b9.a.has _ z
     rw[nsl]at e
     cases e
    ·obtain⟨o,e,_⟩:=b9.b.has _ z
     rw[nsl]at e
     cases e
   have old:∀{z:Sd} {G G':Hp},(∀a∈z.l,a∈z0.l++z1.l)->au H2 G->cG z.l G G'->au H2 G':=λ{z G G'} sub s b c o e=>b _ _ (s _ _ e) λq=>by
    rw[fz c (sub c q)]at e
    cases e
   have in0:∀a∈z0.l,a∈z0.l++z1.l:=λa h=>Lj _ h
   have in1:∀a∈z1.l,a∈z0.l++z1.l:=λa h=>Lp _ h
   apply#[sl,rfl,#[_,aH.of hsl'],bJ (K:=K) (a:=sl) (xs:=cs.map V.int) (Ka P w C CW H2 a d p wl wo sl z0 z1 ms S cs) #[_,none,none,_,Z,s28.trans s8x,s8x _ _ hwl8,s8x _ _ hwo8,hsl',both.same s8x] (λ_ _ _ _ h=>aH.of h.at_) ?_ ?_]
   ·rintro i v σ G hi ⟨v5,v6,v7,f,g,rfl,sG,hwG,hoG,hsG,bG⟩
    obtain⟨c,hc,rfl⟩:∃c,cs[i]?=some c/\v=.int c:=by
     rw[LD]at hi
     obtain⟨c,h1,h2⟩:=NS.mp hi
     exact#[c,h1,h2.symm]
    have il:=(Lh.mp hc).1
    apply#[Z,c,32,rfl,rfl,(by unfold Cu;decide),_,2,rfl,rfl,(by show(0:Int)<2;decide),Z,a,ns,0,rfl,sG.seq ha2,hz,_,1536,rfl,rfl,(by unfold Cu;decide),_,2,rfl,rfl,(by show(0:Int)<2;decide),_,Z,rfl,?_,?_]
    ·left
     lia
    have hv:c / 32 % 2*(ns.getD 0 0 / 1536 % 2)=0\/c / 32 % 2*(ns.getD 0 0 / 1536 % 2)=1:=by
     rcases(show c / 32 % 2=0\/c / 32 % 2=1 by lia) with e|e <;> rw[e]
     ·left;lia
     ·lia
    rcases hv with e|e
    ·rw[e]
     have b0:=bG
     apply#[Z,Z,wl,_,_,Z,rfl,aH.of hwG,aD (j:=0) rfl,Z,Z,wo,_,_,Z,rfl,aH.of hoG,aD (j:=0) rfl,Z,z0.x,z0.w,z0.md,z0.sq,z0.cq,z0.pq,z0.tq,z0.dq,z0.B,ms,S,_,z1.l,i,c,rfl,b0.a,b0.wa,by lia,so,λG1 f' T1 wk1 b1=>#[true,rfl,bz ?_]]
     have bo:=b0.step T1 wk1 b1
     have sG1:=old in0 sG b1
     have hw1:=b1 _ _ hwG λq=>nwl' (in0 _ q)
     have ho1:=b1 _ _ hoG λq=>nwo' (in0 _ q)
     have hs1:=b1 _ _ hsG λq=>nsl' (in0 _ q)
     apply#[Z,Z,1,0,rfl,rfl,wl,_,_,Z,rfl,aH.of hw1,aD (j:=1) rfl,Z,Z,1,0,rfl,rfl,wo,_,_,Z,rfl,aH.of ho1,aD (j:=1) rfl,?_]
     dsimp only[tH]
     exact mI bo.b bo.wb (by lia) λG2 s2'=>#[true,rfl,bz #[_,_,_,_,Z,sG1.trans s2',s2' _ _ hw1,s2' _ _ ho1,s2' _ _ hs1,bo.same s2']]
    ·rw[e]
     have b0:=bG.swap
     apply#[Z,Z,wl,_,_,Z,rfl,aH.of hwG,aD (j:=1) rfl,Z,Z,wo,_,_,Z,rfl,aH.of hoG,aD (j:=1) rfl,Z,z1.x,z1.w,z1.md,z1.sq,z1.cq,z1.pq,z1.tq,z1.dq,z1.B,ms,S,_,z0.l,i,c,rfl,b0.a,b0.wa,by lia,so,λG1 f' T1 wk1 b1=>#[true,rfl,bz ?_]]
     have bo:=b0.step T1 wk1 b1
     have sG1:=old in1 sG b1
     have hw1:=b1 _ _ hwG λq=>nwl' (in1 _ q)
     have ho1:=b1 _ _ hoG λq=>nwo' (in1 _ q)
     have hs1:=b1 _ _ hsG λq=>nsl' (in1 _ q)
     apply#[Z,Z,1,1,rfl,rfl,wl,_,_,Z,rfl,aH.of hw1,aD (j:=0) rfl,Z,Z,1,1,rfl,rfl,wo,_,_,Z,rfl,aH.of ho1,aD (j:=0) rfl,?_]
     dsimp only[tH]
     exact mI bo.b bo.wb (by lia) λG2 s2'=>#[true,rfl,bz #[_,_,_,_,Z,sG1.trans s2',s2' _ _ hw1,s2' _ _ ho1,s2' _ _ hs1,(bo.same s2').swap]]
   ·rintro σ G ⟨v5,v6,v7,f,g,rfl,sG,hwG,hoG,hsG,bG⟩
    apply#[Z,wl,_,0,Z,rfl,aH.of hwG,aD (j:=0) rfl,Z,z0.x,d,rl,bl,z0.B,ms,S,f,rfl,bG.a.web,sG _ _ hd2,hrow2.same sG,sG _ _ hbl2,λG1 s1'=>#[true,rfl,cy ?_]]
    have s2':=sG.trans s1'
    exact#[Z,wl,_,1,Z,rfl,aH.of (s1' _ _ hwG),aD (j:=1) rfl,Z,z1.x,d,rl,bl,z1.B,ms,S,g,rfl,bG.b.web.same s1',s2' _ _ hd2,hrow2.same s2',s2' _ _ hbl2,λG2 _=>kk G2]
theorem x5{f:Addr}{fd:FuncData}(D:Def K mg "_law_sets" pM ["_law_web","_law_places","_law_ahead"] f fd)(T:Txt K mg)(T2:Txt2 mg):∀d,bf P w K mg base cZ d f fd ["_law_web","_law_places","_law_ahead"] (r6 d)
 |0=>by
  apply#[λvs H Q E h=>?_,λA outer s H args us vs Q E hr he hb hv h=>?_]
  all_goals
   obtain⟨_,_,_,_,_,_,_,_,_,_,_,_,_,_,_,_,_,_,ld,_⟩:=h
   exact absurd ld (Nat.not_lt_zero _)
 |d+1=>rS D.fn D T T2 (x5 D T T2 d)
open PyProof.Rows
def FY{n:Nat}{us:List Value}(h:us.length=n+1):∃a t,us=a::t/\t.length=n:=by
 cases us with
 |nil=>cases h
 |cons a t=>exact#[a,t,rfl,Nat.succ.inj h]
def GF{us:List Value}(h:us.length=1):∃a,us=[a]:=List.length_eq_one_iff.mp h
def F4{us:List Value}(h:us.length=2):∃a b,us=[a,b]:=by
 obtain⟨a,t,rfl,k⟩:=FY h
 obtain⟨b,rfl⟩:=GF k
 exact#[a,b,rfl]
def Hv{us:List Value}(h:us.length=3):∃a b c,us=[a,b,c]:=by
 obtain⟨a,t,rfl,k⟩:=FY h
 obtain⟨b,c,rfl⟩:=F4 k
 exact#[a,b,c,rfl]
def HV{us:List Value}(h:us.length=4):∃a b c d,us=[a,b,c,d]:=by
 obtain⟨a,t,rfl,k⟩:=FY h
 obtain⟨b,c,d,rfl⟩:=Hv k
 exact#[a,b,c,d,rfl]
def DX(K:W.Frag)(x:Str)(st:Stmt)(ps:List Str):Prop:=∃f fd,W.nsIn K mainGlobals x=some (some (.ref f))/\dN K x x st f fd/\Binds K fd ps []
def MX(K:W.Frag)(C:Addr)(x q:Str)(st:Stmt)(ps:List Str):Prop:=∃f fd,W.findIn K (.ref C) x=some (some (.ref f))/\W.isFn K (.ref f)=true/\dN K x q st f fd/\Binds K fd ps []
section
variable {K:W.Frag}{h:Heap}{mg:Str->Option Value}{C:Addr}{x q:Str}{st:Stmt}{ps:List Str}
def DX.d(X:K.In h)(G:h.Ns mainGlobals mg)(l:DX K x st ps):∃f fd,Def K mg x st ps f fd:=let #[_,_,a,b,c]:=l;#[_,_,b,Oe X G a,c]
def MX.d(l:MX K C x q st ps):∃f fd,DV K C x q st ps f fd:=let #[_,_,a,i,b,c]:=l;#[_,_,b,#[a,i,b.kp],c]
variable {f:Addr}{oc:Value}{od an:Option Addr}{osl:Array (Option Value)}{kV doc pm cdv ct:Value}
def HW(a:W.nsIn K mainGlobals x=some (some (.ref f)))(l:K.lookup f=some #[oc,od,.func (W.fnOf x x (fV st) (eh st) (av st) .none kV doc pm an cdv ct),osl])(c:W.codeIn K cdv x=true)(k:W.keepIn K (.ref f)=true)
  (b:∀(kV doc pm:Value) (an:Option Addr) (cdv ct:Value) (us:List Value),us.length=ps.length->bindArgs (W.fnOf x x (fV st) (eh st) (av st) .none kV doc pm an cdv ct) #[us,[]]=pure (ps.zip us):=by intro _ _ _ _ _ _ us hl;first|(obtain⟨_,rfl⟩:=Uf.GF hl;rfl)|(obtain⟨_,_,rfl⟩:=Uf.F4 hl;rfl)|(obtain⟨_,_,_,rfl⟩:=Uf.Hv hl;rfl)|(obtain⟨_,_,_,_,rfl⟩:=Uf.HV hl;rfl)):DX K x st ps:=#[f,_,a,rh l c k,(rh l c k).binds b]
def Ih(a:W.findIn K (.ref C) x=some (some (.ref f)))(i:W.isFn K (.ref f)=true)(l:K.lookup f=some #[oc,od,.func (W.fnOf x q (fV st) (eh st) (av st) .none kV doc pm an cdv ct),osl])(c:W.codeIn K cdv q=true)(k:W.keepIn K (.ref f)=true)
  (b:∀(kV doc pm:Value) (an:Option Addr) (cdv ct:Value) (us:List Value),us.length=ps.length->bindArgs (W.fnOf x q (fV st) (eh st) (av st) .none kV doc pm an cdv ct) #[us,[]]=pure (ps.zip us):=by intro _ _ _ _ _ _ us hl;first|(obtain⟨_,rfl⟩:=Uf.GF hl;rfl)|(obtain⟨_,_,rfl⟩:=Uf.F4 hl;rfl)|(obtain⟨_,_,_,rfl⟩:=Uf.Hv hl;rfl)|(obtain⟨_,_,_,_,rfl⟩:=Uf.HV hl;rfl)):MX K C x q st ps:=#[f,_,a,i,rh l c k,(rh l c k).binds b]
end
def all_mk{l:W.OpenLaw}{w:World}{K:W.Frag}{h:Heap}{mg:Str->Option Value}{fa C CW:Addr}(X:K.In h)(G:h.Ns mainGlobals mg)(hfa:mg "law"=some (.ref fa))
  {tk1 tk2 tk3 tk4 tk5 tk6 tk7:Tok}
  (aC:W.nsIn K mainGlobals "Net"=some (some (.ref C)))
  (aW:W.nsIn K mainGlobals "Web"=some (some (.ref CW)))
  (l1:DX K "bit" Bu ["number"])
  (l2:DX K "has" EK ["bits","number"])
  (l3:DX K "members" kh ["bits"])
  (l4:DX K "lacks_bead" oS ["net","state","move"])
  (l5:DX K "gives_second" j6 ["net","state","move"])
  (l6:DX K "state_behind" mD ["net","state","move"])
  (l7:DX K "may" Et ["net","state"])
  (l8:DX K "crowder" kC ["net","state"])
  (l9:DX K "newly_reached" rY ["net","states","ways"])
  (l10:DX K "crowding" jm ["net"])
  (l11:DX K "is_name" fC ["thing"])
  (l12:DX K "are_unlike_names" jd ["things"])
  (l13:DX K "is_move" j5 ["taken","given"])
  (l14:DX K "places_of" ka ["moves","start"])
  (l15:DX K "makes_net" rE ["moves","start"])
  (l16:DX K "_law_at" HE ["_law_script","_law_k"])
  (l17:DX K "_law_whole" oP ["_law_found"])
  (l18:DX K "_law_name" xq ["_law_k","_law_seed"])
  (l19:DX K "_law_sizes" rK ["_law_head"])
  (l20:DX K "_law_step" x3 ["_law_cell","_law_sizes_here"])
  (l21:DX K "_law_split" qO ["_law_names","_law_base","_law_size","_law_cell"])
  (l22:DX K "_law_orderly" jZ ["_law_steps","_law_beads"])
  (l23:DX K "_law_loose_step" qS ["_law_cell","_law_names"])
  (l24:DX K "_law_loose" mC ["_law_cells","_law_names","_law_beads"])
  (l25:DX K "_law_ringed" mP ["_law_cells","_law_names","_law_sizes_here"])
  (l26:DX K "_law_net" xu ["_law_script"])
  (l27:DX K "_law_made" xy ["_law_drawn"])
  (l28:DX K "_law_begun" sv ["_law_drawn"])
  (l29:DX K "_law_forked" mM ["_law_web","_law_both"])
  (l30:DX K "_law_past" sW ["_law_web","_law_spot"])
  (l31:DX K "_law_near" yk ["_law_web","_law_one","_law_other"])
  (l32:DX K "_law_spot_comes" nA ["_law_web","_law_place","_law_giver"])
  (l33:DX K "_law_comes" rX ["_law_web","_law_move","_law_spots"])
  (l34:DX K "_law_sets" pM ["_law_web","_law_places","_law_ahead"])
  (l35:DX K "_law_open" yb ["_law_web"])
  (l36:DX K "_law_alike" rP ["_law_found","_law_due"])
  (l37:DX K "_law_told" uo ["_law_web","_law_own_web"])
  (l38:DX K "_law_turned" mw ["_law_spots","_law_cell"])
  (l39:DX K "_law_one_comes" xV ["_law_web","_law_own_web","_law_cell"])
  (l40:DX K "_law_same_net" qW ["_law_web","_law_drawn"])
  (l41:DX K "law" yO ["_law_script"])
  (l42:MX K C "__init__" "Net.__init__" AM ["self","moves","start"])
  (l43:MX K C "places" "Net.places" uP ["self"])
  (l44:MX K C "moves" "Net.moves" pV ["self"])
  (l45:MX K C "start" "Net.start" kP ["self"])
  (l46:MX K C "must_have" "Net.must_have" uN ["self","move"])
  (l47:MX K C "takes" "Net.takes" iP ["self","move"])
  (l48:MX K C "gives" "Net.gives" jP ["self","move"])
  (l49:MX K CW "__init__" "Web.__init__" vO ["self","net"])
  (l50:MX K CW "net" "Web.net" yD ["self"])
  (l51:MX K CW "spots" "Web.spots" ES ["self"])
  (l52:MX K CW "occurrences" "Web.occurrences" E4 ["self"])
  (l53:MX K CW "come" "Web.come" xi ["self","move","spots"])
  (l54:MX K CW "must_have_spot" "Web.must_have_spot" sk ["self","number"])
  (l55:MX K CW "must_fit" "Web.must_fit" qN ["self","move","spots"])
  (l56:MX K CW "must_stand_beside" "Web.must_stand_beside" rB ["self","spots"])
  (l57:MX K CW "bits_ahead" "Web.bits_ahead" sj ["self","spots"])
  (l58:MX K CW "add_occurrence" "Web.add_occurrence" xA ["self","occurrence"])
  (l59:MX K CW "add_spots" "Web.add_spots" BR ["self","places","giver","beside"])
  (pg:W.plainGet K C Str.empty=true)
  (hd:W.hasDictIn K C=true)
  (po:W.plainOver K C=true)
  (sa:W.findIn K (.ref C) "__setattr__"=some (some (.builtin "object.__setattr__")))
  (mk:W.makesIn K C=true)
  (kc:W.keepIn K (.ref C)=true)
  (pgW:W.plainGet K CW Str.empty=true)
  (hdW:W.hasDictIn K CW=true)
  (poW:W.plainOver K CW=true)
  (saW:W.findIn K (.ref CW) "__setattr__"=some (some (.builtin "object.__setattr__")))
  (mkW:W.makesIn K CW=true)
  (kcW:W.keepIn K (.ref CW)=true)
  (wN:W.findIn K (.ref CW) "base_net"=some none)
  (wS:W.findIn K (.ref CW) "spot_tuples"=some none)
  (wO:W.findIn K (.ref CW) "occurrence_tuples"=some none)
  (wH:W.findIn K (.ref CW) "numbers_there"=some none)
  (wW:W.findIn K (.ref CW) "own_bits"=some none)
  (wG:W.findIn K (.ref CW) "given_bits"=some none)
  (wB:W.findIn K (.ref CW) "beside_bits"=some none)
  (wT:W.findIn K (.ref CW) "taker_bits"=some none)
  (wP:W.findIn K (.ref CW) "place_bits"=some none)
  (nP:W.findIn K (.ref C) "place_names"=some none)
  (nS:W.findIn K (.ref C) "start_state"=some none)
  (nT:W.findIn K (.ref C) "taken_by"=some none)
  (nG:W.findIn K (.ref C) "given_by"=some none)
  (z1:W.nsIn K mainGlobals "all"=some none)
  (z2:W.nsIn K mainGlobals "len"=some none)
  (z3:W.nsIn K mainGlobals "set"=some none)
  (z4:W.nsIn K mainGlobals "list"=some none)
  (z5:W.nsIn K mainGlobals "tuple"=some none)
  (z6:W.nsIn K mainGlobals "str"=some none)
  (z7:W.nsIn K mainGlobals "sorted"=some none)
  (z8:W.nsIn K mainGlobals "isinstance"=some none)
  (z9:W.nsIn K mainGlobals "range"=some none)
  (z10:W.nsIn K mainGlobals "enumerate"=some none)
  (z11:W.nsIn K mainGlobals "any"=some none)
  (z12:W.nsIn K mainGlobals "dict"=some none)
  (z13:W.nsIn K mainGlobals "int"=some none)
  (z14:W.nsIn K mainGlobals "bool"=some none)
  (y1:W.nsIn K mainGlobals "LETTERS"=some (some (.str Fd tk1)))
  (y2:W.nsIn K mainGlobals "LONGEST_NAME"=some (some (.int 8 tk2)))
  (y3:W.nsIn K mainGlobals "MOST_PLACES"=some (some (.int 12 tk3)))
  (y4:W.nsIn K mainGlobals "MOST_MOVES"=some (some (.int 12 tk4)))
  (y5:W.nsIn K mainGlobals "LEAST_TAKEN"=some (some (.int 1 tk5)))
  (y6:W.nsIn K mainGlobals "MOST_TAKEN"=some (some (.int 4 tk6)))
  (y7:W.nsIn K mainGlobals "MOST_GIVEN"=some (some (.int 4 tk7))) :
  ∃fd:FuncData,(∀(s:Shared) (v:Value),BindsTo s fd #[[v],[]] [("_law_script",v)])/\∀base:Heap,K.In base->base.Ns mainGlobals mg->bf l.prog w K mg base cZ 10 fa fd ["_law_script"] (yo K):=by
 have T:Txt K mg:=#[ME X G z1,ME X G z2,ME X G z3,ME X G z4,ME X G z5,ME X G z6,ME X G z7,ME X G z8,#[_,Oe X G y1],#[_,Oe X G y2],#[_,Oe X G y3],#[_,Oe X G y4],#[_,Oe X G y5],#[_,Oe X G y6],#[_,Oe X G y7]]
 have T2:Txt2 mg:=#[ME X G z9,ME X G z10,ME X G z11]
 have NC:iA K C:=#[#[pg,hd,po,sa],nP,nS,nT,nG]
 have WC:jD K CW:=#[#[pgW,hdW,poW,saW],wN,wS,wO,wH,wW,wG,wB,wT,wP]
 obtain⟨f1,d1,D1⟩:=l1.d X G
 obtain⟨f2,d2,D2⟩:=l2.d X G
 obtain⟨f3,d3,D3⟩:=l3.d X G
 obtain⟨f4,d4,D4⟩:=l4.d X G
 obtain⟨f5,d5,D5⟩:=l5.d X G
 obtain⟨f6,d6,D6⟩:=l6.d X G
 obtain⟨f7,d7,D7⟩:=l7.d X G
 obtain⟨f8,d8,D8⟩:=l8.d X G
 obtain⟨f9,d9,D9⟩:=l9.d X G
 obtain⟨f10,d10,D10⟩:=l10.d X G
 obtain⟨f11,d11,D11⟩:=l11.d X G
 obtain⟨f12,d12,D12⟩:=l12.d X G
 obtain⟨f13,d13,D13⟩:=l13.d X G
 obtain⟨f14,d14,D14⟩:=l14.d X G
 obtain⟨f15,d15,D15⟩:=l15.d X G
 obtain⟨f16,d16,D16⟩:=l16.d X G
 obtain⟨f17,d17,D17⟩:=l17.d X G
 obtain⟨f18,d18,D18⟩:=l18.d X G
 obtain⟨f19,d19,D19⟩:=l19.d X G
 obtain⟨f20,d20,D20⟩:=l20.d X G
 obtain⟨f21,d21,D21⟩:=l21.d X G
 obtain⟨f22,d22,D22⟩:=l22.d X G
 obtain⟨f23,d23,D23⟩:=l23.d X G
 obtain⟨f24,d24,D24⟩:=l24.d X G
 obtain⟨f25,d25,D25⟩:=l25.d X G
 obtain⟨f26,d26,D26⟩:=l26.d X G
 obtain⟨f27,d27,D27⟩:=l27.d X G
 obtain⟨f28,d28,D28⟩:=l28.d X G
 obtain⟨f29,d29,D29⟩:=l29.d X G
 obtain⟨f30,d30,D30⟩:=l30.d X G
 obtain⟨f31,d31,D31⟩:=l31.d X G
 obtain⟨f32,d32,D32⟩:=l32.d X G
 obtain⟨f33,d33,D33⟩:=l33.d X G
 obtain⟨f34,d34,D34⟩:=l34.d X G
 obtain⟨f35,d35,D35⟩:=l35.d X G
 obtain⟨f36,d36,D36⟩:=l36.d X G
 obtain⟨f37,d37,D37⟩:=l37.d X G
 obtain⟨f38,d38,D38⟩:=l38.d X G
 obtain⟨f39,d39,D39⟩:=l39.d X G
 obtain⟨f40,d40,D40⟩:=l40.d X G
 obtain⟨f42,d42,D42⟩:=l42.d
 obtain⟨f43,d43,D43⟩:=l43.d
 obtain⟨f44,d44,D44⟩:=l44.d
 obtain⟨f45,d45,D45⟩:=l45.d
 obtain⟨f46,d46,D46⟩:=l46.d
 obtain⟨f47,d47,D47⟩:=l47.d
 obtain⟨f48,d48,D48⟩:=l48.d
 obtain⟨f49,d49,D49⟩:=l49.d
 obtain⟨f50,d50,D50⟩:=l50.d
 obtain⟨f51,d51,D51⟩:=l51.d
 obtain⟨f52,d52,D52⟩:=l52.d
 obtain⟨f53,d53,D53⟩:=l53.d
 obtain⟨f54,d54,D54⟩:=l54.d
 obtain⟨f55,d55,D55⟩:=l55.d
 obtain⟨f56,d56,D56⟩:=l56.d
 obtain⟨f57,d57,D57⟩:=l57.d
 obtain⟨f58,d58,D58⟩:=l58.d
 obtain⟨f59,d59,D59⟩:=l59.d
 obtain⟨fl,_,a,FL,_⟩:=l41
 cases hfa.symm.trans (Oe X G a)
 obtain⟨oc,od,kV,doc,pm,an,cdv,ct,osl,rfl,lk,hcd⟩:=id FL.ex
 apply#[W.fnOf "law" "law" (fV yO) (eh yO) (av yO) .none kV doc pm an cdv ct,λs v=>.of_eq rfl,λbase _ _=>?_]
 have GI:=#[C9,Z] D42.fn T NC D11 D12 D13 D14 D15
 have GPl:=#[C3,Z] D43.fn T NC
 have GM:=#[Di,Z] D44.fn T NC
 have GS:=#[Bk,Z] D45.fn NC
 have GT:=#[Ab,Z] D47.fn T NC D11 D46
 have GG:=#[CY,Z] D48.fn T NC D11 D46
 have GL:=#[Bb,Z] D4.fn T T2.any NC #[_,_,D47,GT]
 have GSe:=#[yZ,Z] D5.fn T T2.any NC #[_,_,D47,GT] #[_,_,D48,GG]
 have GB:=#[zH,Z] D6.fn T NC #[_,_,D47,GT] #[_,_,D48,GG]
 have GMay:=#[Hd,Z] D7.fn NC #[_,_,D44,GM] #[_,_,D4,GL] #[_,_,D5,GSe]
 have GCd:=#[vY,Z] D8.fn NC #[_,_,D44,GM] #[_,_,D4,GL] #[_,_,D5,GSe]
 have GN:=#[Ar,Z] D9.fn #[_,_,D7,GMay] #[_,_,D6,GB]
 have GCr:=#[sO,Z] D10.fn NC #[_,_,D45,GS] #[_,_,D8,GCd] #[_,_,D9,GN]
 have GBi:=#[GR,Z] D1.fn
 have GHa:=#[Gx,Z] D2.fn
 have GMe:=#[vN,Z] D3.fn
 have GAd:=AY false (P:=l.prog) (w:=w) (mg:=mg) (base:=base) D59.fn T WC #[_,_,D3,GMe] #[_,_,D1,GBi]
 have GAl:=AY true (P:=l.prog) (w:=w) (mg:=mg) (base:=base) D59.fn T WC #[_,_,D3,GMe] #[_,_,D1,GBi]
 have GWi:=#[By,0,Z] D49.fn T (ME X G z12) NC WC #[_,_,D10,GCr] #[_,_,D43,GPl] #[_,_,D45,GS] #[_,_,D59,GAd]
 have GWn:=#[DJ,0,Z] D50.fn WC
 have GWs:=#[Hn,0,Z] D51.fn T WC
 have GWo:=#[Gs,0,Z] D52.fn T WC
 have GMs:=#[Bs,0,Z] D54.fn T WC
 have GMf:=#[BQ,0,Z] D55.fn T NC WC #[_,_,D47,GT] #[_,_,D54,GMs]
 have GMb:=#[A5,0,Z] D56.fn T2 WC #[_,_,D2,GHa]
 have GAh:=#[Ck,0,Z] D57.fn WC
 have GAo:=#[Ee,0,Z] D58.fn T NC WC #[_,_,D1,GBi] #[_,_,D48,GG] #[_,_,D57,GAh] #[_,_,D59,GAl]
 have GCo:=#[Fe,0,Z] D53.fn T WC #[_,_,D55,GMf] #[_,_,D56,GMb] #[_,_,D58,GAo]
 have GCe:=#[Ek,Z] D16.fn T
 have GNa:=#[EG,Z] D18.fn T
 have GSz:=#[CL,Z] D19.fn T2
 have GSt:=#[C7,Z] D20.fn T T2
 have GSp:=#[CN,Z] D21.fn
 have GOd:=#[vy,Z] D22.fn T T2
 have GLo:=#[BU,Z] D23.fn T
 have GLN:=#[yY,Z] D24.fn #[_,_,D23,GLo] #[_,_,D22,GOd]
 have GRi:=#[zp,Z] D25.fn #[_,_,D20,GSt]
 have GNt:=#[ED,Z] D26.fn T T2 #[_,_,D16,GCe] #[_,_,D18,GNa] #[_,_,D19,GSz] #[_,_,D25,GRi] #[_,_,D21,GSp] #[_,_,D24,GLN]
 have GMd:=#[Ds,Z] D27.fn T (Oe X G aC) #[mk,D42.mt.at_,D42.mt.fn,kc] D42.bd GI
 have GFk:=#[zr,Z] D29.fn
 have GPt:=#[EY,Z] D30.fn
 have GNr:=#[Dz,Z] D31.fn #[_,_,D30,GPt] #[_,_,D29,GFk]
 have GSc:=#[BZ,Z] D32.fn T T2 #[_,_,D31,GNr]
 have GCm:=#[Cd,Z] D33.fn T #[_,_,D30,GPt] #[_,_,D32,GSc]
 have GBg:=#[Cp,Z] D28.fn T #[_,_,D32,GSc]
 have GSs:=#[x5,Z] D34 T T2 5
 have GOp:=#[Eb,Z] D35.fn T #[_,_,D34,GSs]
 have GAk:=#[CD,Z] D36.fn T T2
 have GWh:=#[Af,Z] D17.fn T (ME X G z13) (ME X G z14)
 have GTd:=#[Dd,0,Z] D37.fn T WC #[_,_,D51,GWs] #[_,_,D52,GWo] #[_,_,D36,GAk] #[_,_,D17,GWh]
 have GTn:=#[zB,Z] D38.fn T
 have GOc:=#[E5,0,Z] D39.fn T WC #[_,_,D35,GOp] #[_,_,D38,GTn] #[_,_,D53,GCo] #[_,_,D17,GWh] #[_,_,D33,GCm] #[_,_,D37,GTd]
 have GSn:=#[CV,0,Z] D40.fn T NC WC #[_,_,D50,GWn] #[_,_,D47,GT] #[_,_,D48,GG] #[_,_,D43,GPl] #[_,_,D45,GS] #[_,_,D44,GM]
 exact Hg FL T2 #[_,_,D26,GNt] #[_,_,D27,GMd] (Oe X G aW) #[mkW,D49.mt.at_,D49.mt.fn,kcW] D49.bd GWi #[_,_,D28,GBg] #[_,_,D37,GTd] #[_,_,D39,GOc] #[_,_,D16,GCe] #[_,_,D40,GSn]
def walk{l:W.OpenLaw}{q:Program}{loose:List Str}{XP:(Str->Option Value)->Heap->Prop}{YP:World->Heap->Prop}{d:DefRec}{K:Params->W.Frag}(hn:l.most=some 63)(hdf:d.params.defaults=[])
  (hY:∀(w:World) (h:Heap),YP w h->(K w.params).In h)
  (F:∀(w:World) (mg:Str->Option Value) (fa:Addr) (h:Heap),(K w.params).In h->h.Ns mainGlobals mg->mg d.name = some (.ref fa) ->
   ∃fd:FuncData,(∀(s:Shared) (u:Value),BindsTo s fd #[[u],[]] [("_law_script",u)])/\∀base:Heap,(K w.params).In base->base.Ns mainGlobals mg->bf l.prog w (K w.params) mg base cZ 10 fa fd ["_law_script"] (yo (K w.params))) :
  W.WalkO q loose XP YP l.row.toRowW d [] (λf vs=>PySem.call f vs) :=
 L2.EH (n:=63) (k:=10) (x:="_law_script") (CX:=λ_=>cZ) (sp:=λw=>yo (K w.params)) hn (by decide) hdf #[rfl,by decide,by decide,rfl] hY F (λ_ _ a ns hl _ hS=>#[a,ns,rfl,hS,hl,λ_=>rfl]) λ_ _ _ _ _ z=>z
end Uf
section
open PySem PySem.W PyProof.Rows
def PySem.W.Fast:=()where tw8046628979764775867:=();tw14441844834968041750:=();tw1314280209166574338:=();tw5697590845362598100:=();tw10256700967573781299:=();tw1144590287231203511:=();tw17656581469002801551:=();tw169580322540160618:=();tw13331820075666471122:=();tw258389109664063068:=();tw7562599635325199250:=();tw1015751847967055644:=();tw5589782610536357157:=();tw4708544709634940567:=();tw5119804520947783061:=();tw2698068540461235093:=();tw14013892094478401286:=();tw3586094821731372922:=();tw1225931939029842692:=();tw11073961150470088161:=();tw4145780463648203050:=();tw6273220712276369625:=();tw6397179121786126894:=();tw7237552167207528653:=();tw17080098863720289283:=();tw13280778319636814987:=();tw1686062615609099696:=();tw17979054928079904689:=();tw1082396103404032188:=();tw9041477383706839506:=();tw5713129357804829530:=();tw17307450113567651624:=();tw12999047822489991120:=();tw9592924478086708903:=();tw4872255541295934768:=();tw3844502321727700727:=();tw13053566429015622951:=();tw17194388763148978370:=();tw13579318792431464806:=();tw471932083118125780:=();tw221035487840996646:=();tw8040909425745810362:=();tw8976653893608481071:=();tw4232752005535525102:=();tw16887649218471486531:=();tw3720743588333176464:=();tw8596488549364831442:=();tw10762375155984021241:=();tw2029655938334462826:=();tw7365703101730977830:=();tw16895535928032851100:=();tw6575906597645968658:=();tw18040737887834886350:=();tw6254657669101779155:=();tw7561789739262739026:=();tw5827853135865739781:=();tw6061706554775490019:=();tw12340700823484324193:=();tw1107009995574348891:=();tw16027358111757746015:=();tw18218603452850452042:=();tw15648492707026454257:=();tw6430314145265102497:=();tw976787582773212796:=();tw4668114053903312575:=();tw2813911674471786494:=();tw9921374700292077953:=();tw3135669236169725029:=();tw4862335727141751218:=();tw7776721196437916389:=();tw2307340452860808000:=();tw12487412922334224410:=();tw5859163404130657810:=();tw17763959229400624756:=();tw8695059630297358405:=();tw7388473340023683979:=();tw5976892328716590296:=();tw7343324946323601359:=();tw15843094469796058902:=();tw932476998895205204:=();tw2011071515348795398:=();tw5147405876883994002:=();tw11009445155217576317:=();tw14790287862120046951:=();tw5157028606661076006:=();tw3827965788244839252:=();tw4781742128565286054:=();tw14972202093523395249:=();tw6693819300174221230:=();tw6057435396528201806:=();tw18062365518776671262:=();tw14182255506496325430:=();tw1170204308168035120:=();tw9925284377536245485:=();tw12126087038917892190:=();tw7964497713429707338:=();tw12689777175890664647:=();tw4076605346122872362:=();tw5659609428156571248:=();tw12790567840598400710:=();tw1329066852766538817:=();tw6216377016148104098:=();tw18013118505341271855:=();tw5720501140560447520:=();tw17028818371993108893:=();tw4112569586856216573:=();tw2548956334168947712:=();tw10935316227019734463:=();tw3619612917987632481:=();tw8170632635889761927:=();tw14112982157033080334:=();tw16399730471039111227:=();tw13281385543585755170:=();tw11672640420669597398:=();tw17024784990910355025:=();tw2574857912279661265:=();tw17074285205292167:=();tw2564254428280211865:=();tw3461871507522562453:=();tw11843405167714058820:=();tw12400159199847689124:=();tw8690781858303132292:=();tw919789329181747705:=();tw6225431446303100340:=();tw10691438770207178340:=();tw5131302375612330363:=();tw10454186864150254679:=();tw18347074996427892592:=();tw7716808713357035608:=();tw14529686812684492421:=();tw6167306898420620063:=();tw6770459596540370921:=();tw13985693138971634470:=();tw7303650421350037937:=();tw12075427472268227363:=();tw10362359806989926406:=();tw3832078533086931082:=();tw18047759233849694663:=();tw14380517842042480774:=();tw17910234823793319326:=();tw6585149832465756190:=();tw10564716038842885321:=();tw7205447365804897497:=();tw2335518663779823352:=();tw16944580373312495782:=();tw12024828736776322820:=();tw2157277139778780037:=();tw7800456416980213899:=();tw11793598395233766197:=();tw4251941751101156959:=();tw5384952243801419061:=();tw219899200834967709:=();tw13783941552761197897:=();tw2431462982754899676:=();tw11468592026259232875:=();tw1382438490699899954:=();tw5787294973273442715:=();tw6711644025668006786:=();tw7694703186732246425:=();tw4607632641920520156:=();tw16502378044386981133:=();tw6240394110543169498:=();tw2010505671421715238:=();tw16113104226211444033:=();tw15723908574060246309:=();tw6805142082358650163:=();tw6208498167879931170:=();tw9845344841557827017:=();tw16237898152749326598:=();tw218143761289553877:=();tw11557863305064361815:=();tw4004356826831591982:=();tw2630737748878201757:=();tw14573155556678519356:=();tw4013924130684668897:=();tw10255218616996485687:=();tw16374152786650311549:=();tw10515076682412276040:=();tw11563899075422875916:=();tw551502359553812806:=();tw1997448680219322296:=();tw9409584457879459163:=();tw12938429976834817685:=();tw14454608682299674763:=();tw18026508916842264183:=();tw5126792575808100070:=();tw12412771913107312877:=();tw18152435600024362873:=();tw14634793522117934923:=();tw12827969858516691927:=();tw12321793157224335764:=();tw3868124819467185707:=();tw11660088056009017910:=();tw16214292832868622213:=();tw6075164457511733102:=();tw895296929227462631:=();tw5807835014609514168:=();tw1110650712103706451:=();tw3406900951051632455:=();tw10922904112168076233:=();tw4099550779850049517:=();tw2113557787818193295:=();tw5072439756400638177:=();tw1814809941241060488:=();tw8513060516772740237:=();tw15764812201955108769:=();tw7502602249167118555:=();tw4212331581881998907:=();tw11142376224563208874:=();tw14841038844238264784:=();tw8875510872787622889:=();tw14071573303602709366:=();tw17858794883465310824:=();tw12304942923751870633:=();tw17028483183777421508:=();tw9371307661114104734:=();tw17132816302543955484:=();tw14176893614919670824:=();tw15043286588576769177:=();tw6241027618899387944:=();tw14044760410530375623:=();tw16917582904168700319:=();tw14640044640356581977:=();tw13496661649572895149:=();tw13829009219943844387:=();tw7049163680808653576:=();tw4298173075069409334:=();tw7070174554297178057:=();tw9636965011968085253:=();tw18203089601623860514:=();tw9720871780126095078:=();tw8955575828044890854:=();tw4487173758133211091:=();tw7359704078361493874:=();tw6019116486354543662:=();tw1618093948054790800:=();tw13183647676427243319:=();tw13630258845007112141:=();tw8433152083247453876:=();tw4822997965054817893:=();tw8722951731314202936:=();tw4965401894100151418:=();tw8157581379024349190:=();tw2293912081804401874:=();tw5116854202667896383:=();tw8447652058792657115:=();tw7417066633112076806:=();tw15014260523790126592:=();tw14876210714084907628:=();tw2977409613708278096:=();tw11638624607150021910:=();tw10228818520041843197:=();tw12668555401814026543:=();tw12332833526477178510:=();tw18385743741770053951:=();tw3944521526637961514:=();tw12231293042678859960:=();tw12451126844231170061:=();tw18407421843375168738:=();tw13586662159583423419:=();tw4692257645072162386:=();tw5192411713292467878:=();tw12296044470649335561:=();tw10283402147469654776:=();tw9141041140937630334:=();tw12149046189196804542:=();tw8288225461410213153:=();tw8119689459983810377:=();tw15002475373643778995:=();tw15540473235451675713:=();tw9374561140170406211:=();tw11379645262102801632:=();tw6830763117158874067:=();tw10354278912737778884:=();tw271370392958469435:=();tw6059835793968234770:=();tw1117672952936529975:=();tw1880814186775531870:=();tw14116094674807544159:=();tw12624721267449750998:=();tw4952955996374582660:=();tw12143701224814271022:=();tw8435571724254976306:=();tw486993961186865491:=();tw16973296461215693133:=();tw16759962411474431787:=();tw7636480657360518150:=();tw4362454185743041554:=();tw1530549251469904468:=();tw14858160410806042745:=();tw15946924727988773427:=();tw17190960609908558169:=();tw1568879628524481443:=();tw16552198557732711950:=();tw9118509914735220811:=();tw9859881828957103197:=();tw7961495771979237039:=();tw14327433958828290637:=();tw1897419585466770252:=();tw703637958634193182:=();tw17061826557931806980:=();tw496006441595961812:=();tw1015556738132048385:=();tw10152270887720417779:=();tw750599736256095275:=();tw10107577741113964989:=();tw411473485645535381:=();tw11151175002614006109:=();tw2022563999367684846:=();tw12322834841868535652:=();tw5868896839135396324:=();tw13327294020961593680:=();tw4140230872042893666:=();tw10894493362195688489:=();tw7310420159531994123:=();tw14047402737719882319:=();tw4441770186587797758:=();tw4466186671404947046:=();tw3874974427194911930:=();tw7203525418075955384:=();tw13538512598847500378:=();tw13727014754914176022:=();tw4031171252187990434:=();tw12185821010470932030:=();tw13660042118265826747:=();tw9205229564340791723:=();tw6345770769929729178:=();tw4051555249906812685:=();tw484828198629989018:=();tw7494590860312718278:=();tw13411407587262815785:=();tw2940578233366726596:=();tw16972215179381224712:=();tw7572897585314929449:=();tw13996361599803754953:=();tw9122196736191972958:=();tw15561812264285274914:=();tw4261118572726540731:=();tw4738001549750088739:=();tw9663358684442863285:=();tw1303423922071798028:=();tw5935321352824339035:=();tw7366489586114517448:=();tw1763307609954418752:=();tw18423488020594490923:=();tw14890810081713427336:=();tw5028399673325135061:=();tw5621877913000911901:=();tw1042373414002179217:=();tw16666482465469657307:=();tw17702301990125495464:=();tw6619082298318279461:=();tw444905101515846343:=();tw6900661664567211066:=();tw10623829772254213873:=();tw9850850452892460827:=();tw4557486310828686907:=();tw8098438613798772256:=();tw8097021899319201015:=();tw14215197801851261870:=();tw771982255771492660:=()
set_option maxRecDepth 100000 in
set_option maxHeartbeats 0 in
theorem PySem.Challenge.cw_unfoldnet_k21_webs_by_hand_holds : PySem.Challenge.rw_unfoldnet_k21_webs_by_hand.Holds := by
 w_on;o_law;k_head;(case hw=>w_witness2)
 k_fill
 refine Uf.walk (l:=PySem.Challenge.rw_unfoldnet_k21_webs_by_hand) rfl rfl (fun w h Y=>PySem.W.kIn_of Y) ?F
 case F =>
  intro w mg fa h KX G hmg
  refine' Uf.all_mk KX G hmg ..
  all_goals try first|refine' Uf.HW ?_ ?_ ?_ ?_|refine' Uf.Ih ?_ ?_ ?_ ?_ ?_
  all_goals first|k_is|rfl|kernel_rfl|decide +kernel|skip
end
