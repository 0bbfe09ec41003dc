import PyProof.Rows.All
import KE.KDictList
import KE.KNest
import KE.KRevSl
import KE.KSortAsk
import KE.KTryMore
import KE.RegKIsAll
import KE.RegKTryMore
import Lean
import OpenK.AllK
import PyProof.Dict
import PyProof.EqAt
import PyProof.EqKinds
import PyProof.ExcAttrAll.ValueError
import PyProof.ExcBaseAll.ValueError
import PyProof.ExcInit
import PyProof.FString
import PyProof.InstStoreFacts
import PyProof.NeKinds
import PyProof.NsDelKeeps
import PyProof.Rows.SetFrom
import PyProof.TupleCall
import Wide.All
import Wide.FinOn
import PySem.Challenge.RW_evenclimb_k63_orders_made_refused
set_option Elab.async false
set_option linter.all false
set_option maxRecDepth 100000
set_option maxHeartbeats 8000000
set_option bootstrap.genMatcherCode false
noncomputable section
noncomputable def ae:=@PySem.wpAny_bind
noncomputable def ah:=@PySem.wpAny_pure
noncomputable def aj:=@PyProof.Rows.wpS_bind
noncomputable def ay:=@List.length_map
noncomputable def az:=@PyProof.Rows.wpS_pure
noncomputable def aB:=@PySem.Heap.get?_push_of_some
noncomputable def aC:=@Nat.le_refl
noncomputable def aI:=@PySem.Heap.lt_size
noncomputable def aK:=@List.getElem?_eq_getElem
noncomputable def aP:=@List.mem_cons
noncomputable def aQ:=@List.getD_eq_getElem?_getD
noncomputable def aX:=@PySem.Heap.get?_push_size
noncomputable def aY:=@Nat.ne_of_lt
noncomputable def bz:=@List.size_toArray
noncomputable def bE:=@decide_eq_true
noncomputable def bI:=@List.mem_cons_of_mem
noncomputable def bJ:=@List.mem_singleton
noncomputable def bK:=@Ne.symm
noncomputable def bO:=@List.mem_cons_self
noncomputable def bT:=@List.getElem?_map
noncomputable def bU:=@PySem.W.mg_of
noncomputable def bX:=@Int.toNat_natCast
noncomputable def cq:=@Bool.and_eq_true
noncomputable def cw:=@List.getElem?_eq_some_iff
noncomputable def cx:=@List.mem_map
noncomputable def cy:=@Nat.le_trans
noncomputable def cz:=@Nat.lt_of_lt_of_le
noncomputable def cA:=@Nat.zero_le
noncomputable def cC:=@PyProof.Rows.wpS_forRange
noncomputable def cD:=@PyProof.Rows.wpS_mono
noncomputable def cH:=@List.map_cons
noncomputable def cI:=@decide_eq_false
noncomputable def cQ:=@decide_eq_true_iff
noncomputable def cX:=@List.mem_of_getElem?
noncomputable def dc:=@PyProof.Rows.boot_isinstance
noncomputable def de:=@PySem.W.mg_none_of
noncomputable def df:=@PySem.wpAny_field
noncomputable def dg:=@PySem.wpAny_mono
noncomputable def dm:=@List.length_append
noncomputable def dn:=@List.map_map
noncomputable def dw:=@Bool.eq_iff_iff
noncomputable def dz:=@Nat.lt_irrefl
noncomputable def dC:=@if_false
noncomputable def dF:=@PySem.Paired.length
noncomputable def dG:=@PySem.wpAny_holding
noncomputable def d5:=@Option.some.inj
noncomputable def d6:=@PySem.Heap.size_push
noncomputable def d7:=@PySem.PassesOwn.never
noncomputable def eI:=@List.mem_append_right
noncomputable def eJ:=@Nat.le_of_lt
noncomputable def eK:=@Nat.ne_of_gt
noncomputable def eL:=@PySem.codeAny_mono
noncomputable def eN:=@PySem.wpAny_call_entry
noncomputable def eP:=@beq_iff_eq
noncomputable def fc:=@Bool.false_eq_true
noncomputable def fh:=@List.all_eq_true
noncomputable def fj:=@List.lookup_cons
noncomputable def fk:=@List.not_mem_nil
noncomputable def fq:=@Nat.dvd_trans
noncomputable def fz:=@or_false
noncomputable def fC:=@Array.length_toList
noncomputable def fE:=@List.length_cons
noncomputable def fF:=@List.mem_filter
noncomputable def fH:=@Nat.mul_comm
noncomputable def fJ:=@PyProof.Rows.wpS_get
noncomputable def fK:=@PySem.W.kia_one
noncomputable def fL:=@PySem.wpAny_attempt
noncomputable def fM:=@PySem.wpAny_setField_rec
noncomputable def f6:=@List.map_append
noncomputable def f7:=@List.pairwise_map
noncomputable def gf:=@PySem.Heap.get?_update_self
noncomputable def gj:=@PySem.Obj.data_mapFields
noncomputable def gq:=@PySem.mem_of_lookup
noncomputable def gu:=@PySem.wpAny_truthy_bool
noncomputable def gK:=@Array.getElem?_eq_getElem
noncomputable def gN:=@List.filterMap_cons
noncomputable def gO:=@List.nodup_cons
noncomputable def gP:=@Nat.pos_of_ne_zero
noncomputable def gR:=@PyProof.Rows.wpS_modify
noncomputable def gT:=@PySem.Heap.get?_update_other
noncomputable def gU:=@PySem.codeAny_builtin
noncomputable def gW:=@PySem.wpAny_callSpecial?_slot
noncomputable def gX:=@PySem.wpAny_newObj_type
noncomputable def gY:=@PySem.wpAny_seqItems
noncomputable def ig:=@if_true
noncomputable def iJ:=@List.mem_append
noncomputable def iK:=@PySem.wpAny_Call_Name_kw
noncomputable def iL:=@PySem.wpAny_call
noncomputable def iM:=@PySem.wpAny_rule
noncomputable def jd:=@Bool.or_eq_true
noncomputable def je:=@Int.le_refl
noncomputable def jg:=@List.ext_getElem
noncomputable def jh:=@List.getElem?_append_right
noncomputable def ji:=@Nat.le_of_not_lt
noncomputable def jj:=@Nat.pow_succ
noncomputable def jk:=@PySem.F.called_set
noncomputable def jl:=@PySem.boot_len
noncomputable def jm:=@PySem.wpAny_newList
noncomputable def jn:=@PySem.wpAny_setField
noncomputable def jo:=@beq_eq_false_iff_ne
noncomputable def j2:=@Int.natCast_mul
noncomputable def j5:=@List.append_nil
noncomputable def j6:=@List.getElem?_append_left
noncomputable def j7:=@List.getElem_mem
noncomputable def j8:=@List.getElem_of_mem
noncomputable def j9:=@List.mem_range
noncomputable def j_:=@Nat.mul_assoc
noncomputable def kg:=@PySem.Obj.isFreed_of_fields
noncomputable def kh:=@PySem.wpAny_passesOwn
noncomputable def lH:=@Array.toList_push
noncomputable def lR:=@List.any_cons
noncomputable def lS:=@List.find?_cons
noncomputable def lT:=@List.length_filter_le
noncomputable def lU:=@List.length_range
noncomputable def lV:=@List.zip_cons_cons
noncomputable def lX:=@Nat.le_of_eq
noncomputable def lY:=@Nat.le_succ
noncomputable def lZ:=@Nat.lt_of_le_of_lt
noncomputable def l0:=@Nat.lt_succ_self
noncomputable def mj:=@Option.bind_some
noncomputable def mq:=@PyProof.Rows.callWith_type1
noncomputable def mw:=@PyProof.Rows.listItems_at
noncomputable def mx:=@PyProof.Rows.listUpdate_at
noncomputable def my:=@PySem.F.plainAttrs_list
noncomputable def mz:=@PySem.Heap.SameBut.update
noncomputable def mB:=@PySem.Heap.get?_update_ne
noncomputable def mC:=@PySem.wpAny_fieldsOf
noncomputable def mD:=@PySem.wpAny_setState_of
noncomputable def nX:=@of_decide_eq_true
noncomputable def oG:=@Array.getElem?_eq_some_iff
noncomputable def oH:=@Array.getElem?_toList
noncomputable def oM:=@Int.emod_nonneg
noncomputable def oN:=@Int.le_trans
noncomputable def oO:=@Int.not_lt
noncomputable def oP:=@Int.zero_add
noncomputable def oS:=@List.forIn_cons
noncomputable def oU:=@List.getElem?_set_ne
noncomputable def oV:=@List.getElem_map
noncomputable def oW:=@List.length_take
noncomputable def oX:=@List.map_congr_left
noncomputable def oY:=@List.mem_reverse
noncomputable def oZ:=@List.of_mem_zip
noncomputable def o5:=@List.range_succ
noncomputable def o6:=@Nat.dvd_refl
noncomputable def o7:=@Nat.lt_succ_of_lt
noncomputable def o8:=@Nat.mul_le_mul_left
noncomputable def o9:=@Option.map_eq_some_iff
noncomputable def pe:=@PyProof.Rows.get?_update_seq
noncomputable def ph:=@PySem.F.slot_dict_keyiterator_next
noncomputable def pj:=@PySem.Heap.size_after_update
noncomputable def pk:=@PySem.wpAny_execs_nil
noncomputable def pq:=@PySem.wpAny_isInstance
noncomputable def pz:=@PySem.wpAny_of_eq
noncomputable def pA:=@PySem.wpAny_setEntries_of
noncomputable def qf:=@getElem?_pos
noncomputable def sU:=@Array.getElem?_eq_none
noncomputable def sV:=@Array.getElem_mem
noncomputable def sY:=@Bool.false_and
noncomputable def sZ:=@Bool.true_and
noncomputable def tu:=@Int.emod_lt_of_pos
noncomputable def tD:=@Int.le_of_lt
noncomputable def tG:=@List.forIn_nil
noncomputable def tH:=@List.getElem?_eq_none
noncomputable def tI:=@List.getElem?_set_self
noncomputable def tJ:=@List.length_nil
noncomputable def tK:=@List.length_singleton
noncomputable def tL:=@List.mem_append_left
noncomputable def tN:=@List.nodup_append
noncomputable def tO:=@List.pairwise_cons
noncomputable def tQ:=@Nat.mul_div_cancel_left
noncomputable def tS:=@Nat.mul_lt_mul_of_pos_right
noncomputable def tT:=@Nat.mul_one
noncomputable def tU:=@Nat.pow_pos
noncomputable def tV:=@Nat.pow_zero
noncomputable def tW:=@Option.some.injEq
noncomputable def tY:=@PySem.Code.quiet_builtin
noncomputable def tZ:=@PySem.F.slot_bool_hash
noncomputable def t5:=@PySem.F.slot_list_extend
noncomputable def t6:=@PySem.F.slot_tuple_iterator_next
noncomputable def t7:=@PySem.F.slot_zip_next
noncomputable def t8:=@PySem.W.callWith_K
noncomputable def t9:=@PySem.isSubtype_stop
noncomputable def t_:=@PySem.plainId_quiet
noncomputable def ua:=@PySem.wpAny_letGo
noncomputable def ub:=@PySem.wpAny_newTuple
noncomputable def uc:=@PySem.wpAny_onRaise
noncomputable def ud:=@PySem.wpAny_pyIter_list
noncomputable def uf:=@PySem.wpAny_runValue
noncomputable def ug:=@PySem.wpAny_typeNameOfWhole_keyiter
noncomputable def yg:=@Array.mem_toList_iff
noncomputable def yh:=@Array.toList_map
noncomputable def ym:=@Int.le_antisymm
noncomputable def yn:=@Int.natCast_emod
noncomputable def yo:=@Int.ofNat_lt
noncomputable def yr:=@List.all_cons
noncomputable def yt:=@List.cons.injEq
noncomputable def yu:=@List.foldl_append
noncomputable def yv:=@List.getElem?_range
noncomputable def yw:=@List.getElem?_replicate
noncomputable def yx:=@List.getElem?_zip_eq_some
noncomputable def yy:=@List.getElem_inj
noncomputable def yz:=@List.length_replicate
noncomputable def yA:=@List.length_set
noncomputable def yB:=@List.length_zip
noncomputable def yC:=@List.perm_middle
noncomputable def yD:=@List.zipIdx_cons
noncomputable def yE:=@List.zipIdx_nil
noncomputable def yG:=@Nat.add_sub_cancel
noncomputable def yH:=@Nat.dvd_of_mod_eq_zero
noncomputable def yI:=@Nat.gcd_dvd_left
noncomputable def yJ:=@Nat.lt_of_not_le
noncomputable def yK:=@Nat.lt_trans
noncomputable def yL:=@Nat.mod_eq_zero_of_dvd
noncomputable def yM:=@Nat.mul_dvd_mul_left
noncomputable def yN:=@Nat.mul_le_mul
noncomputable def yO:=@Nat.pos_of_dvd_of_pos
noncomputable def yP:=@Option.map_some
noncomputable def yS:=@PyProof.Rows.F.plain_set_update_loop
noncomputable def yT:=@PyProof.Rows.call_function_entry_kw
noncomputable def yU:=@PyProof.Rows.entry_proto_collect'
noncomputable def yV:=@PyProof.Rows.wpAny_call_entry_kw
noncomputable def yW:=@PySem.Around.under_plainId
noncomputable def yX:=@PySem.Calls.evalArgs_plain
noncomputable def yZ:=@PySem.F.excBase_ValueError
noncomputable def y6:=@PySem.F.slot_dict_get
noncomputable def y7:=@PySem.F.slot_list_append
noncomputable def y8:=@PySem.F.type_list_extend
noncomputable def y9:=@PySem.Obj.cls_mapFields
noncomputable def y_:=@PySem.SeqAt.EqAt.bool_bool
noncomputable def za:=@PySem.SeqAt.EqAt.int_int
noncomputable def zc:=@PySem.Value.isInt_shape
noncomputable def zf:=@PySem.W.cellsFrom_some
noncomputable def zh:=@PySem.W.km_tabs_of
noncomputable def zi:=@PySem.tupleKind_room_in1
noncomputable def zj:=@PySem.wpAny_askSetting
noncomputable def zk:=@PySem.wpAny_dictEntries
noncomputable def zl:=@PySem.wpAny_dictEpoch
noncomputable def zm:=@PySem.wpAny_ite_split
noncomputable def zo:=@PySem.wpAny_pyIter_slot
noncomputable def zp:=@PySem.wpAny_specialOf
noncomputable def zq:=@PySem.wpAny_updateSeq_pair
noncomputable def HQ:=@Array.mem_iff_getElem
noncomputable def Ic:=@List.eq_nil_of_length_eq_zero
noncomputable def Ie:=@List.findIdx?_eq_none_iff
noncomputable def Ig:=@List.getElem?_cons_zero
noncomputable def Ih:=@List.getElem?_take_of_lt
noncomputable def Ii:=@List.length_eq_zero_iff
noncomputable def Ij:=@List.length_eraseIdx_of_lt
noncomputable def Ik:=@List.mem_or_eq_of_mem_set
noncomputable def Il:=@List.pairwise_iff_getElem
noncomputable def Im:=@List.pairwise_lt_range
noncomputable def Io:=@List.perm_append_singleton
noncomputable def Ip:=@List.take_of_length_le
noncomputable def Iq:=@Nat.dvd_of_mul_dvd_mul_right
noncomputable def Iu:=@PySem.F.args_dict_get_2
noncomputable def Iv:=@PySem.F.args_dict_keyiterator_next_1
noncomputable def Iw:=@PySem.F.args_tuple_iterator_next_1
noncomputable def Iy:=@PySem.F.entry_dict_get
noncomputable def Iz:=@PySem.F.entry_dict_keyiterator_next
noncomputable def IK:=@PySem.F.entry_tuple_iterator_next
noncomputable def IV:=@PySem.F.slot_list_index
noncomputable def IW:=@PySem.F.type_list_append

set_option genSizeOf false
namespace L2
open PySem PySem.Spec PyProof.Rows
abbrev Key:=Sum Int Str
noncomputable def kY:Int->Value->Bool
 |k,.bool b=>k==(if b then 1 else 0)
 |_,_=>false
noncomputable def iV:Key->Value->Bool
 |.inl k,v=>Value.isInt k v||kY k v
 |.inr x,v=>Value.isStrOf x v
noncomputable def N7(w:World):Key->Int
 |.inl k=>hashInt k
 |.inr x=>hashStr w x
theorem NP{k:Int}{v:Value}(h:kY k v=true):∃b:Bool,k=(if b then 1 else 0)/\v=Value.bool b:=by
 cases v with
 |bool b=>exact⟨b,by simpa[kY]using h,rfl⟩
 |_=>simp[kY]at h
theorem fQ:∀{k:Key} {v:Value},iV k v=true->(∃i t,k=Sum.inl i/\v=Value.int i t)\/(∃x t,k=Sum.inr x/\v=Value.str x t)\/(∃b:Bool,k=Sum.inl (if b then 1 else 0)/\v=Value.bool b)
 |.inl i,v,h=>by
  rcases(jd _ _).mp (show(Value.isInt i v||kY i v)=true from h)with h|h
  ·obtain⟨t,e⟩:=zc (k:=i) (v:=v) h
   exact .inl ⟨i,t,rfl,e⟩
  ·obtain⟨b,e,e'⟩:=NP h
   exact .inr (.inr ⟨b,by rw[e],e'⟩)
 |.inr x,v,h=>by
  obtain⟨t,e⟩:=Value.isStrOf_shape (x:=x) (v:=v) h;exact .inr (.inl ⟨x,t,rfl,e⟩)
theorem N9(i:Int)(t:Tok):iV (.inl i) (.int i t)=true:=by simp[iV,Value.isInt]
theorem N_(x:Str)(t:Tok):iV (.inr x) (.str x t)=true:=by simp[iV,Value.isStrOf]
theorem N8(b:Bool):iV (.inl (if b then 1 else 0)) (.bool b)=true:=by cases b<;>simp[iV,kY]
theorem Mr{prog:Program}{w:World}{A:Around}{E:Value->Shared->Prop}{s:Shared}{b:Bool}{Q:Int->Shared->Prop}(h:Q (hashInt (if b then 1 else 0)) {s with toks:=s.toks+1}):
  wpAny (model prog w) A (pyHash (.bool b)) Q E s:=by
 have hr:=rawHash_range (if b then 1 else 0);have hT:s.TypeIs (.bool b) "bool" :=rfl;unfold pyHash;have hv:[Value.bool b].any Value.onHeap=false:=rfl;refine ae ?_;rw[cRoomFor,if_neg (by rw[hv];exact Bool.false_ne_true)];refine ah ?_;refine ae (zp hT tZ.lookup ?_);show wpAny _ _ (if(some (Value.builtin "int.__hash__")==some Value.none)=true then _ else _) Q E s;rw[if_neg (by rw[beq_builtin_none];exact Bool.false_ne_true)];refine ae (zp hT tZ.lookup ?_);show wpAny _ _ (callSpecialIfBoundUnlessNone? (.bool b) "__hash__" _>>=_) Q E s;refine ae (wpAny_callSpecialIfBoundUnlessNone?_slot hT tZ
  (eN tZ hT entry_int_hash
   (show wpAny _ _ (do ret (<- mkInt (rawHash (if b then 1 else 0)))) _ _ s from wpAny_ret_mkInt ?_) (args_int_hash _)))
 show wpAny _ _ (if(decide (-(2:Int) ^ 63<=rawHash (if b then 1 else 0))&&decide (rawHash (if b then 1 else 0)<2 ^ 63))=true then _ else _) Q E _;rw[if_pos (by rw[bE hr.1,bE hr.2];rfl)];exact ah h
theorem qt(a b:Int):decide ((Sum.inl a:Key)=Sum.inl b)=(a==b):=by
 by_cases e:a=b
 ·subst e;simp
 ·have h:¬ (Sum.inl a:Key)=Sum.inl b:=λq=>e (Sum.inl.inj q)
  rw[cI h];exact(jo.mpr e).symm
theorem Od(a b:Str):decide ((Sum.inr a:Key)=Sum.inr b)=decide (a=b):=by
 by_cases e:a=b
 ·subst e;simp
 ·have h:¬ (Sum.inr a:Key)=Sum.inr b:=λq=>e (Sum.inr.inj q)
  rw[cI h,cI e]
theorem Cw(a:Int)(b:Str):decide ((Sum.inl a:Key)=Sum.inr b)=false:=cI (λq=>nomatch q)
theorem Cy(a:Str)(b:Int):decide ((Sum.inr a:Key)=Sum.inl b)=false:=cI (λq=>nomatch q)
noncomputable def cS(prog:Program)(w:World):PySem.KeyKind prog w Key where
 is:=iV
 hash:=N7 w
 inj:=λv a b ha hb=>by
  rcases fQ ha with⟨i,t,rfl,rfl⟩|⟨x,t,rfl,rfl⟩|⟨x,rfl,rfl⟩
  ·rcases fQ hb with⟨j,u,rfl,e⟩|⟨y,u,rfl,e⟩|⟨y,rfl,e⟩
   ·injection e with e1 _;rw[e1]
   ·exact nomatch e
   ·exact nomatch e
  ·rcases fQ hb with⟨j,u,rfl,e⟩|⟨y,u,rfl,e⟩|⟨y,rfl,e⟩
   ·exact nomatch e
   ·injection e with e1 _;rw[e1]
   ·exact nomatch e
  ·rcases fQ hb with⟨j,u,rfl,e⟩|⟨y,u,rfl,e⟩|⟨y,rfl,e⟩
   ·exact nomatch e
   ·exact nomatch e
   ·injection e with e1;rw[e1]
 byValue:=λk v h=>by
  rcases fQ h with⟨i,t,rfl,rfl⟩|⟨x,t,rfl,rfl⟩|⟨x,rfl,rfl⟩<;>rfl
 pyHash:=λhv h=>by
  rcases fQ hv with⟨i,t,rfl,rfl⟩|⟨x,t,rfl,rfl⟩|⟨x,rfl,rfl⟩
  ·exact wpAny_pyHash_int h
  ·exact wpAny_pyHash_str h
  ·exact Mr h
 eqBool:=λhu hv h=>by
  rcases fQ hu with⟨i,t,rfl,rfl⟩|⟨x,t,rfl,rfl⟩|⟨x,rfl,rfl⟩
  ·rcases fQ hv with⟨j,u,rfl,rfl⟩|⟨y,u,rfl,rfl⟩|⟨y,rfl,rfl⟩
   ·rw[qt]at h;exact wpAny_eqBool_int h
   ·rw[Cw]at h;exact SeqAt.EqAt.int_str i t y u _ _ _ _ h
   ·rw[qt]at h;exact SeqAt.EqAt.int_bool i t y _ _ _ _ h
  ·rcases fQ hv with⟨j,u,rfl,rfl⟩|⟨y,u,rfl,rfl⟩|⟨y,rfl,rfl⟩
   ·rw[Cy]at h;exact SeqAt.EqAt.str_int x t j u _ _ _ _ h
   ·rw[Od]at h;exact wpAny_eqBool_str h
   ·rw[Cy]at h;exact SeqAt.EqAt.str_bool x t y _ _ _ _ h
  ·rcases fQ hv with⟨j,u,rfl,rfl⟩|⟨y,u,rfl,rfl⟩|⟨y,rfl,rfl⟩
   ·rw[qt]at h;exact SeqAt.EqAt.bool_int x j u _ _ _ _ h
   ·rw[Cw]at h;exact SeqAt.EqAt.bool_str x y u _ _ _ _ h
   ·rw[qt]at h
    have e:((if x then(1:Int)else 0)==(if y then(1:Int)else 0))=(x==y):=by cases x<;>cases y<;>rfl
    rw[e]at h;exact y_ x y _ _ _ _ h
 «strs»:=λk x t v h=>by
  rcases fQ h with⟨i,u,rfl,e⟩|⟨y,u,rfl,e⟩|⟨y,rfl,e⟩
  ·exact nomatch e
  ·injection e with e1 _
   subst e1;cases v<;>rfl
  ·exact nomatch e
theorem Pk(prog:Program)(w:World)(i:Int)(t:Tok):(cS prog w).is (.inl i) (.int i t)=true:=N9 i t
theorem Pl(prog:Program)(w:World)(x:Str)(t:Tok):(cS prog w).is (.inr x) (.str x t)=true:=N_ x t
inductive V where
 |non|bl (b:Bool)|int (i:Int)|str (x:Str)|fO (b:Array UInt8)|flt (b:UInt64)|ref (a:Addr)|ty (n:String)
 deriving DecidableEq
noncomputable def RelV:V->Value->Prop
 |.non,u=>u=Value.none
 |.bl b,u=>u=Value.bool b
 |.int i,u=>∃t,u=Value.int i t
 |.str x,u=>∃t,u=Value.str x t
 |.fO b,u=>∃t,u=Value.bytes b t
 |.flt b,u=>∃t,u=Value.float b t
 |.ref a,u=>u=Value.ref a
 |.ty n,u=>u=Value.type n
abbrev Vals:List V->List Value->Prop:=Paired RelV
theorem Vals.length{xs:List V}{us:List Value}(r:Vals xs us):xs.length=us.length:=dF r
theorem Vals.get:∀{xs:List V} {us:List Value} {i:Nat} {x:V},Vals xs us->xs[i]?=some x->∃u,us[i]?=some u/\RelV x u
 |_,_,_,_,.nil,e=>by simp at e
 |_,_,0,_,.cons r _,e=>by simp at e;subst e;exact⟨_,rfl,r⟩
 |_,_,i+1,x,.cons _ t,e=>by
  obtain⟨u,h1,h2⟩:=Vals.get (i:=i) (x:=x) t (by simpa using e);exact⟨u,by simpa using h1,h2⟩
theorem Vals.set{x:V}{u:Value}(r:RelV x u):∀{xs:List V} {us:List Value} (i:Nat),Vals xs us->Vals (xs.set i x) (us.set i u)
 |_,_,_,.nil=>.nil
 |_,_,0,.cons _ t=>.cons r t
 |_,_,i+1,.cons q t=>.cons q (Vals.set r i t)
theorem Vals.append:∀{xs ys:List V} {us ws:List Value},Vals xs us->Vals ys ws->Vals (xs++ys) (us++ws)
 |_,_,_,_,.nil,s=>s
 |_,_,_,_,.cons r t,s=>.cons r (Vals.append t s)
theorem Vals.take:∀{xs:List V} {us:List Value} (n:Nat),Vals xs us->Vals (xs.take n) (us.take n)
 |_,_,0,_=>.nil
 |_,_,_+1,.nil=>.nil
 |_,_,n+1,.cons r t=>.cons r (Vals.take n t)
theorem Vals.drop:∀{xs:List V} {us:List Value} (n:Nat),Vals xs us->Vals (xs.drop n) (us.drop n)
 |_,_,0,r=>r
 |_,_,_+1,.nil=>.nil
 |_,_,n+1,.cons _ t=>Vals.drop n t
noncomputable def gw:Option V->Option Value->Prop
 |some v,some u=>RelV v u
 |none,none=>True
 |_,_=>False
noncomputable def KV{κ:Type}:List (κ × V)->List (κ × Value)->Prop:=Paired λ(p:κ × V) (q:κ × Value)=>p.1=q.1/\RelV p.2 q.2
noncomputable def kV:Key->V
 |.inl i=>.int i
 |.inr x=>.str x
inductive HO where
 |lst (xs:List V)
 |tup (xs:List V)
 |dK (kvs:List (Key × V))|dT (kvs:List (List Key × V))
 |set (S:Int->Bool) (n:Nat)
 |ins (C dx:Addr) (fs:List (Str × V))
 |own (x:Addr)
 |xd (fs:List (Str × V))
 |met (f x:Addr)
 |rng (lo hi:Int)
 |bY (o:Obj) (u:HO)
 |jb (ps:Array Value)
 |lam (pos:Pos) (qual:Str)
 |ext (φ:Heap->Prop)
noncomputable def Cr(k:Key)(v:V):Prop:=v=kV k\/∃b:Bool,v = .bl b/\k = .inl (if b then 1 else 0)
abbrev qp:List Key->List V->Prop:=Paired Cr
noncomputable def g6(H:Addr->Option HO)(b:Addr)(ks:List Key):Prop:=∃ws,qp ks ws/\H b=some (.tup ws)
abbrev Hp:=Addr->Option HO
noncomputable def upd(H:Hp)(a:Addr)(o:HO):Hp:=λb=>if b=a then some o else H b
theorem av{H:Hp}{a:Addr}{o:HO}:upd H a o a=some o:=by unfold upd;rw[if_pos rfl]
theorem ax{H:Hp}{a b:Addr}{o:HO}(h:b≠a):upd H a o b=H b:=by unfold upd;rw[if_neg h]
theorem xX{H:Hp}{a:Addr}{o u:HO}:upd (upd H a o) a u=upd H a u:=by
 funext b;unfold upd;split<;>rfl
theorem iq{H:Hp}{a b:Addr}{o u:HO}(h:H a=some o)(h':H b=some u)(d:o≠u):a≠b:=by
 intro e;subst e;rw[h]at h';exact d (d5 h')
theorem cK{H:Hp}{a b:Addr}{o:HO}(h:H a=some o)(h':H b=none):a≠b:=by
 intro e;subst e;rw[h]at h';cases h'
section
variable (P:Program) (w:World)
noncomputable def aN(H:Hp)(h:Heap)(a:Addr):HO->Prop
 |.lst xs=>xs.length<=sizeLine/\∃(its:List Value) (n:Nat),Vals xs its/\h.get? a=some {cls:=.type "list", data:=.seq its.toArray n}
 |.tup xs=>xs.length<=sizeLine/\∃its:List Value,Vals xs its/\IsTup h a its.toArray/\∃o,h.get? a=some o/\o.dict=none
 |.dK kvs=>kvs.length<=sizeLine/\(a==sysModules)=false/\∃vs,KV kvs vs/\h.DictOf (cS P w) a vs
 |.dT kvs=>kvs.length<=sizeLine/\(a==sysModules)=false/\∃xs:List (List Key × Addr × Value),
   Paired (λ(p:List Key × V) (q:List Key × Addr × Value)=>p.1=q.1/\g6 H q.2.1 p.1/\RelV p.2 q.2.2) kvs xs /\
   ∃o es ep,h.get? a=some o/\o.ExactDict/\o.data = .dict es ep/\es.toList=xs.map (entryOfKey (tupleKind (cS P w)))/\(xs.map (·.1)).Nodup
 |.set S n=>h.SetOf (intKind P w) a S n
 |.ins C dx fs=>H dx=some (.own a)/\fs.length<=1000/\dx≠a/\h.get? a=some (W.instObj C dx) /\
   ∃mA,h.Ns1 dx mA/\(∀f,gw (fs.lookup f) (mA f))/\PySem.Within mA (fs.map (·.1))
 |.own _=>∃o,h.get? a=some o
 |.xd fs=>∃mA,h.Ns1 a mA/\∀f,gw (fs.lookup f) (mA f)
 |.rng lo hi=>∃t u v,h.get? a=some {cls:=.type "range", data:=.fields #[.int lo t,.int hi u,.int 1 v]}
 |.bY o u=>h.get? a=some o/\aN H h a u
 |.jb ps=>h.get? a=some {cls:=.none,data:=.fields ps}
 |.lam pos qual=>∃ps,h.get? a=some {cls:=.none,data:=.fields ps}/\TriplesOk ps.toList/\∀cv,codeAmong pos ps.toList=some cv->∃c o u vs t,cv = .ref c/\H c=some (.bY o u)/\o.data = .fields vs/\vs[1]?=some (.str qual t)
 |.met f x=>h.get? a=some (W.methodObj (.ref f) (.ref x))
 |.ext φ=>φ h/\(∃o,h.get? a=some o)/\∀h1 h2:Heap,φ h1->(∀o,h1.get? a=some o->h2.get? a=some o)->φ h2
noncomputable def aU(H:Hp)(h:Heap):Prop:=∀a o,H a=some o->aN P w H h a o
end
section
variable {P:Program} {w:World} {H H':Hp} {h h':Heap} {a:Addr} {o:HO}
theorem aN.lt(x:aN P w H h a o):a<h.objs.size:=by
 cases o with
 |lst xs=>obtain⟨_,_,_,_,e⟩:=x;exact aI e
 |tup xs=>obtain⟨_,_,_,p,_⟩:=x;exact p.lt
 |dK kvs=>obtain⟨_,_,_,_,o,_,_,e,_⟩:=x;exact aI e
 |dT kvs=>obtain⟨_,_,_,_,o,_,_,e,_⟩:=x;exact aI e
 |set S n=>obtain⟨o,_,_,_,e,_⟩:=x;exact aI e
 |ins C dx fs=>obtain⟨_,_,_,e,_⟩:=x;exact aI e
 |own y=>obtain⟨_,e⟩:=x;exact aI e
 |xd fs=>obtain⟨_,⟨_,_,_,e,_⟩,_⟩:=x;exact aI e
 |rng lo hi=>obtain⟨_,_,_,e⟩:=x;exact aI e
 |bY ob u=>obtain⟨e,_⟩:=x;exact aI e
 |jb ps=>exact aI (show h.get? a=some _ from x)
 |lam pos qual=>obtain⟨_,e,_⟩:=x;exact aI e
 |met f y=>exact aI (show h.get? a=some _ from x)
 |ext φ=>obtain⟨_,⟨_,e⟩,_⟩:=x;exact aI e
theorem Paired.di{α β:Type}{F G:α->β->Prop}:∀{l₁:List α} {l₂:List β},Paired F l₁ l₂->(∀a b,F a b->G a b)->Paired G l₁ l₂
 |_,_,.nil,_=>.nil
 |_,_,.cons r t,f=>.cons (f _ _ r) (Paired.di t f)
theorem aN.stay(x:aN P w H h a o)(k:∀b u,(b=a\/H b=some (.own a))->h.get? b=some u->h'.get? b=some u)(ho:∀b,H b=some (.own a)->H' b=some (.own a))(ht:∀b xs,H b=some (.tup xs)->H' b=some (.tup xs))(hz:∀b ob u,H b=some (.bY ob u)->H' b=some (.bY ob u)):aN P w H' h' a o:=by
 induction o with
 |lst xs=>obtain⟨z,its,n,r,e⟩:=x;exact⟨z,its,n,r,k _ _ (.inl rfl) e⟩
 |tup xs=>obtain⟨z,its,r,⟨ob,e,c⟩,od,e2,d⟩:=x;exact⟨z,its,r,⟨ob,k _ _ (.inl rfl) e,c⟩,od,k _ _ (.inl rfl) e2,d⟩
 |dK kvs=>obtain⟨z,y,vs,r,ob,es,ep,e,c⟩:=x;exact⟨z,y,vs,r,ob,es,ep,k _ _ (.inl rfl) e,c⟩
 |dT kvs =>
  obtain⟨z,y,xs,r,ob,es,ep,e,c⟩:=x;exact⟨z,y,xs,Paired.di r λp q z=>⟨z.1,(let⟨ws,k1,k2⟩:=z.2.1;⟨ws,k1,ht _ _ k2⟩),z.2.2⟩,ob,es,ep,k _ _ (.inl rfl) e,c⟩
 |set S n=>obtain⟨ob,es,ep,t,e,c⟩:=x;exact⟨ob,es,ep,t,k _ _ (.inl rfl) e,c⟩
 |ins C dx fs =>
  obtain⟨d,z,ne,e,mA,⟨od,es,ep,e2,c⟩,r⟩:=x;exact⟨ho _ d,z,ne,k _ _ (.inl rfl) e,mA,⟨od,es,ep,k _ _ (.inr d) e2,c⟩,r⟩
 |own y=>obtain⟨ob,e⟩:=x;exact⟨ob,k _ _ (.inl rfl) e⟩
 |xd fs=>obtain⟨mA,⟨od,es,ep,e,c⟩,r⟩:=x;exact⟨mA,⟨od,es,ep,k _ _ (.inl rfl) e,c⟩,r⟩
 |rng lo hi=>obtain⟨t,u,v,e⟩:=x;exact⟨t,u,v,k _ _ (.inl rfl) e⟩
 |bY ob u ih=>obtain⟨e,q⟩:=x;exact⟨k _ _ (.inl rfl) e,ih q⟩
 |jb ps =>
  have e:h.get? a=some {cls:=.none,data:=.fields ps}:=x;show h'.get? a=some {cls:=.none,data:=.fields ps};exact k a _ (.inl rfl) e
 |lam pos qual=>obtain⟨ps,e,t,q⟩:=x;exact⟨ps,k _ _ (.inl rfl) e,t,λcv z=>let⟨c,o,u,vs,t,q1,q2,q3⟩:=q cv z;⟨c,o,u,vs,t,q1,hz _ _ _ q2,q3⟩⟩
 |met f y =>
  have e:h.get? a=some (W.methodObj (.ref f) (.ref y)):=x;show h'.get? a=some (W.methodObj (.ref f) (.ref y));exact k a _ (.inl rfl) e
 |ext φ=>obtain⟨p,⟨o,e⟩,st⟩:=x;exact⟨st _ _ p λo q=>k _ _ (.inl rfl) q,⟨o,k _ _ (.inl rfl) e⟩,st⟩
theorem aU.lt(x:aU P w H h)(e:H a=some o):a<h.objs.size:=(x a o e).lt
theorem aU.fresh(x:aU P w H h)(e:h.objs.size<=a):H a=none:=by
 cases q:H a with
 |none=>rfl
 |some u=>exact absurd (cz (x.lt q) e) (dz _)
theorem aU.kept(x:aU P w H h)(k:∀b u,h.get? b=some u->h'.get? b=some u):aU P w H h':=λa o e =>
 (x a o e).stay (λb u _ q=>k b u q) (λ_ q=>q) (λ_ _ q=>q) λ_ _ _ q=>q
theorem aU.laid(x:aU P w H h)(k:∀b u,h.get? b=some u->h'.get? b=some u)(hp:h.objs.size<=a)(new:aN P w (upd H a o) h' a o):aU P w (upd H a o) h':=λb u e=>by
 have hn:=x.fresh hp
 by_cases hb:b=a
 ·subst hb;rw[av]at e;cases e;exact new
 ·rw[ax hb]at e
  exact(x b u e).stay (λc v _ q=>k c v q) (λc q=>by rw[ax (cK q hn)];exact q) (λc xs q=>by rw[ax (cK q hn)];exact q) λc ob u q=>by rw[ax (cK q hn)];exact q
end
noncomputable def Rd(H:Hp)(a:Addr)(u:HO):Prop:=H a=some u\/∃o,H a=some (.bY o u)
theorem Rd.ok{P:Program}{w:World}{H:Hp}{h:Heap}{a:Addr}{u:HO}(r:Rd H a u)(x:aU P w H h):aN P w H h a u:=by
 rcases r with r|⟨o,r⟩
 ·exact x a u r
 ·obtain⟨_,q⟩:=x a _ r
  exact q
noncomputable def lW:Option HO->Prop
 |some (.lst _)=>True
 |some (.dK _)=>True
 |some (.dT _)=>True
 |some (.set _ _)=>True
 |some (.ins _ _ _)=>True
 |some (.ext _)=>True
 |some (.lam _ _)=>True
 |_=>False
section
variable {P:Program} {w:World} {H:Hp} {h h':Heap} {x e:Addr} {o':HO}
theorem aU.write(ok:aU P w H h)(mu:lW (H x))(he:e=x\/H e=some (.own x))(k:∀b u,b≠e->h.get? b=some u->h'.get? b=some u)(heo:∃u,h'.get? e=some u)
  (new:aN P w (upd H x o') h' x o'):aU P w (upd H x o') h':=λb u q=>by
 have DT:∀c y,H c=some (.own y)->c≠x:=λc y r z=>by subst z;rw[r]at mu;exact mu
 have P7:∀c xs,H c=some (.tup xs)->c≠x:=λc xs r z=>by subst z;rw[r]at mu;exact mu
 have PK:∀c ob u,H c=some (.bY ob u)->c≠x:=λc ob u r z=>by subst z;rw[r]at mu;exact mu
 by_cases hb:b=x
 ·subst hb;rw[av]at q;cases q;exact new
 ·rw[ax hb]at q
  by_cases hbe:b=e
  ·have q':H b=some (.own x):=by
    rcases he with z|z
    ·exact absurd (hbe.trans z) hb
    ·rw[hbe];exact z
   rw[q]at q';cases q';obtain⟨v,hv⟩:=heo;exact⟨v,by rw[hbe];exact hv⟩
  ·refine(ok b u q).stay (λc v hc r=>k c v ?_ r) (λc r=>by rw[ax (DT c b r)];exact r) (λc xs r=>by rw[ax (P7 c xs r)];exact r) λc ob u r=>by rw[ax (PK c ob u r)];exact r
   rcases hc with rfl|hc
   ·exact hbe
   ·rintro rfl
    rcases he with z|z
    ·exact DT c b hc z
    ·rw[hc]at z;cases z;exact hb rfl
end
structure Un (fs ex:List Addr) (H H':Hp) (h h':Heap):Prop where
 keep:∀b o,h.get? b=some o->H b=none->b ∉ fs->b ∉ ex->h'.get? b=some o
 slot:∀b o,h.get? b=some o->H b=none->b∈fs->b ∉ ex->∃sl,h'.get? b=some {o with slots:=sl}
 free:∀b o,h.get? b=some o->H b=none->b ∉ ex->H' b=none
 there:∀b o,h.get? b=some o->b ∉ ex->∃o',h'.get? b=some o'
 tups:∀b xs,H b=some (.tup xs)->H' b=some (.tup xs)
 dM:∀b o u,H b=some (.bY o u)->H' b=some (.bY o u)
 eB:∀b ps,H b=some (.jb ps)->∃more,H' b=some (.jb (ps++more))
section
variable {fs fs' ex ex':List Addr} {H H1 H2:Hp} {h h1 h2 h':Heap} {a x e:Addr} {o:HO}
theorem Un.any(u:Un fs ex H H1 h h1){b:Addr}{ob:Obj}(q:h.get? b=some ob)(n:H b=none)(hx:b ∉ ex):∃sl,h1.get? b=some {ob with slots:=sl}:=by
 by_cases hb:b∈fs
 ·exact u.slot b ob q n hb hx
 ·exact⟨ob.slots,u.keep b ob q n hb hx⟩
theorem Un.kept(k:∀b u,h.get? b=some u->h'.get? b=some u):Un fs ex H H h h':=
 ⟨λb ob q _ _ _=>k b ob q,λb ob q _ _ _=>⟨ob.slots,k b ob q⟩,λ_ _ _ n _=>n,λb ob q _=>⟨ob,k b ob q⟩,λ_ _ q=>q,λ_ _ _ q=>q,λ_ ps q=>⟨#[],by rw[q];simp⟩⟩
theorem Un.refl:Un fs ex H H h h:=Un.kept λ_ _ q=>q
theorem Un.laid(k:∀b u,h.get? b=some u->h'.get? b=some u)(hp:h.objs.size<=a)(hn:H a=none):Un fs ex H (upd H a o) h h' where
 keep:=λb u q _ _ _=>k b u q
 slot:=λb u q _ _ _=>⟨u.slots,k b u q⟩
 free:=λb u q n _=>by rw[ax (aY (cz (aI q) hp))];exact n
 there:=λb u q _=>⟨u,k b u q⟩
 tups:=λb xs q=>by rw[ax (cK q hn)];exact q
 dM:=λb u xs q=>by rw[ax (cK q hn)];exact q
 eB:=λb ps q=>⟨#[],by rw[ax (cK q hn),q];simp⟩
theorem Un.write(mu:lW (H x))(he:e=x\/H e=some (.own x))(k:∀b u,b≠e->h.get? b=some u->h'.get? b=some u)(heo:∃u,h'.get? e=some u):Un fs ex H (upd H x o) h h':=by
 have hx:∀b,H b=none->b≠x:=λb n z=>by subst z;rw[n]at mu;exact mu
 have hb:∀b,H b=none->b≠e:=λb n z=>by
  subst z
  rcases he with r|r
  ·exact hx b n r
  ·rw[n]at r;cases r
 have hm:∀b u,H b=some u->¬ lW (some u)->b≠x:=λb u q nm z=>by subst z;rw[q]at mu;exact nm mu
 refine⟨λb u q n _ _=>k b u (hb b n) q,λb u q n _ _=>⟨u.slots,k b u (hb b n) q⟩,λb u q n _=>by rw[ax (hx b n)];exact n,λb u q _=>?_,
  λb xs q=>by rw[ax (hm b _ q λz=>z)];exact q,λb u xs q=>by rw[ax (hm b _ q λz=>z)];exact q,λb ps q=>⟨#[],by rw[ax (hm b _ q λz=>z),q];simp⟩⟩
 by_cases hbe:b=e
 ·subst hbe;exact heo
 ·exact⟨u,k b u hbe q⟩
end
noncomputable def sE(h:Heap)(H:Hp):List Addr:=(List.range h.objs.size).filter λa=>(H a).isSome
noncomputable def eh(h:Heap)(H:Hp):Heap:=W.hideAll h (sE h H)
theorem Bm(h:Heap)(H:Hp):(eh h H).objs.size=h.objs.size:=W.hideAll_size _ _
theorem vv{h:Heap}{H:Hp}{b:Addr}{o:Obj}(e:h.get? b=some o)(n:H b=none):(eh h H).get? b=some o:=
 W.hideAll_get _ e λhm=>by
  have q:(H b).isSome=true:=(fF.mp hm).2;rw[n]at q;simp at q
theorem wy{h:Heap}{H:Hp}{b:Addr}{o:Obj}(e:(eh h H).get? b=some o):h.get? b=some o/\H b=none:=by
 have e':h.get? b=some o:=W.of_hideAll (sE h H) e;refine⟨e',?_⟩;cases q:H b with
 |none=>rfl
 |some x =>
  have hm:b∈sE h H:=fF.mpr ⟨j9.mpr (aI e'),by simp[q]⟩;have z:(eh h H).get? b=none:=W.hideAll_none (sE h H) hm;rw[z]at e;cases e
noncomputable def Jd(g h:Heap)(L:Addr):List (Addr × Obj):=(List.range h.objs.size).filterMap λa=>if a=L\/(g.get? a).isSome=true then none else(h.get? a).map λo=>(a,o)
noncomputable def rest(g h:Heap)(L d:Addr):List (Addr × Obj):=(Jd g h L).filter λp=>decide (p.1≠d)
structure Mod (K:W.Frag) (mg:Str->Option Value) (base:Heap):Prop where
 ik:K.In base
 glob:base.Ns mainGlobals mg
 blt:∃mb,base.Ns builtinsNs mb/\∀x:Str,x ≠ "__name__" -> mb x=bootBuiltins x
 nolimit:base.NoLimit
structure Cx where
 prog:Program
 w:World
 K:W.Frag
 mg:Str->Option Value
 base:Heap
 A:Around
 N:List Str
 s₀:Shared
 H₀:Hp
 env:Env
 outer:List Env
 stack:List Env
 ex:List Addr
 fn:Str->Bool
 calm:Bool
 pn:List (Addr × Obj)
 xe:Value->Shared->Prop
noncomputable def frs(l:List Env):List Addr:=l.filterMap (·.frame)
abbrev Cx.fs (X:Cx):List Addr:=frs X.outer
noncomputable def pE(sc:Scope)(x:Str):Prop:=sc.names.lookup x=some .local\/sc.names.lookup x=some .cell\/sc.names.lookup x=some .free
noncomputable def Loc(sc:Scope)(x:Str):Prop:=sc.names.lookup x=some .local\/sc.names.lookup x=some .cell
noncomputable def Look(env:Env)(h:Heap)(m:Str->Option Value)(x:Str)(u:Value):Prop:=
 (env.kindOf x=some .local/\m x=some u)\/((env.kindOf x=some .cell\/env.kindOf x=some .free)/\∃c,env.cells.lookup x=some c/\h.IsCell c (some u))
structure Cx.Ok (X:Cx):Prop where
 mod:Mod X.K X.mg X.base
 kind:X.env.scope.kind = .function
 glob:X.env.globals=mainGlobals
 blt:X.env.builtins=builtinsNs
 above:X.s₀.heap.objs.size<=X.env.locals
 inj:∀x y c,X.env.cells.lookup x=some c->X.env.cells.lookup y=some c->x=y
 has:∀x,(X.env.kindOf x=some .cell\/X.env.kindOf x=some .free)->∃c,X.env.cells.lookup x=some c
 cab:∀x c,X.fn x=true->X.env.cells.lookup x=some c->X.s₀.heap.objs.size<=c
 hd:X.calm=true->X.A.handled=none
 frames:X.A.frames=some X.stack
 stk:X.stack=X.outer\/(X.stack=X.env::X.outer/\X.env.frame=some X.env.locals)
 jw:∀b∈X.ex,b≠X.env.locals/\∀x c,X.env.cells.lookup x=some c->c≠b
 bs:∀b o,X.base.get? b=some o->X.s₀.heap.get? b=some o/\X.H₀ b=none
 dB:X.base.objs.size<=X.s₀.heap.objs.size
 gE:∀b o,X.base.get? b=some o->b ∉ X.ex
 h_:∀b∈X.ex,b ∉ X.fs
 bZ:X.s₀.heap.FunFrames X.base X.outer
 eQ:∀b∈X.fs,X.H₀ b=none
structure Inv (X:Cx) (pins:List (Addr × Obj)) (σ:List (Option V)) (H:Hp) (s:Shared):Prop where
 ok:X.Ok
 os:s.os=X.s₀.os
 bare:AllBare s.gens
 base:Un X.fs X.ex X.H₀ H X.s₀.heap s.heap
 loc:∃m,s.heap.Ns X.env.locals m/\∀(i:Nat) (x:Str) (v:V),X.N[i]?=some x->σ[i]?=some (some v)->pE X.env.scope x->∃u,RelV v u/\Look X.env s.heap m x u
 cell:∀x c,X.env.cells.lookup x=some c->∃v,s.heap.IsCell c v
 free:H X.env.locals=none
 cJ:∀x c,X.env.cells.lookup x=some c->H c=none
 pin:∀p∈X.pn++pins,s.heap.get? p.1=some p.2/\H p.1=none/\p.1≠X.env.locals/\p.1 ∉ X.fs/\∀v,p.2.data≠.cell v
 hok:aU X.prog X.w H s.heap
 len:σ.length=X.N.length
section
variable {X:Cx} {pins:List (Addr × Obj)} {σ:List (Option V)} {H H':Hp} {s:Shared} {h':Heap}
theorem Cx.Ok.PQ(ok:X.Ok){b:Addr}{o:Obj}(e:X.base.get? b=some o):b ∉ X.fs:=λhb=>by
 have:=(ok.bZ.mem hb).1;rw[e]at this;cases this
theorem Inv.bs(I:Inv X pins σ H s):∀b o,X.base.get? b=some o->s.heap.get? b=some o/\H b=none:=λb o e =>
 ⟨I.base.keep b o (I.ok.bs b o e).1 (I.ok.bs b o e).2 (I.ok.PQ e) (I.ok.gE b o e),I.base.free b o (I.ok.bs b o e).1 (I.ok.bs b o e).2 (I.ok.gE b o e)⟩
theorem Inv.bk(I:Inv X pins σ H s):∀b o,X.base.get? b=some o->s.heap.get? b=some o:=λb o e=>(I.bs b o e).1
theorem Inv.mod(I:Inv X pins σ H s):Mod X.K X.mg X.base:=I.ok.mod
theorem Inv.bM(I:Inv X pins σ H s):X.K.In s.heap:=I.ok.mod.ik.keeps I.bk
theorem Inv.lt(I:Inv X pins σ H s):X.env.locals<s.heap.objs.size:=let⟨_,hn,_⟩:=I.loc;hn.lt
theorem Inv.sz(I:Inv X pins σ H s):X.s₀.heap.objs.size<=s.heap.objs.size:=cy I.ok.above (eJ I.lt)
theorem Inv.PX(I:Inv X pins σ H s){a:Addr}(h:s.heap.objs.size<=a):a ∉ X.fs:=λhb=>by
 obtain⟨_,o,ho,_⟩:=I.ok.bZ.mem hb;exact absurd (cz (aI ho) (cy I.sz h)) (dz _)
theorem Inv.fP(I:Inv X pins σ H s):∀x c,X.env.cells.lookup x=some c->c≠X.env.locals:=λx c e z=>by
 obtain⟨v,o,ho,hd⟩:=I.cell x c e;obtain⟨m,⟨o',es,ep,ho',hd',_⟩,_⟩:=I.loc;rw[z,ho']at ho;cases ho;rw[hd']at hd;cases hd
theorem Inv.bZ(I:Inv X pins σ H s):s.heap.FunFrames X.base X.outer:=by
 have all:∀(l:List Env),(∀b∈frs l,b∈X.fs)->X.s₀.heap.FunFrames X.base l->s.heap.FunFrames X.base l:=by
  intro l
  induction l with
  |nil=>intro _ _;trivial
  |cons env r ih =>
   intro hs hl;obtain⟨hk,⟨L,o,hf,hn,ho,hd⟩,hr⟩:=hl;have hL:L∈X.fs:=hs L (by unfold frs;rw[gN,hf];exact bO);obtain⟨sl,e⟩:=I.base.slot L o ho (I.ok.eQ L hL) hL λz=>I.ok.h_ L z hL;exact⟨hk,⟨L,_,hf,hn,e,hd⟩,ih (λb hb=>hs b (by unfold frs;rw[gN,hf];exact bI _ hb)) hr⟩
 exact all X.outer (λ_ hb=>hb) I.ok.bZ
theorem Inv.stack(I:Inv X pins σ H s):s.heap.FunFrames X.base X.stack:=by
 rcases I.ok.stk with e|⟨e,hf⟩
 ·rw[e];exact I.bZ
 ·rw[e]
  obtain⟨m,hn,_⟩:=I.loc;refine .cons (by rw[I.ok.kind];decide) hf hn ?_ I.bZ;exact Heap.get?_none_of_le (cy I.ok.dB I.ok.above)
theorem Inv.sr(I:Inv X pins σ H s):∀b∈frs X.stack,b∈X.env.locals::X.fs:=λb hb=>by
 rcases I.ok.stk with e|⟨e,hf⟩
 ·rw[e]at hb;exact bI _ hb
 ·rw[e]at hb
  unfold frs at hb;rw[gN,hf]at hb;exact hb
theorem Inv.jT(I:Inv X pins σ H s):∀b∈frs X.stack,H b=none:=λb hb=>by
 rcases aP.mp (I.sr b hb)with e|hb
 ·rw[e];exact I.free
 ·obtain⟨_,o,ho,_⟩:=I.ok.bZ.mem hb
  exact I.base.free b o ho (I.ok.eQ b hb) λz=>I.ok.h_ b z hb
theorem Inv.step{g':Array GenState}{t':Nat}{d':Drawn}{ch:List Addr}(I:Inv X pins σ H s)(hch:∀b∈ch,(b∈X.ex\/X.s₀.heap.objs.size<=b)/\b≠X.env.locals/\(∀x c,X.env.cells.lookup x=some c->c≠b)/\∀p∈X.pn++pins,p.1≠b)(keep:∀b o,b≠X.env.locals->b ∉ X.fs->b ∉ ch->s.heap.get? b=some o->H b=none->h'.get? b=some o)
  (slot:∀b o,b≠X.env.locals->b∈X.fs->b ∉ ch->s.heap.get? b=some o->H b=none->∃sl,h'.get? b=some {o with slots:=sl}) (free:∀b o,b ∉ ch->s.heap.get? b=some o->H b=none->H' b=none)
  (there:∀b o,b ∉ ch->s.heap.get? b=some o->∃o',h'.get? b=some o')
  (tups:∀b xs,H b=some (.tup xs)->H' b=some (.tup xs)) (dM:∀b o u,H b=some (.bY o u)->H' b=some (.bY o u)) (eB:∀b ps,H b=some (.jb ps)->∃more,H' b=some (.jb (ps++more)))
  (ns:∀m,s.heap.Ns X.env.locals m->h'.Ns X.env.locals m) (hok:aU X.prog X.w H' h') (hg:AllBare g') :
  Inv X pins σ H' {s with heap:=h',gens:=g',drawn:=d',toks:=t'}:=by
 have lj:∀b o,X.s₀.heap.get? b=some o->b≠X.env.locals:=λb o e=>aY (cz (aI e) I.ok.above);have qD:∀b o,X.s₀.heap.get? b=some o->b ∉ X.ex->b ∉ ch:=λb o e hx hb=>by
  rcases(hch b hb).1 with z|z
  ·exact hx z
  ·exact absurd (cz (aI e) z) (dz _)
 have cellK:∀x c,X.env.cells.lookup x=some c->∀v,s.heap.IsCell c v->h'.IsCell c v:=λx c e v ⟨o,ho,hd⟩=>by
  have eu:c ∉ ch:=λz=>(hch c z).2.2.1 x c e rfl
  by_cases hc:c∈X.fs
  ·obtain⟨sl,q⟩:=slot c o (I.fP x c e) hc eu ho (I.cJ x c e)
   exact⟨_,q,hd⟩
  ·exact⟨o,keep c o (I.fP x c e) hc eu ho (I.cJ x c e),hd⟩
 refine⟨I.ok,I.os,hg,⟨λb o e n hb hx=>?_,λb o e n hb hx=>?_,λb o e n hx=>?_,λb o e hx=>?_,λb xs e=>tups b xs (I.base.tups b xs e),λb o xs e=>dM b o xs (I.base.dM b o xs e),λb ps e=>?_⟩,?_,λx c e=>?_,?_,λx c e=>?_,λp hp=>?_,hok,I.len⟩
 ·exact keep b o (lj b o e) hb (qD b o e hx) (I.base.keep b o e n hb hx) (I.base.free b o e n hx)
 ·obtain⟨sl,e1⟩:=I.base.slot b o e n hb hx
  obtain⟨sl',e2⟩:=slot b _ (lj b o e) hb (qD b o e hx) e1 (I.base.free b o e n hx);exact⟨sl',e2⟩
 ·obtain⟨o',e1⟩:=I.base.there b o e hx
  exact free b o' (qD b o e hx) e1 (I.base.free b o e n hx)
 ·obtain⟨o',e1⟩:=I.base.there b o e hx
  exact there b o' (qD b o e hx) e1
 ·obtain⟨m1,e1⟩:=I.base.eB b ps e
  obtain⟨m2,e2⟩:=eB b _ e1;exact⟨m1++m2,by rw[e2,Array.append_assoc]⟩
 ·obtain⟨m,hn,hl⟩:=I.loc
  refine⟨m,ns m hn,λi x v e1 e2 e3=>?_⟩;obtain⟨u,r,l⟩:=hl i x v e1 e2 e3;refine⟨u,r,?_⟩
  rcases l with l|⟨k,c,e,z⟩
  ·exact .inl l
  ·exact .inr ⟨k,c,e,cellK x c e _ z⟩
 ·obtain⟨v,z⟩:=I.cell x c e
  exact⟨v,cellK x c e v z⟩
 ·obtain⟨m,⟨o,_,_,ho,_⟩,_⟩:=I.loc
  exact free _ o (λz=>(hch _ z).2.1 rfl) ho I.free
 ·obtain⟨v,o,ho,hd⟩:=I.cell x c e
  exact free c o (λz=>(hch c z).2.2.1 x c e rfl) ho (I.cJ x c e)
 ·obtain⟨e,n,ne,nf,d⟩:=I.pin p hp
  have eu:p.1 ∉ ch:=λz=>(hch p.1 z).2.2.2 p hp rfl;exact⟨keep p.1 p.2 ne nf eu e n,free p.1 p.2 eu e n,ne,nf,d⟩
theorem Inv.un{t':Nat}(I:Inv X pins σ H s)(u:Un X.fs [] H H' s.heap h')(hok:aU X.prog X.w H' h'):Inv X pins σ H' {s with heap:=h',toks:=t'}:=by
 obtain⟨m,⟨o,es,ep,ho,r⟩,_⟩:=id I.loc;obtain⟨sl,hL⟩:=u.any ho I.free (by simp);exact I.step (g':=s.gens) (d':=s.drawn) (ch:=[]) (λ_ z=>nomatch z) (λb o _ hb _ e n=>u.keep b o e n hb (by simp)) (λb o _ hb _ e n=>u.slot b o e n hb (by simp)) (λb o _ e n=>u.free b o e n (by simp)) (λb o _ e=>u.there b o e (by simp)) u.tups u.dM u.eB (λm' hm=>by
  obtain⟨o',es',ep',ho',r'⟩:=hm;rw[ho]at ho';cases ho';exact⟨_,es',ep',hL,r'⟩) hok I.bare
theorem Inv.call{g':Array GenState}{t':Nat}{d':Drawn}{ch:List Addr}(I:Inv X pins σ H s)(u:Un (frs X.stack) ch H H' s.heap h')(hok:aU X.prog X.w H' h')(hg:AllBare g')(hch:∀b∈ch,(b∈X.ex\/X.s₀.heap.objs.size<=b)/\b≠X.env.locals/\(∀x c,X.env.cells.lookup x=some c->c≠b)/\∀p∈X.pn++pins,p.1≠b):
  Inv X pins σ H' {s with heap:=h',gens:=g',drawn:=d',toks:=t'}:=by
 obtain⟨m,⟨o,es,ep,ho,r⟩,_⟩:=id I.loc;obtain⟨sl,hL⟩:=u.any ho I.free λz=>(hch _ z).2.1 rfl;exact I.step (ch:=ch) hch (λb o hL hb hc e n=>u.keep b o e n (λz=>(aP.mp (I.sr b z)).elim hL hb) hc) (λb o _ _ hc e n=>u.any e n hc) (λb o hc e n=>u.free b o e n hc) (λb o hc e=>u.there b o e hc) u.tups u.dM u.eB (λm' hm=>by
  obtain⟨o',es',ep',ho',r'⟩:=hm;rw[ho]at ho';cases ho';exact⟨_,es',ep',hL,r'⟩) hok hg
theorem Inv.turned{t':Nat}{it:Addr}(I:Inv X pins σ H s)(k:∀b o,b≠it->s.heap.get? b=some o->h'.get? b=some o)(hn:H it=none)(hL:it≠X.env.locals)
  (h1:it∈X.ex\/X.s₀.heap.objs.size<=it) (h2:∀x c,X.env.cells.lookup x=some c->c≠it) (h3:∀p∈X.pn++pins,p.1≠it):Inv X pins σ H {s with heap:=h',toks:=t'}:=by
 have DK:∀b u,H b=some u->b≠it:=λb u e z=>by rw[z,hn]at e;cases e
 refine I.step (g':=s.gens) (d':=s.drawn) (ch:=[it]) (λb hb=>?_) (λb o _ _ hc e _=>k b o (λz=>hc (by simp[z])) e) (λb o _ _ hc e _=>⟨o.slots,k b o (λz=>hc (by simp[z])) e⟩) (λ_ _ _ _ n=>n)
  (λb o hc e=>⟨o,k b o (λz=>hc (by simp[z])) e⟩) (λ_ _ e=>e) (λ_ _ _ e=>e) (λb ps e=>⟨#[],by rw[e];simp⟩) (λm hm=>?_) (λb u e=>?_) I.bare
 ·have e:b=it:=by simpa using hb
  subst e;exact⟨h1,hL,h2,h3⟩
 ·obtain⟨o,es,ep,ho,r⟩:=hm
  exact⟨o,es,ep,k _ o (bK hL) ho,r⟩
 ·refine(I.hok b u e).stay (λc v hc q=>k c v ?_ q) (λ_ q=>q) (λ_ _ q=>q) λ_ _ _ q=>q
  rcases hc with z|z
  ·rw[z];exact DK b u e
  ·exact DK c _ z
theorem Inv.tok(I:Inv X pins σ H s)(t:Nat):Inv X pins σ H {s with toks:=t}:=I.un (h':=s.heap) (t':=t) Un.refl I.hok
theorem Inv.kept{t':Nat}(I:Inv X pins σ H s)(k:∀b u,s.heap.get? b=some u->h'.get? b=some u):Inv X pins σ H {s with heap:=h',toks:=t'}:=I.un (Un.kept k) (I.hok.kept k)
theorem Inv.laid{a:Addr}{o:HO}{t':Nat}(I:Inv X pins σ H s)(k:∀b u,s.heap.get? b=some u->h'.get? b=some u)(hp:s.heap.objs.size<=a)(new:aN X.prog X.w (upd H a o) h' a o):
  Inv X pins σ (upd H a o) {s with heap:=h',toks:=t'}:=I.un (Un.laid k hp (I.hok.fresh hp)) (I.hok.laid k hp new)
theorem Inv.write{x e:Addr}{o:HO}{t':Nat}(I:Inv X pins σ H s)(mu:lW (H x))(he:e=x\/H e=some (.own x))(k:∀b u,b≠e->s.heap.get? b=some u->h'.get? b=some u)(heo:∃u,h'.get? e=some u)
  (new:aN X.prog X.w (upd H x o) h' x o):Inv X pins σ (upd H x o) {s with heap:=h',toks:=t'}:=I.un (Un.write mu he k heo) (I.hok.write mu he k heo new)
theorem Inv.weak{σ':List (Option V)}(I:Inv X pins σ H s)(hl:σ'.length=σ.length)(w:∀(i:Nat) v,σ'[i]?=some (some v)->σ[i]?=some (some v)):Inv X pins σ' H s:=
 ⟨I.ok,I.os,I.bare,I.base,let⟨m,hn,hl'⟩:=I.loc;⟨m,hn,λi x v e1 e2 e3=>hl' i x v e1 (w i v e2) e3⟩,I.cell,I.free,I.cJ,I.pin,I.hok,hl.trans I.len⟩
theorem Inv.qU{jO:List (Addr × Obj)}(I:Inv X pins σ H s)(h:∀p∈jO,s.heap.get? p.1=some p.2/\H p.1=none/\p.1≠X.env.locals/\p.1 ∉ X.fs/\∀v,p.2.data≠.cell v):Inv X jO σ H s:=
 ⟨I.ok,I.os,I.bare,I.base,I.loc,I.cell,I.free,I.cJ,λp hp=>(iJ.mp hp).elim (λz=>I.pin p (tL _ z)) (h p),I.hok,I.len⟩
theorem wm{N:List Str}(hN:N.Nodup){i j:Nat}{x:Str}(a:N[i]?=some x)(b:N[j]?=some x):i=j:=by
 obtain⟨h1,e1⟩:=cw.mp a;obtain⟨h2,e2⟩:=cw.mp b;exact(yy hN).mp (e1.trans e2.symm)
theorem xM{M:Model}{A:Around}{E:Value->Shared->Prop}{i:Nat}{x:Str}{v:V}{u:Value}{Q:Unit->Shared->Prop}(I:Inv X pins σ H s)(hN:X.N.Nodup)(hi:X.N[i]?=some x)(hx:Loc X.env.scope x)(r:RelV v u)(h:∀s',Inv X pins (σ.set i (some v)) H s'->(∃a,Heap.SameBut a s.heap s'.heap/\(a=X.env.locals\/X.env.cells.lookup x=some a))->Q () s')(hf:X.fn x=true\/X.env.scope.names.lookup x=some .local:=by first|exact .inl rfl|exact .inr rfl|assumption):wpAny M A (storeName X.env x u) Q E s:=by
 obtain⟨m,hn,hl⟩:=id I.loc;have hcls:(X.env.scope.kind==.class||(X.env.scope.kind==.module&&X.env.locals != X.env.globals))=false:=by rw[I.ok.kind];rfl
 have hiσ:i<σ.length:=by rw[I.len];exact(cw.mp hi).1
 have fP:=I.fP;have tracked:∀{a:Addr} {h':Heap},(∃o,s.heap.get? a=some o/\H a=none)->Heap.SameBut a s.heap h'->aU X.prog X.w H h':=λ{a h'} ha hs b ob e=>by
  obtain⟨_,_,hfree⟩:=ha;refine(I.hok b ob e).stay (λc w' hc q=>(hs.2 c ?_).trans q) (λ_ q=>q) (λ_ _ q=>q) λ_ _ _ q=>q;rintro rfl
  rcases hc with rfl|hc
  ·rw[hfree]at e;cases e
  ·rw[hfree]at hc;cases hc
 rcases hx with hk|hk
 ·refine wpAny_storeName_local hk hn (λh' hn' hs=>?_) hcls
  obtain⟨oL,_,_,hoL,_⟩:=id hn;refine h _ ⟨I.ok,I.os,I.bare,⟨λb o e n hb hx=>?_,λb o e n hb hx=>?_,I.base.free,λb o e hx=>?_,I.base.tups,I.base.dM,I.base.eB⟩,⟨_,hn',λj y v' e1 e2 e3=>?_⟩,λy c e=>?_,I.free,I.cJ,λp hp=>?_,tracked ⟨oL,hoL,I.free⟩ hs,by simpa using I.len⟩ ⟨_,hs,.inl rfl⟩
  ·exact(hs.2 b (aY (cz (aI e) I.ok.above))).trans (I.base.keep b o e n hb hx)
  ·obtain⟨sl,e1⟩:=I.base.slot b o e n hb hx
   exact⟨sl,(hs.2 b (aY (cz (aI e) I.ok.above))).trans e1⟩
  ·obtain⟨o',e1⟩:=I.base.there b o e hx
   exact⟨o',(hs.2 b (aY (cz (aI e) I.ok.above))).trans e1⟩
  ·by_cases hj:j=i
   ·subst hj
    rw[hi]at e1;cases e1;rw[tI hiσ]at e2;cases e2;exact⟨u,r,.inl ⟨hk,by simp⟩⟩
   ·rw[oU (bK hj)]at e2
    obtain⟨u',r',q⟩:=hl j y v' e1 e2 e3;refine⟨u',r',?_⟩
    rcases q with⟨k,e⟩|⟨k,c,e,z⟩
    ·refine .inl ⟨k,?_⟩
     have:y≠x:=λe=>hj (wm hN e1 (e▸hi));simp[this,e]
    ·exact .inr ⟨k,c,e,z.sameBut hs (fP y c e)⟩
  ·obtain⟨w',z⟩:=I.cell y c e
   exact⟨w',z.sameBut hs (fP y c e)⟩
  ·obtain⟨e,n,ne,nf,d⟩:=I.pin p hp
   exact⟨(hs.2 p.1 ne).trans e,n,ne,nf,d⟩
 ·have hfn:X.fn x=true:=by
   rcases hf with z|z
   ·exact z
   ·rw[z]at hk;cases hk
  obtain⟨c,hc⟩:=I.ok.has x (.inl hk);obtain⟨w',z⟩:=I.cell x c hc;refine wpAny_storeName_cell I.ok.kind hk hc z (λh' hc' hs=>?_);obtain⟨oc,hoc,M7⟩:=id z;refine h {s with heap:=h'} ⟨I.ok,I.os,I.bare,⟨λb o e n hb hx=>?_,λb o e n hb hx=>?_,I.base.free,λb o e hx=>?_,I.base.tups,I.base.dM,I.base.eB⟩,⟨m,hn.sameBut hs (bK (fP x c hc)),λj y v' e1 e2 e3=>?_⟩,λy c' e=>?_,I.free,I.cJ,λp hp=>?_,tracked ⟨oc,hoc,I.cJ x c hc⟩ hs,by simpa using I.len⟩ ⟨c,hs,.inr hc⟩
  ·exact(hs.2 b (aY (cz (aI e) (I.ok.cab x c hfn hc)))).trans (I.base.keep b o e n hb hx)
  ·obtain⟨sl,e1⟩:=I.base.slot b o e n hb hx
   exact⟨sl,(hs.2 b (aY (cz (aI e) (I.ok.cab x c hfn hc)))).trans e1⟩
  ·obtain⟨o',e1⟩:=I.base.there b o e hx
   exact⟨o',(hs.2 b (aY (cz (aI e) (I.ok.cab x c hfn hc)))).trans e1⟩
  ·by_cases hj:j=i
   ·subst hj
    rw[hi]at e1;cases e1;rw[tI hiσ]at e2;cases e2;exact⟨u,r,.inr ⟨.inl hk,c,hc,hc'⟩⟩
   ·rw[oU (bK hj)]at e2
    obtain⟨u',r',q⟩:=hl j y v' e1 e2 e3;refine⟨u',r',?_⟩
    rcases q with q|⟨k,c',e,z'⟩
    ·exact .inl q
    ·refine .inr ⟨k,c',e,z'.sameBut hs ?_⟩
     rintro rfl;exact hj (wm hN e1 (I.ok.inj _ _ _ e hc▸hi))
  ·by_cases hcc:c'=c
   ·subst hcc;exact⟨_,hc'⟩
   ·obtain⟨w2,z2⟩:=I.cell y c' e
    exact⟨w2,z2.sameBut hs hcc⟩
  ·obtain⟨e,n,ne,nf,d⟩:=I.pin p hp
   refine⟨(hs.2 p.1 ?_).trans e,n,ne,nf,d⟩;intro q;rw[q,hoc]at e;have q':oc=p.2:=d5 e;exact d w' (by rw[<- q'];exact M7)
theorem G7{M:Model}{A:Around}{E:Value->Shared->Prop}{i:Nat}{x:Str}{v:V}{u:Value}{Q:Unit->Shared->Prop}(I:Inv X pins σ H s)(hN:X.N.Nodup)(hi:X.N[i]?=some x)(hx:Loc X.env.scope x)(r:RelV v u)(h:∀s',Inv X pins (σ.set i (some v)) H s'->Q () s')(hf:X.fn x=true\/X.env.scope.names.lookup x=some .local:=by first|exact .inl rfl|exact .inr rfl|assumption):wpAny M A (storeName X.env x u) Q E s:=
 xM I hN hi hx r (λs' I' _=>h s' I') hf
theorem Inv.call'{s':Shared}{ch:List Addr}(I:Inv X pins σ H s)(ho:s'.os=s.os)(u:Un (frs X.stack) ch H H' s.heap s'.heap)(hok:aU X.prog X.w H' s'.heap)(hg:AllBare s'.gens)(hch:∀b∈ch,(b∈X.ex\/X.s₀.heap.objs.size<=b)/\b≠X.env.locals/\(∀x c,X.env.cells.lookup x=some c->c≠b)/\∀p∈X.pn++pins,p.1≠b):Inv X pins σ H' s':=by
 obtain⟨h',g',d',t',o'⟩:=s';have e:o'=s.os:=ho;subst e;exact I.call (g':=g') (t':=t') (d':=d') u hok hg hch
end
abbrev XK:=Value->Option Addr->Hp->Prop
abbrev St:=List (Option V)
abbrev VK:=V->Hp->Prop
abbrev TE:=St->Hp->VK->Prop
abbrev TT:=St->Hp->(Bool->Hp->Prop)->Prop
abbrev TA:=St->Hp->(List V->Hp->Prop)->Prop
structure Ends where
 nx:St->Hp->Prop
 rt:VK
 bk:St->Hp->Prop:=λ_ _=>False
 ct:St->Hp->Prop:=λ_ _=>False
abbrev TS:=Ends->St->Hp->Prop
noncomputable def EP(X:Cx)(pins:List (Addr × Obj))(σ:St)(Q:VK)(u:Value)(s':Shared):Prop:=∃v H',Inv X pins σ H' s'/\RelV v u/\Q v H'
noncomputable def TP(X:Cx)(pins:List (Addr × Obj))(σ:St)(Q:Bool->Hp->Prop)(b:Bool)(s':Shared):Prop:=∃H',Inv X pins σ H' s'/\Q b H'
noncomputable def AP(X:Cx)(pins:List (Addr × Obj))(σ:St)(Q:List V->Hp->Prop)(us:List Value)(s':Shared):Prop:=∃vs H',Inv X pins σ H' s'/\Vals vs us/\Q vs H'
noncomputable def SP(X:Cx)(pins:List (Addr × Obj))(D:Ends)(f:Flow)(s':Shared):Prop:=
 match f with
 |.next=>∃σ' H',Inv X pins σ' H' s'/\D.nx σ' H'
 |.brk=>∃σ' H',Inv X pins σ' H' s'/\D.bk σ' H'
 |.cont=>∃σ' H',Inv X pins σ' H' s'/\D.ct σ' H'
 |.ret u=>∃v σ' H',Inv X pins σ' H' s'/\RelV v u/\D.rt v H'
noncomputable def PE(X:Cx)(e:Expr)(t:TE):Prop:=
 ∀(pins:List (Addr × Obj)) (s:Shared) (σ:St) (H:Hp) (Q:VK),Inv X pins σ H s->t σ H Q->wpAny (model X.prog X.w) X.A (eval e X.env) (EP X pins σ Q) X.xe s
noncomputable def PT(X:Cx)(e:Expr)(t:TT):Prop:=
 ∀(pins:List (Addr × Obj)) (s:Shared) (σ:St) (H:Hp) (Q:Bool->Hp->Prop),Inv X pins σ H s->t σ H Q->wpAny (model X.prog X.w) X.A (isTrue e X.env (eval e X.env)) (TP X pins σ Q) X.xe s
noncomputable def PW(X:Cx)(e:Expr)(t:TT):Prop:=
 ∀(whole:Sem Value) (pins:List (Addr × Obj)) (s:Shared) (σ:St) (H:Hp) (Q:Bool->Hp->Prop),Inv X pins σ H s->t σ H Q->wpAny (model X.prog X.w) X.A (isTrue e X.env whole) (TP X pins σ Q) X.xe s
theorem PW.pt{X:Cx}{e:Expr}{t:TT}(h:PW X e t):PT X e t:=h _
noncomputable def PA(X:Cx)(es:List Expr)(t:TA):Prop:=
 ∀(pos:Pos) (pins:List (Addr × Obj)) (s:Shared) (σ:St) (H:Hp) (Q:List V->Hp->Prop),Inv X pins σ H s->t σ H Q->wpAny (model X.prog X.w) X.A (spliced (backTo pos (starEach es X.env))) (AP X pins σ Q) X.xe s
noncomputable def PS(X:Cx)(st:Stmt)(t:TS):Prop:=
 ∀(pins:List (Addr × Obj)) (s:Shared) (σ:St) (H:Hp) (D:Ends),Inv X pins σ H s->t D σ H->wpAny (model X.prog X.w) X.A (exec st X.env) (SP X pins D) X.xe s
noncomputable def cB(X:Cx)(st:List Stmt)(t:TS):Prop:=
 ∀(pins:List (Addr × Obj)) (s:Shared) (σ:St) (H:Hp) (D:Ends),Inv X pins σ H s->t D σ H->wpAny (model X.prog X.w) X.A (execs st X.env) (SP X pins D) X.xe s
theorem au{α:Type}{t:Sem α}{Q Q':α->Shared->Prop}{M:Model}{A:Around}{E:Value->Shared->Prop}{s:Shared}(h:wpAny M A t Q E s)(hQ:∀a s,Q a s->Q' a s):wpAny M A t Q' E s:=dg h hQ λ_ _ x=>x
section
variable {X:Cx}
noncomputable def xQ(i:Nat):TE:=λσ H Q=>∃v,σ[i]?=some (some v)/\Q v H
noncomputable def tC(v:V):TE:=λ_ H Q=>Q v H
theorem QW {i:Nat} {x:Str} {pos:Pos} (hN:X.N[i]?=some x) (hv:pE X.env.scope x) (hd:(x==("__debug__" : Str))=false:=by decide) (hcd:(x==("__classdict__" : Str))=false:=by decide):PE X (.Name x pos) (xQ i):=by
 intro pins s σ H Q I h;obtain⟨v,e,h⟩:=h;obtain⟨m,hn,hl⟩:=I.loc;obtain⟨u,r,l⟩:=hl i x v hN e hv;have fin:EP X pins σ Q u s:=⟨v,H,I,r,h⟩
 rcases l with⟨hk,hm⟩|⟨hk,c,hc,hcell⟩
 ·exact wpAny_Name (wpAny_loadName_local I.ok.kind hk hn hm fin) hd
 ·rcases hk with hk|hk
  ·exact wpAny_Name (wpAny_loadName_cell I.ok.kind hk hc hcell fin) hd
  ·exact wpAny_Name (wpAny_loadName_free I.ok.kind hk hc hcell fin hcd) hd
theorem ak{i j pos}:PE X (.Constant (.int i) j pos) (tC (.int i)):=λ_ _ _ H _ I h=>wpAny_Constant_int ⟨.int i,H,I.tok _,⟨_,rfl⟩,h⟩
theorem jN{b j pos}:PE X (.Constant (.bool b) j pos) (tC (.bl b)):=λ_ _ _ H _ I h=>Constant_bool ⟨.bl b,H,I,rfl,h⟩
theorem qP{j pos}:PE X (.Constant .none j pos) (tC .non):=λ_ _ _ H _ I h=>Constant_none ⟨.non,H,I,rfl,h⟩
theorem gF{x j pos}:PE X (.Constant (.str x) j pos) (tC (.str x)):=λ_ _ _ H _ I h=>Calls.Constant_str ⟨.str x,H,I.tok _,⟨_,rfl⟩,h⟩
noncomputable def Gl(X:Cx)(x:Str):Prop:=X.env.kindOf x=some .globalImplicit
theorem jG{E:Value->Shared->Prop}{pins:List (Addr × Obj)}{s:Shared}{σ:St}{H:Hp}{x:Str}{u:Value}{pos:Pos}{Q:Value->Shared->Prop}(I:Inv X pins σ H s)(hg:Gl X x)(hm:X.mg x=some u)(h:Q u s)
  (hd:(x==("__debug__" : Str))=false:=by decide):wpAny (model X.prog X.w) X.A (eval (.Name x pos) X.env) Q E s:=
 Calls.Name_function_global I.ok.kind hg (Calls.loadGlobal_global (by rw[I.ok.glob];exact I.mod.glob.keeps I.bk) hm h) hd
theorem il{E:Value->Shared->Prop}{pins:List (Addr × Obj)}{s:Shared}{σ:St}{H:Hp}{x:Str}{u:Value}{pos:Pos}{Q:Value->Shared->Prop}(I:Inv X pins σ H s)(hg:Gl X x)(hm:X.mg x=none)(hv:bootBuiltins x=some u)(h:Q u s)
  (hn:x ≠ "__name__" :=by decide) (hd:(x==("__debug__" : Str))=false:=by decide):wpAny (model X.prog X.w) X.A (eval (.Name x pos) X.env) Q E s:=by
 obtain⟨mb,h1,h2⟩:=I.mod.blt;exact Calls.Name_function_global I.ok.kind hg (Calls.loadGlobal_builtin (by rw[I.ok.glob];exact I.mod.glob.keeps I.bk) hm (by rw[I.ok.blt];exact h1.keeps I.bk) ((h2 x hn).trans hv) h) hd
theorem cF {x:Str} {v:V} {u:Value} {pos:Pos} (hg:Gl X x) (hm:X.mg x=some u) (r:RelV v u) (hd:(x==("__debug__" : Str))=false:=by decide):PE X (.Name x pos) (tC v):=
 λ_ _ _ H _ I h=>jG I hg hm ⟨v,H,I,r,h⟩ hd
theorem wN {x:Str} {v:V} {u:Value} {pos:Pos} (hg:Gl X x) (hm:X.mg x=none) (hv:bootBuiltins x=some u) (r:RelV v u) (hn:x ≠ "__name__" :=by decide) (hd:(x==("__debug__" : Str))=false:=by decide):PE X (.Name x pos) (tC v):=
 λ_ _ _ H _ I h=>il I hg hm hv ⟨v,H,I,r,h⟩ hn hd
variable {a b:Expr} {ta tb:TE} {pos:Pos}
noncomputable def tB(t:TE):TT:=λσ H Q=>t σ H λx H1=>∃c,x = .bl c/\Q c H1
theorem fA{e:Expr}{t:TE}(h:PE X e t)(he:∀whole,isTrue e X.env whole=(do let v <- whole;standAt e.pos;holding [v] (truthy v)):=by intro _;rfl):PT X e (tB t):=by
 intro pins s σ H Q I hw;refine isTrue_plain (au (h pins s σ H _ I hw) λv s1 ⟨x,H1,I1,r1,q1⟩=>?_) (he _);obtain⟨d,rfl,q⟩:=q1;cases r1;exact gu ⟨H1,I1,q⟩
variable {tA sv:TT} {rest:List Expr}
noncomputable def TB(t u:TT):TT:=λσ H Q=>t σ H λc H1=>if c=true then u σ H1 Q else Q false H1
noncomputable def T8(t u:TT):TT:=λσ H Q=>t σ H λc H1=>if c=true then Q true H1 else u σ H1 Q
noncomputable def T6(t:TT):TT:=λσ H Q=>t σ H λc H1=>Q (!c) H1
theorem qY(ha:PT X a tA):PW X (.BoolOp .And [a] pos) tA:=by
 intro wh pins s σ H Q I h;refine isTrue_and (au (ha pins s σ H Q I h) λc s1 e=>?_);cases c with
 |true=>exact isTrue_and_nil e
 |false=>exact e
theorem jP(ha:PT X a tA):PW X (.BoolOp .Or [a] pos) tA:=by
 intro wh pins s σ H Q I h;refine isTrue_or (au (ha pins s σ H Q I h) λc s1 e=>?_);cases c with
 |false=>exact isTrue_or_nil e
 |true=>exact e
theorem qX(ha:PT X a tA)(hb:PW X (.BoolOp .And (b::rest) pos) sv):PW X (.BoolOp .And (a::b::rest) pos) (TB tA sv):=by
 intro wh pins s σ H Q I h;refine isTrue_and (au (ha pins s σ H _ I h) λc s1 ⟨H1,I1,q1⟩=>?_);cases c with
 |true=>exact hb wh pins s1 σ H1 Q I1 q1
 |false=>exact⟨H1,I1,q1⟩
theorem iZ(ha:PT X a tA)(hb:PW X (.BoolOp .Or (b::rest) pos) sv):PW X (.BoolOp .Or (a::b::rest) pos) (T8 tA sv):=by
 intro wh pins s σ H Q I h;refine isTrue_or (au (ha pins s σ H _ I h) λc s1 ⟨H1,I1,q1⟩=>?_);cases c with
 |true=>exact⟨H1,I1,q1⟩
 |false=>exact hb wh pins s1 σ H1 Q I1 q1
theorem iz(ha:PT X a tA):PT X (.UnaryOp .Not a pos) (T6 tA):=by
 intro pins s σ H Q I h;exact isTrue_not (ha pins s σ H (λc H1=>Q (!c) H1) I h)
noncomputable def TF(ta tb:TE):TE:=λσ H Q=>ta σ H λx H1=>∃c,x = .bl c/\if c=true then tb σ H1 Q else Q (.bl false) H1
noncomputable def T9(ta tb:TE):TE:=λσ H Q=>ta σ H λx H1=>∃c,x = .bl c/\if c=true then Q (.bl true) H1 else tb σ H1 Q
noncomputable def T7(ta:TE):TE:=λσ H Q=>ta σ H λx H1=>∃c,x = .bl c/\Q (.bl (!c)) H1
theorem qQ{op}{t:TE}(h:PE X a t):PE X (.BoolOp op [a] pos) t:=λpins s σ H Q I hw=>BoolOp_one (h pins s σ H Q I hw)
theorem wM(ha:PE X a ta)(hb:PE X (.BoolOp .And (b::rest) pos) tb):PE X (.BoolOp .And (a::b::rest) pos) (TF ta tb):=by
 intro pins s σ H Q I h;refine BoolOp_and (au (ha pins s σ H _ I h) λv s1 ⟨x,H1,I1,r1,q1⟩=>?_);obtain⟨c,rfl,q1⟩:=q1;cases r1;refine gu ?_;cases c with
 |true=>exact hb pins s1 σ H1 Q I1 q1
 |false=>exact⟨.bl false,H1,I1,rfl,q1⟩
theorem QT(ha:PE X a ta)(hb:PE X (.BoolOp .Or (b::rest) pos) tb):PE X (.BoolOp .Or (a::b::rest) pos) (T9 ta tb):=by
 intro pins s σ H Q I h;refine BoolOp_or (au (ha pins s σ H _ I h) λv s1 ⟨x,H1,I1,r1,q1⟩=>?_);obtain⟨c,rfl,q1⟩:=q1;cases r1;refine gu ?_;cases c with
 |false=>exact hb pins s1 σ H1 Q I1 q1
 |true=>exact⟨.bl true,H1,I1,rfl,q1⟩
theorem QS(ha:PE X a ta):PE X (.UnaryOp .Not a pos) (T7 ta):=by
 intro pins s σ H Q I h;refine UnaryOp_ (au (ha pins s σ H _ I h) λv s1 ⟨x,H1,I1,r1,q1⟩=>?_);obtain⟨c,rfl,q1⟩:=q1;cases r1;exact not_of (gu ⟨.bl (!c),H1,I1,rfl,q1⟩)
end
noncomputable def ao(K:W.Frag)(H:Hp)(a:Addr)(xs:List V):Prop:=
 Rd H a (.lst xs) \/
  ∃(o:Obj) (its:Array Value) (n:Nat),K.lookup a=some o/\o.cls = .type "list" /\ o.dict=none/\o.data = .seq its n/\its.size<=sizeLine/\Vals xs its.toList
noncomputable def aJ(K:W.Frag)(H:Hp)(a:Addr)(xs:List V):Prop:=
 Rd H a (.tup xs) \/
  ∃(o:Obj) (its:Array Value) (n:Nat),K.lookup a=some o/\o.cls = .type "tuple" /\ o.data = .seq its n/\its.size<=sizeLine/\Vals xs its.toList
noncomputable def Jc:Value->Option V
 |.none=>some .non
 |.bool b=>some (.bl b)
 |.int i _=>some (.int i)
 |.str x _=>some (.str x)
 |.bytes b _=>some (.fO b)
 |.float b _=>some (.flt b)
 |.ref a=>some (.ref a)
 |.type n=>some (.ty n)
 |_=>none
theorem RelV.abs{x:V}{u:Value}(r:RelV x u):Jc u=some x:=by
 cases x with
 |non=>cases r;rfl
 |bl _=>cases r;rfl
 |int _=>obtain⟨t,rfl⟩:=r;rfl
 |str _=>obtain⟨t,rfl⟩:=r;rfl
 |fO _=>obtain⟨t,rfl⟩:=r;rfl
 |flt _=>obtain⟨t,rfl⟩:=r;rfl
 |ref _=>cases r;rfl
 |ty _=>cases r;rfl
theorem RelV.inj{x y:V}{u:Value}(r:RelV x u)(q:RelV y u):x=y:=d5 (r.abs.symm.trans q.abs)
theorem Vals.inj:∀{xs ys:List V} {us:List Value},Vals xs us->Vals ys us->xs=ys
 |_,_,_,.nil,.nil=>rfl
 |_,_,_,.cons r t,.cons r' t'=>by rw[r.inj r',Vals.inj t t']
section
variable {X:Cx} {pins:List (Addr × Obj)} {σ:St} {H:Hp} {s:Shared} {a:Addr} {xs ys:List V}
theorem ao.of{K:W.Frag}(h:H a=some (.lst xs)):ao K H a xs:=.inl (.inl h)
theorem aJ.of{K:W.Frag}(h:H a=some (.tup xs)):aJ K H a xs:=.inl (.inl h)
theorem Inv.list(I:Inv X pins σ H s)(h:ao X.K H a xs):∃its:List Value,Vals xs its/\PlainL s.heap a its.toArray/\xs.length<=sizeLine:=by
 rcases h with h|⟨o,its,n,hk,hc,hd,hs,hz,r⟩
 ·obtain⟨z,its,n,r,e⟩:=h.ok I.hok
  exact⟨its,r,⟨_,n,e,rfl,rfl,rfl⟩,z⟩
 ·refine⟨its.toList,r,⟨o,n,I.bM a o hk,hc,hd,by simpa using hs⟩,?_⟩
  have e:=r.length;simp only[fC]at e;omega
theorem Inv.tuple(I:Inv X pins σ H s)(h:aJ X.K H a xs):∃its:List Value,Vals xs its/\IsTup s.heap a its.toArray/\xs.length<=sizeLine:=by
 rcases h with h|⟨o,its,n,hk,hc,hs,hz,r⟩
 ·obtain⟨z,its,r,p,_⟩:=h.ok I.hok
  exact⟨its,r,p,z⟩
 ·refine⟨its.toList,r,⟨o,I.bM a o hk,hc,n,by simpa using hs⟩,?_⟩
  have e:=r.length;simp only[fC]at e;omega
theorem Inv.vV(I:Inv X pins σ H s)(h:ao X.K H a xs)(h':ao X.K H a ys):xs=ys:=by
 obtain⟨its,r,⟨o,n,e,_,_,d⟩,_⟩:=I.list h;obtain⟨its',r',⟨o',n',e',_,_,d'⟩,_⟩:=I.list h';rw[e]at e';cases e';rw[d]at d';injection d' with d1 _
 have:its=its':=by simpa using congrArg Array.toList d1
 subst this;exact r.inj r'
theorem Inv.Hm(I:Inv X pins σ H s)(h:aJ X.K H a xs)(h':aJ X.K H a ys):xs=ys:=by
 obtain⟨its,r,⟨o,e,_,n,d⟩,_⟩:=I.tuple h;obtain⟨its',r',⟨o',e',_,n',d'⟩,_⟩:=I.tuple h';rw[e]at e';cases e';rw[d]at d';injection d' with d1 _
 have:its=its':=by simpa using congrArg Array.toList d1
 subst this;exact r.inj r'
end
abbrev Cx.wish (X:Cx) (E:Value->Shared->Prop):Cx:={X with xe:=E}
abbrev Cx.nU (X:Cx):Cx:=X.wish λ_ _=>False
theorem Cx.Ok.wish{X:Cx}(ok:X.Ok)(E:Value->Shared->Prop):(X.wish E).Ok:=
 ⟨ok.mod,ok.kind,ok.glob,ok.blt,ok.above,ok.inj,ok.has,ok.cab,ok.hd,ok.frames,ok.stk,ok.jw,ok.bs,ok.dB,ok.gE,ok.h_,ok.bZ,ok.eQ⟩
theorem Cx.Ok.dZ{X:Cx}{E:Value->Shared->Prop}(ok:(X.wish E).Ok):X.Ok:=
 ⟨ok.mod,ok.kind,ok.glob,ok.blt,ok.above,ok.inj,ok.has,ok.cab,ok.hd,ok.frames,ok.stk,ok.jw,ok.bs,ok.dB,ok.gE,ok.h_,ok.bZ,ok.eQ⟩
section
variable {X:Cx} {pins:List (Addr × Obj)} {σ:St} {H:Hp} {s:Shared} {E:Value->Shared->Prop}
theorem Inv.wish(I:Inv X pins σ H s)(E:Value->Shared->Prop):Inv (X.wish E) pins σ H s:=⟨I.ok.wish E,I.os,I.bare,I.base,I.loc,I.cell,I.free,I.cJ,I.pin,I.hok,I.len⟩
theorem Inv.dZ(I:Inv (X.wish E) pins σ H s):Inv X pins σ H s:=⟨I.ok.dZ,I.os,I.bare,I.base,I.loc,I.cell,I.free,I.cJ,I.pin,I.hok,I.len⟩
theorem SP.dZ{D:Ends}{f:Flow}{s':Shared}(h:SP (X.wish E) pins D f s'):SP X pins D f s':=by
 cases f with
 |next=>obtain⟨σ',H',I,q⟩:=h;exact⟨σ',H',I.dZ,q⟩
 |brk=>obtain⟨σ',H',I,q⟩:=h;exact⟨σ',H',I.dZ,q⟩
 |cont=>obtain⟨σ',H',I,q⟩:=h;exact⟨σ',H',I.dZ,q⟩
 |ret u=>obtain⟨v,σ',H',I,r,q⟩:=h;exact⟨v,σ',H',I.dZ,r,q⟩
theorem cB.nU{st:List Stmt}{t:TS}(h:cB X.nU st t):cB X st t:=λpins s σ H D I hw =>
 dg (h pins s σ H D (I.wish _) hw) (λ_ _ q=>q.dZ) λ_ _ z=>False.elim z
end
section
variable {X:Cx} {st:Stmt} {rest:List Stmt} {t u:TS} {e:Expr} {te:TE} {pos:Pos}
noncomputable def Hg:TS:=λD σ H=>D.nx σ H
noncomputable def cU(t u:TS):TS:=λD σ H=>t {D with nx:=u D} σ H
theorem c7:cB X [] Hg:=λ_ _ σ H _ I h=>pk ⟨σ,H,I,h⟩
theorem aF(h1:PS X st t)(h2:cB X rest u):cB X (st::rest) (cU t u):=by
 intro pins s σ H D I h;refine wpAny_execs_cons (au (h1 pins s σ H {D with nx:=u D} I h) λf s1 q=>?_);cases f with
 |next =>
  obtain⟨σ',H',I',q⟩:=q;exact h2 pins s1 σ' H' D I' q
 |ret v=>exact q
 |brk=>exact q
 |cont=>exact q
theorem aA(h1:PS X st t):cB X [st] t:=by
 intro pins s σ H D I h;refine wpAny_execs_cons (au (h1 pins s σ H D I h) λf s1 q=>?_);cases f with
 |next=>exact pk q
 |ret v=>exact q
 |brk=>exact q
 |cont=>exact q
theorem Inv.quiet{pins:List (Addr × Obj)}{σ:St}{H:Hp}{s:Shared}(I:Inv X pins σ H s):interactive X.env=false:=by simp[interactive,I.ok.kind]
noncomputable def Hd(te:TE):TS:=λD σ H=>te σ H λ_ H1=>D.nx σ H1
theorem dU(he:PE X e te)(hs:swapsWith e none pos.line X.env=pure false:=by rfl):PS X (.Expr e pos) (Hd te):=by
 intro pins s σ H D I h;exact wpAny_Expr_any (au (he pins s σ H _ I h) λv s1 ⟨x,H1,I1,r1,q1⟩=>⟨σ,H1,I1,q1⟩) I.quiet hs
noncomputable def Ug(te:TE):TS:=λD σ H=>te σ H D.rt
theorem bC(he:PE X e te):PS X (.Return (some e) pos) (Ug te):=by
 intro pins s σ H D I h;exact wpAny_Return_some (au (he pins s σ H _ I h) λv s1 ⟨x,H1,I1,r1,q1⟩=>⟨x,σ,H1,I1,r1,q1⟩)
noncomputable def He(c:TT)(t u:TS):TS:=λD σ H=>c σ H λb H1=>if b=true then t D σ H1 else u D σ H1
theorem cp{c:Expr}{a b:List Stmt}{tc:TT}(hc:PT X c tc)(ha:cB X a t)(hb:cB X b u):PS X (.If c a b pos) (He tc t u):=by
 intro pins s σ H D I h;refine wpAny_If (au (hc pins s σ H _ I h) λd s1 ⟨H1,I1,q1⟩=>?_);cases d with
 |true=>exact ha pins s1 σ H1 D I1 q1
 |false=>exact hb pins s1 σ H1 D I1 q1
noncomputable def T3:TS:=λ_ _ _=>False
theorem qV:PS X st T3:=λ_ _ _ _ _ _ h=>h.elim
end
abbrev TG:=V->St->Hp->(St->Hp->Prop)->Prop
abbrev iO:=List V->St->Hp->(St->Hp->Prop)->Prop
noncomputable def PG(X:Cx)(target:Expr)(t:TG):Prop:=
 ∀(pins:List (Addr × Obj)) (s:Shared) (σ:St) (H:Hp) (v:V) (u:Value) (Q:St->Hp->Prop),Inv X pins σ H s->RelV v u->t v σ H Q ->
  wpAny (model X.prog X.w) X.A (assign target X.env u) (λ_ s'=>∃σ' H',Inv X pins σ' H' s'/\Q σ' H') X.xe s
noncomputable def ml(X:Cx)(ts:List Expr)(t:iO):Prop:=
 ∀(pins:List (Addr × Obj)) (s:Shared) (σ:St) (H:Hp) (vs:List V) (us:List Value) (Q:St->Hp->Prop),Inv X pins σ H s->Vals vs us->t vs σ H Q ->
  wpAny (model X.prog X.w) X.A (assignInOrder ((assignEach ts X.env).map (·.2)) us) (λ_ s'=>∃σ' H',Inv X pins σ' H' s'/\Q σ' H') X.xe s
abbrev uj:=V->V->V->Hp->(Hp->Prop)->Prop
noncomputable def yR(X:Cx)(t:uj):Prop:=
 ∀(pins:List (Addr × Obj)) (s:Shared) (σ:St) (H:Hp) (o i v:V) (ov iv u:Value) (Q:Hp->Prop),Inv X pins σ H s->RelV o ov->RelV i iv->RelV v u->t o i v H Q ->
  wpAny (model X.prog X.w) X.A (setItem ov iv u) (λ_ s'=>∃H',Inv X pins σ H' s'/\Q H') X.xe s
section
variable {X:Cx} {pos:Pos}
noncomputable def bq(i:Nat):TG:=λv σ H Q=>Q (σ.set i (some v)) H
theorem bx{i:Nat}{x:Str}(hN:X.N.Nodup)(hi:X.N[i]?=some x)(hx:Loc X.env.scope x)(hf:X.fn x=true\/X.env.scope.names.lookup x=some .local:=by first|exact .inl rfl|exact .inr rfl|assumption):PG X (.Name x pos) (bq i):=by
 intro pins s σ H v u Q I r h;exact wpAny_assign_Name (G7 I hN hi hx r (λs' I'=>⟨_,H,I',h⟩) hf)
noncomputable def qe:iO:=λvs σ H Q=>vs = []/\Q σ H
noncomputable def jA(t:TG)(u:iO):iO:=λvs σ H Q=>∃v r,vs=v::r/\t v σ H λσ' H'=>u r σ' H' Q
theorem Fi:ml X [] qe:=by
 intro pins s σ H vs us Q I r h;obtain⟨e,h⟩:=h;subst e;cases r;exact assignInOrder_nil ⟨σ,H,I,h⟩
theorem qS{e:Expr}{es:List Expr}{t:TG}{u:iO}(h1:PG X e t)(h2:ml X es u)(hs:(assignEach (e::es) X.env).map (·.2)=assign e X.env::(assignEach es X.env).map (·.2):=by rfl):ml X (e::es) (jA t u):=by
 intro pins s σ H vs us Q I r h;obtain⟨v,vr,e1,h⟩:=h;subst e1;cases r with
 |cons r rr =>
  rw[hs];refine assignInOrder_cons (au (h1 pins s σ H _ _ _ I r h) λ_ s1 ⟨σ1,H1,I1,q1⟩=>?_);exact h2 pins s1 σ1 H1 _ _ Q I1 rr q1
noncomputable def m_(K:W.Frag)(n:Nat)(t:iO):TG:=λv σ H Q=>∃a xs,v = .ref a/\aJ K H a xs/\xs.length=n/\t xs σ H Q
theorem Fh{es:List Expr}{k:Nat}{t:iO}{n:Nat}(hc:X.calm=true)(h:ml X es t)(hn:(assignEach es X.env).length=n:=by rfl)(hst:(assignEach es X.env).findIdx? (·.1)=none:=by rfl):PG X (.Tuple es k pos) (m_ X.K n t):=by
 intro pins s σ H v u Q I r hw;obtain⟨a,xs,e1,hq,hl,hw⟩:=hw;subst e1;cases r;obtain⟨its,rv,ht,hz⟩:=I.tuple hq;refine assign_Tuple_tuple (I.ok.hd hc) ht (by simp[hn,<- hl,rv.length]) hst λh' hx=>?_;have I1:Inv X pins σ H {s with heap:=h'}:=I.kept (t':=s.toks) λb o e=>hx b o (aY (aI e)) e;exact h pins _ σ H xs _ Q I1 (by simpa using rv) hw
noncomputable def K9(to ti:TE)(t:uj):TG:=λv σ H Q=>to σ H λo H1=>ti σ H1 λi H2=>t o i v H2 λH3=>Q σ H3
theorem Fg{o i:Expr}{to ti:TE}{t:uj}(ho:PE X o to)(hi:PE X i ti)(hs:yR X t)
  (ha:∀v,assign (.Subscript o i pos) X.env v=(do
   let ov <- holding [v] (eval o X.env)
   let iv <- holding [v,ov] (eval i X.env)
   standAt pos
   holding [v,ov,iv] (setItem ov iv v)
   release [v,ov,iv] []):=by intro _;rfl):PG X (.Subscript o i pos) (K9 to ti t):=by
 intro pins s σ H v u Q I r h;rw[ha];refine ae (dG (au (ho pins s σ H _ I h) λov s1 ⟨x,H1,I1,r1,q1⟩=>?_));refine ae (dG (au (hi pins s1 σ H1 _ I1 q1) λiv s2 ⟨y,H2,I2,r2,q2⟩=>?_));refine ae (wpAny_standAt (ae (dG (au (hs pins s2 σ H2 x y v ov iv u _ I2 r1 r2 r q2) λ_ s3 ⟨H3,I3,q3⟩=>?_))));exact wpAny_release ⟨σ,H3,I3,q3⟩
noncomputable def su(te:TE)(g:TG):TS:=λD σ H=>te σ H λx H1=>g x σ H1 D.nx
theorem Fp{tg e:Expr}{te:TE}{g:TG}(he:PE X e te)(hg:PG X tg g)(hs:swapsWithSole [tg] e pos.line X.env=pure false:=by rfl)(hw:swappedStores [tg] e X.env=pure none:=by rfl)
  (h1:(assignEach [tg] X.env).map (·.2) = [assign tg X.env]:=by rfl):PS X (.Assign [tg] e pos) (su te g):=by
 intro pins s σ H D I h;refine wpAny_Assign_stores (au (he pins s σ H _ I h) λv s1 ⟨x,H1,I1,r1,q1⟩=>?_) hs hw;rw[h1];exact au (hg pins s1 σ H1 x v _ I1 r1 q1) λ_ s2 q=>q
theorem aS{i:Nat}{x:Str}{e:Expr}{te:TE}{pos':Pos}(hN:X.N.Nodup)(hi:X.N[i]?=some x)(hx:Loc X.env.scope x)(he:PE X e te)(hs:swapsWith e (some (.Name x pos')) pos.line X.env=pure false:=by rfl)(hf:X.fn x=true\/X.env.scope.names.lookup x=some .local:=by first|exact .inl rfl|exact .inr rfl|assumption):
  PS X (.Assign [.Name x pos'] e pos) (su te (bq i)):=by
 intro pins s σ H D I h;refine wpAny_Assign_Name (au (he pins s σ H _ I h) λv s1 ⟨y,H1,I1,r1,q1⟩=>?_) hs;exact G7 I1 hN hi hx r1 (λs2 I2=>⟨_,H1,I2,q1⟩) hf
noncomputable def Um(c:TT)(tb:TS):TS:=λD σ H=>∃W:Nat->St->Hp->Prop,(∃m,W m σ H)/\∀m σ H,W m σ H ->
 c σ H λb H1=>if b=true then ∃N:St->Hp->Prop,(∀σ' H',N σ' H'->∃m',m'<m/\W m' σ' H')/\tb {D with nx:=N,ct:=N,bk:=D.nx} σ H1 else D.nx σ H1
theorem Fq{c:Expr}{body:List Stmt}{tc:TT}{tb:TS}(hp:PassesOwn (model X.prog X.w) X.A X.env X.xe)(hc:PT X c tc)(hb:cB X body tb):PS X (.While c body [] pos) (Um tc tb):=by
 intro pins s σ H D I h;obtain⟨W,⟨m0,w0⟩,turn⟩:=h;refine wpAny_While (codeAny_whileLoop (λn s'=>∃σ' H',Inv X pins σ' H' s'/\W n σ' H') ?_ m0 ⟨σ,H,I,w0⟩);rintro n s1 ⟨σ1,H1,I1,w1⟩;refine kh hp (au (hc pins s1 σ1 H1 _ I1 (turn n σ1 H1 w1)) λb s2 ⟨H2,I2,q2⟩=>?_);cases b with
 |true =>
  obtain⟨N,hN,q2⟩:=q2;rw[if_pos rfl];refine kh hp (au (hb pins s2 σ1 H2 _ I2 q2) λf s3 q3=>?_);cases f with
  |next =>
   obtain⟨σ3,H3,I3,n3⟩:=q3;obtain⟨m',hm,w3⟩:=hN σ3 H3 n3;exact⟨m',hm,σ3,H3,I3,w3⟩
  |cont =>
   obtain⟨σ3,H3,I3,n3⟩:=q3;obtain⟨m',hm,w3⟩:=hN σ3 H3 n3;exact⟨m',hm,σ3,H3,I3,w3⟩
  |brk=>exact q3
  |ret v=>exact q3
 |false =>
  rw[if_neg Bool.false_ne_true];exact pk ⟨σ1,H2,I2,q2⟩
end
structure It where
 go:Nat->Hp->Prop
 jY:Nat->Hp->V->Hp->Prop
 stop:Nat->Hp->Prop
noncomputable def cu(X:Cx)(pins:List (Addr × Obj))(H:Hp)(b:Addr):Prop:=
 H b=none/\b≠X.env.locals/\b ∉ X.fs/\(b∈X.ex\/X.s₀.heap.objs.size<=b)/\(∀x c,X.env.cells.lookup x=some c->c≠b)/\∀p∈X.pn++pins,p.1≠b
theorem Inv.jy{X:Cx}{pins:List (Addr × Obj)}{σ:St}{H H':Hp}{s:Shared}{b:Addr}(I:Inv X pins σ H s)(hb:s.heap.objs.size<=b)(hn:H' b=none):cu X pins H' b:=by
 refine⟨hn,eK (cz I.lt hb),I.PX hb,.inr (cy I.sz hb),λx c e z=>?_,λp hp z=>?_⟩
 ·obtain⟨v,q⟩:=I.cell x c e
  exact absurd (cz q.lt (by rw[z];exact hb)) (dz _)
 ·exact absurd (cz (aI (I.pin p hp).1) (by rw[z];exact hb)) (dz _)
structure Turn (P:Program) (w:World) (K:W.Frag) (tg:Expr) (J:It) (fp:List Addr) (it:Addr) (tn:Nat->Heap->Prop):Prop where
 mem:it∈fp
 obj:∀i h,tn i h->∀b∈fp,∃o,h.get? b=some o/\∀v,o.data≠.cell v
 keep:∀i h h',tn i h->(∀b∈fp,∀o,h.get? b=some o->h'.get? b=some o)->tn i h'
 item:∀(X:Cx),X.prog=P->X.w=w->X.K=K->X.calm=true->∀(i:Nat) (pins:List (Addr × Obj)) (s:Shared) (σ:St) (H:Hp) (E:Value->Shared->Prop),Inv X pins σ H s->(∀b∈fp,cu X pins H b)->tn i s.heap->J.go i H ->
  wpAny (model P w) X.A (pyNext (.ref it)) (λr s1=>∃u,r=some u /\
   wpAny (model P w) X.A (letOwnedTupleGo tg (.ref it) u) (λ_ s2=>∃x H',Inv X pins σ H' s2/\RelV x u/\J.jY i H x H'/\tn (i+1) s2.heap/\∀b∈fp,H' b=none) E s1) E s
 done:∀(X:Cx),X.prog=P->X.w=w->X.K=K->X.calm=true->∀(i:Nat) (pins:List (Addr × Obj)) (s:Shared) (σ:St) (H:Hp) (E:Value->Shared->Prop),Inv X pins σ H s->(∀b∈fp,cu X pins H b)->tn i s.heap->J.stop i H ->
  wpAny (model P w) X.A (pyNext (.ref it)) (λr s1=>r=none/\Inv X pins σ H s1) E s
 self:∀(A:Around) (i:Nat) (s:Shared) (Q:Value->Shared->Prop) (E:Value->Shared->Prop),tn i s.heap->Q (.ref it) s->wpAny (model P w) A (pyIter (.ref it)) Q E s
abbrev TI:=St->Hp->(It->Hp->Prop)->Prop
noncomputable def PIE(X:Cx)(pins:List (Addr × Obj))(σ:St)(tg:Expr)(R:It->Hp->Prop)(itv:Value)(s2:Shared):Prop:=
 ∃(it:Addr) (fp:List Addr) (tn:Nat->Heap->Prop) (J:It) (H':Hp),itv = .ref it/\Inv X pins σ H' s2/\Turn X.prog X.w X.K tg J fp it tn/\tn 0 s2.heap/\(∀b∈fp,cu X pins H' b)/\R J H'
noncomputable def PI(X:Cx)(tg iter:Expr)(wi:TI):Prop:=
 ∀(pins:List (Addr × Obj)) (s:Shared) (σ:St) (H:Hp) (R:It->Hp->Prop),Inv X pins σ H s->wi σ H R ->
  wpAny (model X.prog X.w) X.A (eval iter X.env) (λv s1=>wpAny (model X.prog X.w) X.A (pyIter v) (PIE X pins σ tg R) X.xe s1) X.xe s
theorem qg{M:Model}{A:Around}{E:Value->Shared->Prop}{s:Shared}{tg:Expr}{it:Addr}{u:Value}{o:Obj}{n:String}{vs:Array Value}{Q:Unit->Shared->Prop}(ho:s.heap.get? it=some o)(hc:o.cls = .type n)(hd:o.data = .fields vs)
  (hn:["enumerate","zip","dict_itemiterator","dict_reverseitemiterator","odict_iterator","itertools.zip_longest","itertools.pairwise"].contains n=false) (hQ:Q () s):wpAny M A (letOwnedTupleGo tg (.ref it) u) Q E s:=by
 unfold letOwnedTupleGo;cases tg<;>first
  |exact ah hQ
  | (cases u<;>first
    |exact ah hQ
    | (refine ae (wpAny_load ho ?_);rw[hc,hd];show wpAny M A (if(["enumerate","zip","dict_itemiterator","dict_reverseitemiterator","odict_iterator","itertools.zip_longest","itertools.pairwise"].contains n&&vs[0]?==some (rawInt _))=true then _ else _) Q E s;rw[if_neg (by intro h;rw[hn,sY]at h;cases h)];exact ah hQ))
noncomputable def jf(K:W.Frag)(a:Addr):It:=
 ⟨λi H=>∃xs x,ao K H a xs/\xs[i]?=some x,λi H x H'=>H'=H/\∀xs,ao K H a xs->xs[i]?=some x,λi H=>∃xs,ao K H a xs/\xs.length<=i⟩
noncomputable def oQ(K:W.Frag)(a:Addr):It:=
 ⟨λi H=>∃xs x,aJ K H a xs/\xs[i]?=some x,λi H x H'=>H'=H/\∀xs,aJ K H a xs->xs[i]?=some x,λi H=>∃xs,aJ K H a xs/\xs.length<=i⟩
noncomputable def iH(lo:Int)(n:Nat):It:=⟨λi _=>i<n,λi H x H'=>H'=H/\x = .int (lo+i),λi _=>n<=i⟩
theorem Uz{P:Program}{w:World}{K:W.Frag}{tg:Expr}(a it:Addr):Turn P w K tg (jf K a) [it] it (λi h=>h.IsListIter it a i) where
 mem:=by simp
 obj:=λi h st b hb=>by
  have e:b=it:=by simpa using hb
  subst e;obtain⟨o,e,c,d⟩:=st;exact⟨o,e,λv z=>by rw[d]at z;cases z⟩
 keep:=λi h h' st k=>st.at λo e=>k it (by simp) o e
 item:=by
  intro X hP hw hK hc i pins s σ H E I hf st hg;subst hP hw hK;obtain⟨xs,x,hq,hx⟩:=hg;obtain⟨its,rv,p,hz⟩:=I.list hq;obtain⟨u,hu,ru⟩:=rv.get hx;obtain⟨f0,f1,f2,f3,f4,f5⟩:=hf it (by simp);refine wpAny_pyNext_list_item st p.isList (x:=u) (by simpa using hu) λh' st' sb=>?_;have I1:Inv X pins σ H {s with heap:=h'}:=I.turned (t':=s.toks) (λb o hb e=>(sb.2 b hb).trans e) f0 f1 f3 f4 f5;obtain⟨o,e,c,d⟩:=id st';exact⟨u,rfl,qg (s:={s with heap:=h'}) e c d (by decide) ⟨x,H,I1,ru,⟨rfl,λys hy=>by rw[I.vV hy hq];exact hx⟩,st',λb hb=>(hf b hb).1⟩⟩
 done:=by
  intro X hP hw hK hc i pins s σ H E I hf st hg;subst hP hw hK;obtain⟨xs,hq,hx⟩:=hg;obtain⟨its,rv,p,hz⟩:=I.list hq;obtain⟨f0,f1,f2,f3,f4,f5⟩:=hf it (by simp);have hl:=rv.length;exact wpAny_pyNext_list_end (I.ok.hd hc) st p.isList (by simp;omega) λh' eb=>⟨rfl,I.turned (t':=s.toks) (λb o hb e=>eb b o hb e) f0 f1 f3 f4 f5⟩
 self:=λ_ _ _ _ _ st h=>wpAny_pyIter_listiter st h
theorem UL{P:Program}{w:World}{K:W.Frag}{tg:Expr}(a it:Addr):Turn P w K tg (oQ K a) [it] it (λi h=>h.IsTupleIter it a i) where
 mem:=by simp
 obj:=λi h st b hb=>by
  have e:b=it:=by simpa using hb
  subst e;obtain⟨o,e,c,d⟩:=st;exact⟨o,e,λv z=>by rw[d]at z;cases z⟩
 keep:=λi h h' st k=>st.at λo e=>k it (by simp) o e
 item:=by
  intro X hP hw hK hc i pins s σ H E I hf st hg;subst hP hw hK;obtain⟨xs,x,hq,hx⟩:=hg;obtain⟨its,rv,p,hz⟩:=I.tuple hq;obtain⟨u,hu,ru⟩:=rv.get hx;obtain⟨f0,f1,f2,f3,f4,f5⟩:=hf it (by simp);refine wpAny_pyNext_tuple_item st (show s.heap.IsTuple a its.toArray from p) (x:=u) (by simpa using hu) λh' st' sb=>?_;have I1:Inv X pins σ H {s with heap:=h'}:=I.turned (t':=s.toks) (λb o hb e=>(sb.2 b hb).trans e) f0 f1 f3 f4 f5;obtain⟨o,e,c,d⟩:=id st';exact⟨u,rfl,qg (s:={s with heap:=h'}) e c d (by decide) ⟨x,H,I1,ru,⟨rfl,λys hy=>by rw[I.Hm hy hq];exact hx⟩,st',λb hb=>(hf b hb).1⟩⟩
 done:=by
  intro X hP hw hK hc i pins s σ H E I hf st hg;subst hP hw hK;obtain⟨xs,hq,hx⟩:=hg;obtain⟨its,rv,p,hz⟩:=I.tuple hq;obtain⟨f0,f1,f2,f3,f4,f5⟩:=hf it (by simp);have hl:=rv.length;exact wpAny_pyNext_tuple_end (I.ok.hd hc) st (show s.heap.IsTuple a its.toArray from p) (by simp;omega) λh' eb=>⟨rfl,I.turned (t':=s.toks) (λb o hb e=>eb b o hb e) f0 f1 f3 f4 f5⟩
 self:=λ_ _ _ _ _ st h=>wpAny_pyIter_tupleiter st h
theorem UG{P:Program}{w:World}{K:PySem.W.Frag}{tg:Expr}(it:Addr)(lo:Int)(n:Nat):Turn P w K tg (iH lo n) [it] it (λi h=>IsRangeIter h it (lo+(i:Nat)*1) ((n:Int) - (i:Nat)) 1) where
 mem:=by simp
 obj:=λi h st b hb=>by
  have e:b=it:=by simpa using hb
  subst e;exact⟨_,st,λv z=>by
   have z':Data.fields _=Data.cell v:=z;cases z'⟩
 keep:=λi h h' st k=>k it (by simp) _ st
 item:=by
  intro X hP hw hK hc i pins s σ H E I hf st hg;subst hP hw hK;obtain⟨f0,f1,f2,f3,f4,f5⟩:=hf it (by simp);have W:=Walks.range (prog:=X.prog) (w:=X.w) (I.ok.hd hc) it lo 1 n;refine W.item i s _ _ hg st λv h' tk hv st' kk=>?_;obtain⟨t,rfl⟩:=hv;have I1:Inv X pins σ H {s with heap:=h',toks:=tk}:=I.turned (λb o hb e=>kk b o (by simpa using hb) e) f0 f1 f3 f4 f5;refine⟨_,rfl,qg (s:={s with heap:=h',toks:=tk}) (n:= "range_iterator") st' rfl rfl (by decide) ⟨.int (lo+i),H,I1,⟨t,?_⟩,⟨rfl,rfl⟩,st',λb hb=>(hf b hb).1⟩⟩;rw[Int.mul_one]
 done:=by
  intro X hP hw hK hc i pins s σ H E I hf st hg;subst hP hw hK;obtain⟨f0,f1,f2,f3,f4,f5⟩:=hf it (by simp);exact wpAny_pyNext_range_end (I.ok.hd hc) st (by have:n<=i:=hg;omega) λh' eb=>⟨rfl,I.turned (t':=s.toks) (λb o hb e=>eb b o hb e) f0 f1 f3 f4 f5⟩
 self:=λ_ _ _ _ _ st h=>wpAny_pyIter_rangeiter st h
section
variable {X:Cx} {tg:Expr}
noncomputable def BR(K:W.Frag)(tl:TE):TI:=λσ H R=>tl σ H λx H1=>∃a,x = .ref a/\(∃xs,ao K H1 a xs)/\R (jf K a) H1
noncomputable def BV(K:W.Frag)(tl:TE):TI:=λσ H R=>tl σ H λx H1=>∃a,x = .ref a/\(∃xs,aJ K H1 a xs)/\R (oQ K a) H1
theorem Q5{l:Expr}{tl:TE}(hl:PE X l tl):PI X tg l (BR X.K tl):=by
 intro pins s σ H R I h;refine au (hl pins s σ H _ I h) λv s1 ⟨x,H1,I1,r1,q1⟩=>?_;obtain⟨a,e,⟨xs,hq⟩,q⟩:=q1;subst e;cases r1;obtain⟨its,rv,p,hz⟩:=I1.list hq;refine ud p.isList ?_;refine⟨s1.heap.objs.size,[s1.heap.objs.size],_,_,H1,rfl,I1.kept (t':=s1.toks) λb o e=>aB _ e,Uz a _,⟨_,aX _ rfl,rfl,rfl⟩,λb hb=>?_,q⟩;have e:b=s1.heap.objs.size:=by simpa using hb
 subst e;exact I1.jy (aC _) (I1.hok.fresh (aC _))
theorem Q8{l:Expr}{tl:TE}(hl:PE X l tl):PI X tg l (BV X.K tl):=by
 intro pins s σ H R I h;refine au (hl pins s σ H _ I h) λv s1 ⟨x,H1,I1,r1,q1⟩=>?_;obtain⟨a,e,⟨xs,hq⟩,q⟩:=q1;subst e;cases r1;obtain⟨its,rv,p,hz⟩:=I1.tuple hq;refine wpAny_pyIter_tuple (show s1.heap.IsTuple a its.toArray from p) ?_;refine⟨s1.heap.objs.size,[s1.heap.objs.size],_,_,H1,rfl,I1.kept (t':=s1.toks) λb o e=>aB _ e,UL a _,⟨_,aX _ rfl,rfl,rfl⟩,λb hb=>?_,q⟩;have e:b=s1.heap.objs.size:=by simpa using hb
 subst e;exact I1.jy (aC _) (I1.hok.fresh (aC _))
theorem Fz{pins:List (Addr × Obj)}{σ:St}{H:Hp}{s:Shared}{R:It->Hp->Prop}{E:Value->Shared->Prop}{lo hi:Int}{t u v:Tok}{tk:Nat}(I:Inv X pins σ H s)(h1:-(2 ^ 62)<=lo)(h2:lo<2 ^ 62)(h3:-(2 ^ 62)<=hi)(h4:hi<2 ^ 62)
  (q:R (iH lo (hi - lo).toNat) H):wpAny (model X.prog X.w) X.A (pyIter (.ref s.heap.objs.size)) (PIE X pins σ tg R) E {s with heap:=s.heap.push {cls:=.type "range", data:=.fields #[.int lo t,.int hi u,.int 1 v]},toks:=tk}:=by
 refine wpAny_pyIter_range (IsRange.new ..) (small_one h1 h2 h3 h4) ?_;have I1:Inv X pins σ H {s with heap:=s.heap.push {cls:=.type "range", data:=.fields #[.int lo t,.int hi u,.int 1 v]},toks:=tk}:=I.kept λb o e=>aB _ e;refine⟨(s.heap.push {cls:=.type "range", data:=.fields #[.int lo t,.int hi u,.int 1 v]}).objs.size,[(s.heap.push {cls:=.type "range", data:=.fields #[.int lo t,.int hi u,.int 1 v]}).objs.size],_,_,H,rfl,
  I1.kept (t':=tk) λb o e=>aB _ e,UG _ lo (hi - lo).toNat,?_,λb hb=>?_,q⟩
 ·have e1:lo+((0:Nat):Int)*1=lo:=by simp
  have e2:(((hi - lo).toNat:Nat):Int) - ((0:Nat):Int)=Builtin.Range.rangeSize lo hi 1:=by rw[rangeSize_one];split<;>omega
  show IsRangeIter _ _ (lo+((0:Nat):Int)*1) ((((hi - lo).toNat:Nat):Int) - ((0:Nat):Int)) 1;rw[e1,e2];exact aX _ rfl
 ·have e:b=(s.heap.push {cls:=.type "range", data:=.fields #[.int lo t,.int hi u,.int 1 v]}).objs.size:=by simpa using hb
  subst e;exact I1.jy (aC _) (I1.hok.fresh (aC _))
noncomputable def Nt(ta:TA):TI:=λσ H R=>ta σ H λvs H1=>∃j:Int,vs = [.int j]/\-(2 ^ 62)<=j/\j<2 ^ 62/\R (iH 0 j.toNat) H1
noncomputable def Nu(ta:TA):TI:=λσ H R=>ta σ H λvs H1=>∃i j:Int,vs = [.int i,.int j]/\(-(2 ^ 62)<=i/\i<2 ^ 62/\-(2 ^ 62)<=j/\j<2 ^ 62)/\R (iH i (j - i).toNat) H1
theorem fV {a:Expr} {ta:TA} {p pos:Pos} (hg:Gl X "range") (hm:X.mg "range" = none) (ha:PA X [a] ta) (hs:starEach [a] X.env = [(false,eval a X.env)]:=by rfl):PI X tg (.Call (.Name "range" p) [a] [] pos) (Nt ta):=by
 intro pins s σ H R I h;refine Call_ (il I hg hm boot_range (mq (au (ha pos pins s σ H _ I h) λus s1 ⟨vs,H1,I1,r1,q1⟩=>?_) hs rfl));obtain⟨j,e,q1,q2,q⟩:=q1;subst e;cases r1 with
 |cons r rr =>
  cases rr;obtain⟨t,rfl⟩:=r;exact call_range_1 (Fz I1 (by omega) (by omega) q1 q2 (by simpa using q))
theorem wU {a b:Expr} {ta:TA} {p pos:Pos} (hg:Gl X "range") (hm:X.mg "range" = none) (ha:PA X [a,b] ta) (hs:starEach [a,b] X.env = [(false,eval a X.env),(false,eval b X.env)]:=by rfl) (hs2:starEach [b] X.env = [(false,eval b X.env)]:=by rfl) :
  PI X tg (.Call (.Name "range" p) [a,b] [] pos) (Nu ta):=by
 intro pins s σ H R I h;refine Call_ (il I hg hm boot_range (mq (au (ha pos pins s σ H _ I h) λus s1 ⟨vs,H1,I1,r1,q1⟩=>?_) (by rw[hs,hs2]) (by rw[hs2];rfl)));obtain⟨i,j,e,⟨q1,q2,q3,q4⟩,q⟩:=q1;subst e;cases r1 with
 |cons r rr =>
  cases rr with
  |cons r' rr =>
   cases rr;obtain⟨t,rfl⟩:=r;obtain⟨t',rfl⟩:=r';exact call_range_2 (Fz I1 q1 q2 q3 q4 q)
noncomputable def T1(wi:TI)(g:TG)(tb:TS):TS:=λD σ H=>wi σ H λJ H1=>∃W:Nat->Nat->St->Hp->Prop,(∃m,W 0 m σ H1)/\∀i m σ H,W i m σ H ->
 (J.stop i H/\D.nx σ H)\/(J.go i H/\∃N:St->Hp->Prop,(∀σ' H',N σ' H'->∃m',m'<m/\W (i+1) m' σ' H')/\∀x H',J.jY i H x H'->g x σ H' λσ2 H2=>tb {D with nx:=N,ct:=N,bk:=D.nx} σ2 H2)
noncomputable def oh(fp:List Addr)(h:Heap):List (Addr × Obj):=fp.filterMap λb=>(h.get? b).map λo=>(b,o)
theorem qy{fp:List Addr}{h:Heap}{b:Addr}{o:Obj}(hb:b∈fp)(e:h.get? b=some o):(b,o)∈oh fp h:=List.mem_filterMap.mpr ⟨b,hb,by rw[e];rfl⟩
theorem P9{fp:List Addr}{h:Heap}{p:Addr × Obj}(hp:p∈oh fp h):p.1∈fp/\h.get? p.1=some p.2:=by
 obtain⟨b,hb,e⟩:=List.mem_filterMap.mp hp;cases q:h.get? b with
 |none=>rw[q]at e;cases e
 |some o =>
  rw[q]at e;have e':(b,o)=p:=d5 e;subst e';exact⟨hb,q⟩
theorem Inv.pinned{pins:List (Addr × Obj)}{σ:St}{H:Hp}{s:Shared}{fp:List Addr}(I:Inv X pins σ H s)(hf:∀b∈fp,cu X pins H b)(ho:∀b∈fp,∃o,s.heap.get? b=some o/\∀v,o.data≠.cell v):Inv X (pins++oh fp s.heap) σ H s:=
 I.qU λp hp=>(iJ.mp hp).elim (λz=>I.pin p (eI _ z)) λz=>by
  obtain⟨hb,e⟩:=P9 z;obtain⟨f0,f1,f2,_⟩:=hf p.1 hb;obtain⟨o,e',d⟩:=ho p.1 hb;rw[e]at e';cases e';exact⟨e,f0,f1,f2,d⟩
theorem Inv.sH{pins pl:List (Addr × Obj)}{σ:St}{H:Hp}{s:Shared}(I:Inv X (pins++pl) σ H s):Inv X pins σ H s:=I.qU λp hp=>I.pin p (eI _ (tL _ hp))
theorem dW{iter:Expr}{body:List Stmt}{wi:TI}{g:TG}{tb:TS}{pos:Pos}(hp:PassesOwn (model X.prog X.w) X.A X.env X.xe)(hc:X.calm=true)(hi:PI X tg iter wi)(hg:PG X tg g)(hb:cB X body tb)(hs:∀x,foldedSetIterable iter X.env x=pure x:=by intro _;rfl):PS X (.For tg iter body [] pos) (T1 wi g tb):=by
 intro pins s σ H D I h;refine wpAny_For (au (hi pins s σ H _ I h) λv s1 h1=>au h1 λitv s2 h2=>?_) hs;obtain⟨it,fp,tn,J,H2,e,I2,T,st2,f2,W,⟨m0,w0⟩,turn⟩:=h2;subst e;have stat:∀{H':Hp},(∀b∈fp,H' b=none)->∀b∈fp,cu X pins H' b:=λhn b hb=>⟨hn b hb,(f2 b hb).2⟩;refine codeAny_forLoop_any (λn s'=>∃i σ' H',Inv X pins σ' H' s'/\tn i s'.heap/\(∀b∈fp,H' b=none)/\W i n σ' H') ?_ m0 ⟨0,σ,H2,I2,st2,λb hb=>(f2 b hb).1,w0⟩;rintro n s3 ⟨i,σ3,H3,I3,st3,m8,w3⟩
 rcases turn i n σ3 H3 w3 with⟨stop,qn⟩|⟨go,N,hN,step⟩
 ·refine kh hp (au (T.done X rfl rfl rfl hc i pins s3 σ3 H3 X.xe I3 (stat m8) st3 stop) λr s4 ⟨hr,I4⟩=>?_)
  subst hr;exact pk ⟨σ3,H3,I4,qn⟩
 ·refine kh hp (au (T.item X rfl rfl rfl hc i pins s3 σ3 H3 X.xe I3 (stat m8) st3 go) λr s4 ⟨u,hr,h4⟩=>?_)
  subst hr;refine kh hp (au h4 λ_ s5 ⟨x,H5,I5,r5,y5,gI,vd⟩=>?_);have tq:=I5.pinned (stat vd) (T.obj _ _ gI);refine kh hp (au (hg _ s5 σ3 H5 x u _ tq r5 (step x H5 y5)) λ_ s6 ⟨σ6,H6,I6,q6⟩=>?_);refine kh hp (au (hb _ s6 σ6 H6 _ I6 q6) λf s7 q7=>?_);have again:∀{σ7:St} {H7:Hp},Inv X (pins++oh fp s5.heap) σ7 H7 s7->N σ7 H7->∃m,m<n/\∃i σ' H',Inv X pins σ' H' s7/\tn i s7.heap/\(∀b∈fp,H' b=none)/\W i m σ' H':=λ{σ7 H7} I7 n7=>by
   obtain⟨m',hm,w7⟩:=hN σ7 H7 n7;refine⟨m',hm,i+1,σ7,H7,I7.sH,T.keep _ _ _ gI λb hb o e=>(I7.pin (b,o) (eI _ (eI _ (qy hb e)))).1,λb hb=>?_,w7⟩;obtain⟨o,e,d⟩:=T.obj _ _ gI b hb;exact(I7.pin (b,o) (eI _ (eI _ (qy hb e)))).2.1
  cases f with
  |next=>obtain⟨σ7,H7,I7,n7⟩:=q7;exact again I7 n7
  |cont=>obtain⟨σ7,H7,I7,n7⟩:=q7;exact again I7 n7
  |brk=>obtain⟨σ7,H7,I7,q7⟩:=q7;exact⟨σ7,H7,I7.sH,q7⟩
  |ret v=>obtain⟨x7,σ7,H7,I7,r7,q7⟩:=q7;exact⟨x7,σ7,H7,I7.sH,r7,q7⟩
end
theorem kL{K:PySem.W.Frag}{a:Addr}{xs:List V}{g:TG}{tb:TS}{D:Ends}{σ:St}{H:Hp}(Pv:Nat->St->Hp->Prop)(h0:Pv 0 σ H)(hl:∀i σ H,i<=xs.length->Pv i σ H->ao K H a xs)
  (hs:∀i x σ H,xs[i]?=some x->Pv i σ H->g x σ H λσ2 H2=>tb {D with nx:=Pv (i+1),ct:=Pv (i+1),bk:=D.nx} σ2 H2) (hd:∀σ H,Pv xs.length σ H->D.nx σ H) :
  ∃W:Nat->Nat->St->Hp->Prop,(∃m,W 0 m σ H)/\∀i m σ H,W i m σ H ->
   ((jf K a).stop i H/\D.nx σ H)\/((jf K a).go i H/\∃N:St->Hp->Prop,(∀σ' H',N σ' H'->∃m',m'<m/\W (i+1) m' σ' H')/\∀x H',(jf K a).jY i H x H'->g x σ H' λσ2 H2=>tb {D with nx:=N,ct:=N,bk:=D.nx} σ2 H2):=by
 refine⟨λi m σ H=>m=xs.length - i/\i<=xs.length/\Pv i σ H,⟨xs.length,by simp,cA _,h0⟩,?_⟩;rintro i m σ H ⟨rfl,hi,p⟩;have q:=hl i σ H hi p
 by_cases hlt:i<xs.length
 ·refine .inr ⟨⟨xs,xs[i],q,by simp[hlt]⟩,Pv (i+1),λσ' H' p'=>⟨xs.length - (i+1),by omega,rfl,hlt,p'⟩,λx H' y=>?_⟩
  obtain⟨e,y⟩:=y;subst e;exact hs i x σ _ (y xs q) p
 ·have e:i=xs.length:=by omega
  subst e;exact .inl ⟨⟨xs,q,aC _⟩,hd σ H p⟩
theorem jx{lo:Int}{n:Nat}{g:TG}{tb:TS}{D:Ends}{σ:St}{H:Hp}(Pv:Nat->St->Hp->Prop)(h0:Pv 0 σ H)
  (hs:∀i σ H,i<n->Pv i σ H->g (.int (lo+i)) σ H λσ2 H2=>tb {D with nx:=Pv (i+1),ct:=Pv (i+1),bk:=D.nx} σ2 H2) (hd:∀σ H,Pv n σ H->D.nx σ H) :
  ∃W:Nat->Nat->St->Hp->Prop,(∃m,W 0 m σ H)/\∀i m σ H,W i m σ H ->
   ((iH lo n).stop i H/\D.nx σ H)\/((iH lo n).go i H/\∃N:St->Hp->Prop,(∀σ' H',N σ' H'->∃m',m'<m/\W (i+1) m' σ' H')/\∀x H',(iH lo n).jY i H x H'->g x σ H' λσ2 H2=>tb {D with nx:=N,ct:=N,bk:=D.nx} σ2 H2):=by
 refine⟨λi m σ H=>m=n - i/\i<=n/\Pv i σ H,⟨n,by simp,cA _,h0⟩,?_⟩;rintro i m σ H ⟨rfl,hi,p⟩
 by_cases hlt:i<n
 ·refine .inr ⟨hlt,Pv (i+1),λσ' H' p'=>⟨n - (i+1),by omega,rfl,hlt,p'⟩,λx H' y=>?_⟩
  obtain⟨e,y⟩:=y;subst e y;exact hs i σ _ hlt p
 ·have e:i=n:=by omega
  subst e;exact .inl ⟨aC _,hd σ H p⟩
abbrev R2:=V->V->Hp->VK->Prop
noncomputable def bP(X:Cx)(f:Value->Value->Sem Value)(r:R2):Prop:=
 ∀(pins:List (Addr × Obj)) (s:Shared) (σ:St) (H:Hp) (x y:V) (v u:Value) (Q:VK),Inv X pins σ H s->RelV x v->RelV y u->r x y H Q ->
  wpAny (model X.prog X.w) X.A (f v u) (EP X pins σ Q) X.xe s
noncomputable def uk(X:Cx)(f:Value->Sem Value)(r:V->Hp->VK->Prop):Prop:=
 ∀(pins:List (Addr × Obj)) (s:Shared) (σ:St) (H:Hp) (x:V) (v:Value) (Q:VK),Inv X pins σ H s->RelV x v->r x H Q ->
  wpAny (model X.prog X.w) X.A (f v) (EP X pins σ Q) X.xe s
noncomputable def da(X:Cx)(f:Value)(r:List V->Hp->VK->Prop):Prop:=
 ∀(pins:List (Addr × Obj)) (s:Shared) (σ:St) (H:Hp) (xs:List V) (us:List Value) (Q:VK),Inv X pins σ H s->Vals xs us->r xs H Q ->
  wpAny (model X.prog X.w) X.A (call f us) (EP X pins σ Q) X.xe s
noncomputable def sC(r:R2)(ta tb:TE):TE:=λσ H Q=>ta σ H λx H1=>tb σ H1 λy H2=>r x y H2 Q
noncomputable def Ul(r:V->Hp->VK->Prop)(ta:TE):TE:=λσ H Q=>ta σ H λx H1=>r x H1 Q
noncomputable def rI(C:Int->Int->Prop)(g:Int->Int->V):R2:=λx y H Q=>∃i j,x = .int i/\y = .int j/\C i j/\Q (g i j) H
noncomputable def iB(g:Int->Int->V):R2:=λx y H Q=>∃i j,x = .int i/\y = .int j/\Q (g i j) H
noncomputable def rU(g:Int->V):V->Hp->VK->Prop:=λx H Q=>∃i,x = .int i/\Q (g i) H
section
variable {X:Cx} {a b c:Expr} {ta tb tc:TE} {pos:Pos}
theorem uz(ha:PE X a ta)(hb:PE X b tb){pins:List (Addr × Obj)}{s:Shared}{σ:St}{H:Hp}{R:V->V->Hp->Prop}(I:Inv X pins σ H s)(h:ta σ H λx H1=>tb σ H1 λy H2=>R x y H2){Q:Value->Shared->Prop}{f:Value->Value->Sem Value}(hf:∀v u s2 x y H2,Inv X pins σ H2 s2->RelV x v->RelV y u->R x y H2->wpAny (model X.prog X.w) X.A (f v u) Q X.xe s2):wpAny (model X.prog X.w) X.A (eval a X.env) (λv s₁=>wpAny (model X.prog X.w) X.A (eval b X.env) (λu s₂=>wpAny (model X.prog X.w) X.A (f v u) Q X.xe s₂) X.xe s₁) X.xe s:=by
 refine au (ha pins s σ H _ I h) λv s1 ⟨x,H1,I1,r1,q1⟩=>?_;refine au (hb pins s1 σ H1 _ I1 q1) λu s2 ⟨y,H2,I2,r2,q2⟩=>?_;exact hf v u s2 x y H2 I2 r1 r2 q2
theorem aD{op:Operator}{r:R2}(ho:bP X (binaryOp op) r)(ha:PE X a ta)(hb:PE X b tb):PE X (.BinOp a op b pos) (sC r ta tb):=by
 intro pins s σ H Q I h;exact wpAny_BinOp (uz ha hb I h λv u s2 x y H2 I2 rx ry q=>ho pins s2 σ H2 x y v u Q I2 rx ry q)
theorem Ff{op:UnaryOp}{r:V->Hp->VK->Prop}(ho:uk X (unaryOp op) r)(ha:PE X a ta):PE X (.UnaryOp op a pos) (Ul r ta):=by
 intro pins s σ H Q I h;exact UnaryOp_ (au (ha pins s σ H _ I h) λv s1 ⟨x,H1,I1,r1,q1⟩=>ho pins s1 σ H1 x v Q I1 r1 q1)
theorem qK{f:Value->Value->Sem Value}{C:Int->Int->Prop}{g:Int->Int->Int}
  (rule:∀(i j:Int) (t u:Tok) (s:Shared) (Q:Value->Shared->Prop) (E:Value->Shared->Prop),C i j->Q (.int (g i j) s.toks) {s with toks:=s.toks+1}->wpAny (model X.prog X.w) X.A (f (.int i t) (.int j u)) Q E s) :
  bP X f (rI C λi j=>.int (g i j)):=by
 intro pins s σ H x y v u Q I rx ry h;obtain⟨i,j,rfl,rfl,hc,q⟩:=h;obtain⟨t,rfl⟩:=rx;obtain⟨t',rfl⟩:=ry;exact rule i j t t' s _ _ hc ⟨.int (g i j),H,I.tok _,⟨_,rfl⟩,q⟩
theorem wB{f:Value->Value->Sem Value}{g:Int->Int->Int}
  (rule:∀(i j:Int) (t u:Tok) (s:Shared) (Q:Value->Shared->Prop) (E:Value->Shared->Prop),Q (.int (g i j) s.toks) {s with toks:=s.toks+1}->wpAny (model X.prog X.w) X.A (f (.int i t) (.int j u)) Q E s) :
  bP X f (iB λi j=>.int (g i j)):=by
 intro pins s σ H x y v u Q I rx ry h;obtain⟨i,j,rfl,rfl,q⟩:=h;obtain⟨t,rfl⟩:=rx;obtain⟨t',rfl⟩:=ry;exact rule i j t t' s _ _ ⟨.int (g i j),H,I.tok _,⟨_,rfl⟩,q⟩
theorem qJ{f:Value->Value->Sem Value}{g:Int->Int->Bool}(rule:∀(i j:Int) (t u:Tok) (s:Shared) (Q:Value->Shared->Prop) (E:Value->Shared->Prop),Q (.bool (g i j)) s->wpAny (model X.prog X.w) X.A (f (.int i t) (.int j u)) Q E s):bP X f (iB λi j=>.bl (g i j)):=by
 intro pins s σ H x y v u Q I rx ry h;obtain⟨i,j,rfl,rfl,q⟩:=h;obtain⟨t,rfl⟩:=rx;obtain⟨t',rfl⟩:=ry;exact rule i j t t' s _ _ ⟨.bl (g i j),H,I,rfl,q⟩
noncomputable def HR(i j:Int):Prop:=0<j/\j<1073741824
noncomputable def HS(i j:Int):Prop:=0<=j/\j<=1000000/\i.natAbs<2 ^ 64
noncomputable def lI(i j:Int):Prop:=(-(2 ^ 64)<i/\i<2 ^ 64)\/(-(2 ^ 64)<j/\j<2 ^ 64)
theorem lI.ok{i j:Int}(h:lI i j):IntMulOk i j:=by
 rcases h with⟨h1,h2⟩|⟨h1,h2⟩
 ·exact .of_left (intBits_le_64 h1 h2)
 ·exact .of_right (intBits_le_64 h1 h2)
theorem dQ:bP X (binaryOp .Add) (iB λi j=>.int (i+j)):=wB λ_ _ _ _ _ _ _ q=>add_int q
theorem wF:bP X (binaryOp .Sub) (iB λi j=>.int (i - j)):=wB λ_ _ _ _ _ _ _ q=>sub_int q
theorem dR:bP X (binaryOp .Mult) (rI lI λi j=>.int (i*j)):=qK λ_ _ _ _ _ _ _ hc q=>mul_int q hc.ok
theorem iY:bP X (binaryOp .FloorDiv) (rI HR λi j=>.int (i / j)):=qK λi j _ _ _ _ _ hc q=>by
 have h1:(0:Int)<j:=hc.1;have h2:j<1073741824:=hc.2;exact floordiv_int (by omega) (by rw[Int.fdiv_eq_ediv_of_nonneg i (by omega)];exact q) (.inl (PyProof.noPylong_small (by omega)))
theorem cL:bP X (binaryOp .Mod) (rI (λ_ j=>0<j) λi j=>.int (i % j)):=qK λi j _ _ _ _ _ hc q=>by
 have h1:(0:Int)<j:=hc;exact mod_int' (by omega) (by rw[Int.fmod_eq_emod_of_nonneg i (by omega)];exact q)
theorem Et:bP X (binaryOp .Pow) (rI HS λi j=>.int (i ^ j.toNat)):=qK λ_ _ _ _ _ _ _ hc q=>pow_int_small hc.1 hc.2.1 hc.2.2 q
theorem Qw:bP X (binaryOp .BitXor) (iB λi j=>.int (Builtin.bitXor i j)):=wB λ_ _ _ _ _ _ _ q=>xor_int q
theorem U1{f:Value->Sem Value}{g:Int->Int}
  (rule:∀(i:Int) (t:Tok) (s:Shared) (Q:Value->Shared->Prop) (E:Value->Shared->Prop),Q (.int (g i) s.toks) {s with toks:=s.toks+1}->wpAny (model X.prog X.w) X.A (f (.int i t)) Q E s) :
  uk X f (rU λi=>.int (g i)):=by
 intro pins s σ H x v Q I rx h;obtain⟨i,rfl,q⟩:=h;obtain⟨t,rfl⟩:=rx;exact rule i t s _ _ ⟨.int (g i),H,I.tok _,⟨_,rfl⟩,q⟩
theorem Hu:uk X (unaryOp .USub) (rU λi=>.int (-i)):=U1 λ_ _ _ _ _ q=>neg_int q
end
noncomputable def GF:V->V->Bool
 |.non,.non=>true | .non,.int _=>true | .int _,.non=>true | .non,.bl _=>true | .bl _,.non=>true | .non,.str _=>true | .str _,.non=>true
 |.int _,.int _=>true | .bl _,.bl _=>true | .str _,.str _=>true | .fO _,.fO _=>true
 |.int _,.str _=>true | .str _,.int _=>true | .bl _,.str _=>true | .str _,.bl _=>true
 |_,_=>false
noncomputable def Rt:R2:=λx y H Q=>GF x y=true/\Q (.bl (decide (x=y))) H
noncomputable def RG:R2:=λx y H Q=>GF x y=true/\Q (.bl (!decide (x=y))) H
theorem zY{i j:Int}:decide (V.int i=V.int j)=(i==j):=by
 rw[dw];simp
theorem zW{i j:Bool}:decide (V.bl i=V.bl j)=(i==j):=by
 rw[dw];simp
theorem zZ{i j:Str}:decide (V.str i=V.str j)=(i==j):=by
 rw[dw];simp
theorem zX{i j:Array UInt8}:decide (V.fO i=V.fO j)=(i.toList==j.toList):=by
 rw[dw];cases i;cases j;simp
section
variable {X:Cx} {a b c:Expr} {ta tb tc:TE} {pos:Pos}
theorem bA{pins:List (Addr × Obj)}{σ:St}{H:Hp}{s:Shared}{Q:VK}{k k':Bool}(I:Inv X pins σ H s)(q:Q (.bl k) H)(e:k=k'):EP X pins σ Q (.bool k') s:=by
 subst e;exact⟨.bl k,H,I,rfl,q⟩
theorem fU:bP X (compareOp .Eq) Rt:=by
 intro pins s σ H x y v u Q I rx ry h;obtain⟨hs,q⟩:=h;cases x with
 |non =>
  cases rx;cases y with
  |non=>cases ry;exact PySem.EqNone.eq_none_none (bA I q (by simp))
  |bl j=>cases ry;exact PySem.EqNone.eq_none_bool (bA I q (by simp))
  |int j=>obtain⟨t',rfl⟩:=ry;exact PySem.EqNone.eq_none_int (bA I q (by simp))
  |str j=>obtain⟨t',rfl⟩:=ry;exact PySem.EqNone.eq_none_str (bA I q (by simp))
  |_=>exact absurd (show false=true from hs) Bool.false_ne_true
 |bl i =>
  cases rx;cases y with
  |non=>cases ry;exact PySem.EqNone.eq_bool_none (bA I q (by simp))
  |bl j=>cases ry;exact eq_bool (bA I q zW)
  |str j=>obtain⟨t',rfl⟩:=ry;exact PySem.EqMixed.eq_bool_str (bA I q (by simp))
  |_=>exact absurd (show false=true from hs) Bool.false_ne_true
 |int i =>
  obtain⟨t,rfl⟩:=rx;cases y with
  |non=>cases ry;exact PySem.EqNone.eq_int_none (bA I q (by simp))
  |int j=>obtain⟨t',rfl⟩:=ry;exact eq_int (bA I q zY)
  |str j=>obtain⟨t',rfl⟩:=ry;exact PySem.EqMixed.eq_int_str (bA I q (by simp))
  |_=>exact absurd (show false=true from hs) Bool.false_ne_true
 |str i =>
  obtain⟨t,rfl⟩:=rx;cases y with
  |non=>cases ry;exact PySem.EqNone.eq_str_none (bA I q (by simp))
  |bl j=>cases ry;exact PySem.EqMixed.eq_str_bool (bA I q (by simp))
  |int j=>obtain⟨t',rfl⟩:=ry;exact PySem.EqMixed.eq_str_int (bA I q (by simp))
  |str j=>obtain⟨t',rfl⟩:=ry;exact eq_str (bA I q zZ)
  |_=>exact absurd (show false=true from hs) Bool.false_ne_true
 |fO i =>
  obtain⟨t,rfl⟩:=rx;cases y with
  |fO j=>obtain⟨t',rfl⟩:=ry;exact W.eq_bytes (bA I q zX)
  |_=>exact absurd (show false=true from hs) Bool.false_ne_true
 |_=>cases y<;>exact absurd (show false=true from hs) Bool.false_ne_true
theorem jM:bP X (compareOp .NotEq) RG:=by
 intro pins s σ H x y v u Q I rx ry h;obtain⟨hs,q⟩:=h;cases x with
 |non =>
  cases rx;cases y with
  |non=>cases ry;exact PySem.EqNone.ne_none_none (bA I q (by simp))
  |bl j=>cases ry;exact PySem.EqNone.ne_none_bool (bA I q (by simp))
  |int j=>obtain⟨t',rfl⟩:=ry;exact PySem.EqNone.ne_none_int (bA I q (by simp))
  |str j=>obtain⟨t',rfl⟩:=ry;exact PySem.EqNone.ne_none_str (bA I q (by simp))
  |_=>exact absurd (show false=true from hs) Bool.false_ne_true
 |bl i =>
  cases rx;cases y with
  |non=>cases ry;exact PySem.EqNone.ne_bool_none (bA I q (by simp))
  |bl j=>cases ry;exact ne_bool (bA I q (congrArg not zW))
  |str j=>obtain⟨t',rfl⟩:=ry;exact PySem.EqMixed.ne_bool_str (bA I q (by simp))
  |_=>exact absurd (show false=true from hs) Bool.false_ne_true
 |int i =>
  obtain⟨t,rfl⟩:=rx;cases y with
  |non=>cases ry;exact PySem.EqNone.ne_int_none (bA I q (by simp))
  |int j=>obtain⟨t',rfl⟩:=ry;exact ne_int (bA I q (congrArg not zY))
  |str j=>obtain⟨t',rfl⟩:=ry;exact PySem.EqMixed.ne_int_str (bA I q (by simp))
  |_=>exact absurd (show false=true from hs) Bool.false_ne_true
 |str i =>
  obtain⟨t,rfl⟩:=rx;cases y with
  |non=>cases ry;exact PySem.EqNone.ne_str_none (bA I q (by simp))
  |bl j=>cases ry;exact PySem.EqMixed.ne_str_bool (bA I q (by simp))
  |int j=>obtain⟨t',rfl⟩:=ry;exact PySem.EqMixed.ne_str_int (bA I q (by simp))
  |str j=>obtain⟨t',rfl⟩:=ry;exact ne_str (bA I q (congrArg not zZ))
  |_=>exact absurd (show false=true from hs) Bool.false_ne_true
 |fO i =>
  obtain⟨t,rfl⟩:=rx;cases y with
  |fO j=>obtain⟨t',rfl⟩:=ry;exact W.ne_bytes (bA I q (congrArg not zX))
  |_=>exact absurd (show false=true from hs) Bool.false_ne_true
 |_=>cases y<;>exact absurd (show false=true from hs) Bool.false_ne_true
theorem Es:bP X (compareOp .Lt) (iB λi j=>.bl (decide (i<j))):=qJ λ_ _ _ _ _ _ _ q=>lt_int q
theorem eU:bP X (compareOp .LtE) (iB λi j=>.bl (decide (i<=j))):=qJ λ_ _ _ _ _ _ _ q=>le_int q
theorem wC:bP X (compareOp .Gt) (iB λi j=>.bl (decide (j<i))):=qJ λ_ _ _ _ _ _ _ q=>gt_int q
theorem Qt:bP X (compareOp .GtE) (iB λi j=>.bl (decide (j<=i))):=qJ λ_ _ _ _ _ _ _ q=>ge_int q
theorem wD:bP X (compareOp .Is) (λx y H Q=>y = .non/\Q (.bl (decide (x = .non))) H):=by
 intro pins s σ H x y v u Q I rx ry h;obtain⟨rfl,q⟩:=h;cases ry;refine is_none_gen (bA I q ?_);cases x<;>first
  | (cases rx;rfl)
  | (obtain⟨t,rfl⟩:=rx;rfl)
theorem bN(b:Expr){op:CmpOp}(h:op≠.In:=by decide)(h2:op≠.NotIn:=by decide):behindInMarks op b=false:=by
 have e1:(op==CmpOp.In)=false:=by cases op<;>first|rfl|exact absurd rfl h
 have e2:(op==CmpOp.NotIn)=false:=by cases op<;>first|rfl|exact absurd rfl h2
 cases b<;>simp[behindInMarks,e1,e2]
theorem wO{op:CmpOp}{r:R2}(ho:bP X (compareOp op) r)(ha:PE X a ta)(hb:PE X b tb)(hm:behindInMarks op b=false):PE X (.Compare a [op] [b] pos) (sC r ta tb):=by
 intro pins s σ H Q I h;exact wpAny_Compare1 (uz ha hb I h λv u s2 x y H2 I2 rx ry q=>ho pins s2 σ H2 x y v u Q I2 rx ry q) hm
noncomputable def Hj(t:TE):TT:=λσ H Q=>t σ H λx H'=>∃k,x = .bl k/\Q k H'
theorem bR{op:CmpOp}{r:R2}(ho:bP X (compareOp op) r)(ha:PE X a ta)(hb:PE X b tb)(hm:behindInMarks op b=false):PT X (.Compare a [op] [b] pos) (Hj (sC r ta tb)):=by
 intro pins s σ H Q I h;refine wpAny_isTrue_Compare1 (au (ha pins s σ H _ I h) λv s1 ⟨x,H1,I1,r1,q1⟩=>au (hb pins s1 σ H1 _ I1 q1) λu s2 ⟨y,H2,I2,r2,q2⟩ =>
  au (ho pins s2 σ H2 x y v u _ I2 r1 r2 q2) λc s3 ⟨z,H3,I3,r3,k,e,q3⟩=>?_) hm
 subst e;cases r3;exact gu ⟨H3,I3,q3⟩
noncomputable def Hb(r r':R2)(ta tb tc:TE):TE:=λσ H Q=>ta σ H λx H1=>tb σ H1 λy H2=>r x y H2 λz H3=>∃k,z = .bl k /\
 (if k=true then tc σ H3 λw' H4=>r' y w' H4 Q else Q (.bl false) H3)
theorem Fd{op op':CmpOp}{r r':R2}(ho:bP X (compareOp op) r)(ho':bP X (compareOp op') r')(ha:PE X a ta)(hb:PE X b tb)(hc:PE X c tc)(hm:lastMarks [op,op'] [b,c]=false:=by with_unfolding_all rfl):PE X (.Compare a [op,op'] [b,c] pos) (Hb r r' ta tb tc):=by
 intro pins s σ H Q I h;refine Compare_chain (au (ha pins s σ H _ I h) λv s1 ⟨x,H1,I1,r1,q1⟩=>chain_link (au (hb pins s1 σ H1 _ I1 q1) λu s2 ⟨y,H2,I2,r2,q2⟩ =>
  au (ho pins s2 σ H2 x y v u _ I2 r1 r2 q2) λd s3 ⟨z,H3,I3,r3,k,e,q3⟩=>?_)) hm
 subst e;cases r3;refine gu ?_;cases k with
 |false=>exact ite_ff ⟨.bl false,H3,I3,rfl,q3⟩
 |true=>exact ite_tt (chain_last (au (hc pins s3 σ H3 _ I3 q3) λw' s4 ⟨z',H4,I4,r4,q4⟩=>ho' pins s4 σ H4 y z' u w' Q I4 r2 r4 q4))
theorem qW{op op':CmpOp}{r r':R2}(ho:bP X (compareOp op) r)(ho':bP X (compareOp op') r')(ha:PE X a ta)(hb:PE X b tb)(hc:PE X c tc)(hm:lastMarks [op,op'] [b,c]=false:=by with_unfolding_all rfl):PT X (.Compare a [op,op'] [b,c] pos) (Hj (Hb r r' ta tb tc)):=by
 intro pins s σ H Q I h;refine isTrue_chain (au (ha pins s σ H _ I h) λv s1 ⟨x,H1,I1,r1,q1⟩=>test_link (au (hb pins s1 σ H1 _ I1 q1) λu s2 ⟨y,H2,I2,r2,q2⟩ =>
  au (ho pins s2 σ H2 x y v u _ I2 r1 r2 q2) λd s3 ⟨z,H3,I3,r3,k,e,q3⟩=>?_)) hm
 subst e;cases r3;refine gu ?_;cases k with
 |false =>
  obtain⟨k',e',q'⟩:=q3;cases e';exact ite_ff ⟨H3,I3,q'⟩
 |true =>
  refine ite_tt (test_last (au (hc pins s3 σ H3 _ I3 q3) λw' s4 ⟨z',H4,I4,r4,q4⟩=>au (ho' pins s4 σ H4 y z' u w' _ I4 r2 r4 q4) λd' s5 ⟨z2,H5,I5,r5,k2,e2,q5⟩=>?_));subst e2;cases r5;exact gu ⟨H5,I5,q5⟩
theorem qv:(sizeLine:Nat)<2 ^ 63:=by rw[sizeLine_eq];decide
theorem vals1{x:V}{us:List Value}(r:Vals [x] us):∃u,us = [u]/\RelV x u:=by
 cases r with
 |cons r1 r2=>cases r2;exact⟨_,rfl,r1⟩
theorem JC:da X (.type "int") (λxs H Q=>(∃i,xs = [.int i]/\Q (.int i) H)\/∃k,xs = [.bl k]/\Q (.int (if k then 1 else 0)) H):=by
 intro pins s σ H xs us Q I r h
 rcases h with⟨i,rfl,q⟩|⟨k,rfl,q⟩
 ·obtain⟨u,rfl,t,rfl⟩:=vals1 r
  exact call_int_int ⟨.int i,H,I,⟨_,rfl⟩,q⟩
 ·obtain⟨u,rfl,r1⟩:=vals1 r
  cases r1;exact call_int_bool ⟨.int (if k then 1 else 0),H,I.tok _,⟨_,rfl⟩,q⟩
end
structure mh (h:Heap) (x dx C:Addr) (mA:Str->Option Value):Prop where
 obj:h.get? x=some (W.instObj C dx)
 ns:h.Ns1 dx mA
 ne:dx≠x
theorem Oz{h:Heap}{dx:Addr}{mA:Str->Option Value}(n:h.Ns1 dx mA):∃od,h.get? dx=some od/\∀name,W.lookIn name od=some (mA name):=by
 obtain⟨o,es,ep,ho,hd,hk,_,hm⟩:=n;refine⟨o,ho,λname=>?_⟩;have e:=hm name;unfold nsFind findBy at e;rw[<- Array.find?_toList]at e;unfold W.lookIn;rw[hd];dsimp only
 split
 ·rename_i y q
  rw[q]at e;exact congrArg some e
 ·rename_i q
  rw[q]at e;have a:es.toList.any (·.refKey)=false:=by
   rw[List.any_eq_false];intro y hy;obtain⟨z,t,hkey⟩:=hk y (yg.mp hy);simp[DictEntry.refKey,hkey]
  have a':¬ es.toList.any (·.refKey)=true:=by rw[a];exact Bool.false_ne_true
  rw[if_neg a'];exact congrArg some e
theorem mh.look{h:Heap}{x dx C:Addr}{mA:Str->Option Value}(I:mh h x dx C mA):∃od,W.InstAt h x (W.instObj C dx) C (some od)/\∀name,W.lookIn name od=some (mA name):=
 let⟨od,ho,hl⟩:=Oz I.ns
 ⟨od,⟨I.obj,rfl,rfl,ho⟩,hl⟩
section
variable {prog:Program} {w:World} {A:Around} {E:Value->Shared->Prop} {s:Shared} {K:W.Frag} {x dx C f:Addr} {mA:Str->Option Value} {name:Str} {v:Value}
theorem Sw{ns:List Str}{Q:Unit->Shared->Prop}(X:K.In s.heap)(I:mh s.heap x dx C mA)
  (hs:W.findIn K (.ref C) "__setattr__" = some (some (.builtin "object.__setattr__"))) (hp:W.plainOver K C=true) (ht:W.takerIn K C name=some none) (hh:W.hasDictIn K C=true)
  (hw:PySem.Within mA ns) (hsz:ns.length<=sizeLine)
  (h:∀h',mh h' x dx C (λy=>if y=name then some v else mA y)->Heap.SameBut dx s.heap h'->Q () {s with heap:=h',toks:=s.toks+2}) :
  wpAny (model prog w) A (setAttr (.ref x) name v) Q E s:=by
 obtain⟨od,J,hl⟩:=I.look;refine W.set_plain X J hs (W.osa_open (s:={s with toks:=s.toks+1}) (r:=none) X J hp ht λb=>?_);obtain⟨cd,hc,hd'⟩:=W.any_some hh;have hx:s.heap.get? x=some ⟨.ref C,some dx,.plain,#[]⟩:=I.obj;refine ae (ah (ae (ae (wpAny_loadPart hx (ae (W.Looks.here (s:={s with toks:=s.toks+1}) (W.looks_clsIn X hc) ?_))))));rw[hd'];refine ah (a:=some dx) (ae (ah (ae ?_)));refine wpAny_nsSet1 (s:={s with toks:=s.toks+1}) I.ns λh' hn2 hs2=>?_;obtain⟨oD,esD,epD,hoD,hdD,hcD⟩:=hn2.count (PySem.Within.cons name v hw);refine ae (wpAny_lookBehind hoD (by rw[hdD];exact pastItsLine_dict (cy hcD (by rw[fE];omega))) ?_);exact ah (h _ ⟨(hs2.2 _ (bK I.ne)).trans I.obj,hn2,I.ne⟩ hs2)
theorem O5{R:Result->Shared->Prop}{vs:List Value}{kw:List (Str × Value)}(X:K.In s.heap)(hm:W.makesIn K C=true)
  (hi:W.findIn K (.ref C) "__init__" = some (some (.ref f))) (hf:W.typeIn K (.ref f)=some (.type "function"))
  (h:codeAny (model prog w) (A.under (.builtin "type.__call__" ⟨.ref C::vs,kw⟩)) (.call (.ref f) ⟨.ref (s.heap.objs.size+1)::vs,kw⟩) (W.InitBack (s.heap.objs.size+1) R)
   {s with heap:=(s.heap.push W.emptyDict).push (W.instObj C s.heap.objs.size)}) :
  codeAny (model prog w) A (.call (.ref C) ⟨vs,kw⟩) R s:=by
 obtain⟨hh,g,d,t,os⟩:=s;exact W.make_core (W.makes_of X hm) (W.looks_findIn X hi) (λself=>W.bind_fn X self hf) (.inl rfl) h
end
noncomputable def aR(f:Str)(v:V):List (Str × V)->List (Str × V)
 | []=>[(f,v)]
 | (g,x)::r=>if g=f then(g,v)::r else(g,x)::aR f v r
theorem Dh(f g:Str)(v:V):∀fs:List (Str × V),(aR f v fs).lookup g=if g=f then some v else fs.lookup g
 | []=>by
  show List.lookup g [(f,v)]=_
  by_cases h:g=f
  ·have hb:(g==f)=true:=eP.mpr h
   simp only[List.lookup,hb,if_pos h]
  ·have hb:(g==f)=false:=jo.mpr h
   simp only[List.lookup,hb,if_neg h]
 | (k,x)::r=>by
  have ih:=Dh f g v r;rw[show aR f v ((k,x)::r)=(if k=f then(k,v)::r else(k,x)::aR f v r)from rfl]
  by_cases hk:k=f
  ·rw[if_pos hk]
   by_cases h:g=k
   ·have hb:(g==k)=true:=eP.mpr h
    simp only[List.lookup,hb,if_pos (h.trans hk)]
   ·have hb:(g==k)=false:=jo.mpr h
    simp only[List.lookup,hb,if_neg (λe:g=f=>h (e.trans hk.symm))]
  ·rw[if_neg hk]
   by_cases h:g=k
   ·have hb:(g==k)=true:=eP.mpr h
    simp only[List.lookup,hb,if_neg (λe:g=f=>hk (h.symm.trans e))]
   ·have hb:(g==k)=false:=jo.mpr h
    simp only[List.lookup,hb];exact ih
theorem vM(f:Str)(v:V):∀fs:List (Str × V),f∈(aR f v fs).map (·.1)/\∀g,g∈fs.map (·.1)->g∈(aR f v fs).map (·.1)
 | []=>⟨by simp[aR],λg h=>by simp at h⟩
 | (k,x)::r=>by
  obtain⟨i1,i2⟩:=vM f v r;rw[show aR f v ((k,x)::r)=(if k=f then(k,v)::r else(k,x)::aR f v r)from rfl]
  by_cases hk:k=f
  ·rw[if_pos hk]
   subst hk;exact⟨by simp,λg h=>by simpa using h⟩
  ·rw[if_neg hk]
   refine⟨?_,λg h=>?_⟩
   ·rw[cH]
    exact bI _ i1
   ·rw[cH]at h ⊢
    rcases aP.mp h with e|e
    ·exact aP.mpr (.inl e)
    ·exact bI _ (i2 g e)
theorem la(f:Str)(v:V):∀fs:List (Str × V),(aR f v fs).length<=fs.length+1
 | []=>by simp[aR]
 | (k,x)::r=>by
  have ih:=la f v r;rw[show aR f v ((k,x)::r)=(if k=f then(k,v)::r else(k,x)::aR f v r)from rfl]
  by_cases hk:k=f
  ·rw[if_pos hk,fE,fE];omega
  ·rw[if_neg hk,fE,fE];omega
section
variable {P:Program} {w:World} {H H':Hp} {h h':Heap} {a C dx:Addr} {fs fs':List (Str × V)}
theorem B_(hok:aU P w H h)(e:H a=some (.ins C dx fs)):∃mA,mh h a dx C mA/\(∀f,gw (fs.lookup f) (mA f))/\PySem.Within mA (fs.map (·.1))/\fs.length<=1000/\H dx=some (.own a):=by
 obtain⟨d,z,ne,ob,mA,n,r,q⟩:=(show aN P w H h a (.ins C dx fs)from hok a _ e);exact⟨mA,⟨ob,n,ne⟩,r,q,z,d⟩
end
structure Cls (K:W.Frag) (C:Addr):Prop where
 pg:W.plainGet K C Str.empty=true
 hd:W.hasDictIn K C=true
 po:W.plainOver K C=true
 sa:W.findIn K (.ref C) "__setattr__" = some (some (.builtin "object.__setattr__"))
theorem Cls.get{K:W.Frag}{C:Addr}(c:Cls K C)(f:Str):W.plainGet K C f=true:=c.pg
noncomputable def gQ(K:W.Frag)(C:Addr)(f:Str):Prop:=W.findIn K (.ref C) f=some none
theorem gQ.taker{K:W.Frag}{C:Addr}{f:Str}(n:gQ K C f):W.takerIn K C f=some none:=by
 unfold W.takerIn;rw[show W.findIn K (.ref C) f=some none from n];rfl
section
variable {X:Cx} {pins:List (Addr × Obj)} {σ:St} {H:Hp} {s:Shared} {a C dx:Addr} {fs:List (Str × V)} {f:Str} {v:V} {A:Around} {E:Value->Shared->Prop}
theorem SF{y:V}{u:Value}{Q:Unit->Shared->Prop}(I:Inv X pins σ H s)(e:H a=some (.ins C dx fs))(c:Cls X.K C)(n:gQ X.K C f)(hl:fs.length<1000)(ry:RelV y u)(h:∀s',Inv X pins σ (upd H a (.ins C dx (aR f y fs))) s'->Q () s'):wpAny (model X.prog X.w) A (setAttr (.ref a) f u) Q E s:=by
 obtain⟨mA,O,r,wi,_,ho⟩:=B_ I.hok e;have hz:(fs.map (·.1)).length<=sizeLine:=by rw[ay,sizeLine_eq];omega
 refine Sw I.bM O c.sa c.po n.taker c.hd wi hz λh' O' sb=>h _ ?_;have hd:∃o,h'.get? dx=some o:=let⟨o,_,_,e',_⟩:=O'.ns;⟨o,e'⟩
 refine I.write (x:=a) (e:=dx) (by rw[e];exact True.intro) (.inr ho) (λb q hb z=>(sb.2 b hb).trans z) hd ?_;refine⟨by rw[ax O.ne];exact ho,?_,O.ne,O'.obj,_,O'.ns,λg=>?_,λg hg=>?_⟩
 ·have:=la f y fs;omega
 ·show gw ((aR f y fs).lookup g) (if g=f then some u else mA g)
  rw[Dh]
  by_cases q:g=f
  ·rw[if_pos q,if_pos q];exact ry
  ·rw[if_neg q,if_neg q];exact r g
 ·by_cases q:g=f
  ·rw[q];exact(vM f y fs).1
  ·refine(vM f y fs).2 g (wi g λz=>hg ?_)
   show(if g=f then some u else mA g)=none;rw[if_neg q];exact z
theorem Inv.made(I:Inv X pins σ H s):Inv X pins σ (upd (upd H s.heap.objs.size (.own (s.heap.objs.size+1))) (s.heap.objs.size+1) (.ins C s.heap.objs.size []))
  {s with heap:=(s.heap.push W.emptyDict).push (W.instObj C s.heap.objs.size)}:=by
 have e1:(s.heap.push W.emptyDict).get? s.heap.objs.size=some W.emptyDict:=aX s.heap rfl;have e2:((s.heap.push W.emptyDict).push (W.instObj C s.heap.objs.size)).get? (s.heap.objs.size+1)=some (W.instObj C s.heap.objs.size):=by
  have:=aX (s.heap.push W.emptyDict) (o:=W.instObj C s.heap.objs.size) rfl
  rwa [d6]at this
 have e3:(s.heap.push W.emptyDict).Ns s.heap.objs.size (λ_=>none):=⟨W.emptyDict,#[],_,e1,rfl,(λe he=>absurd he (by simp)),λ_=>rfl⟩;have I1:=I.laid (a:=s.heap.objs.size) (o:=.own (s.heap.objs.size+1)) (h':=s.heap.push W.emptyDict) (t':=s.toks) (λb u q=>aB _ q) (aC _) ⟨_,e1⟩;refine I1.laid (a:=s.heap.objs.size+1) (o:=.ins C s.heap.objs.size []) (t':=s.toks) (λb u q=>aB _ q) (lX (d6 _ _)) ?_;have ne:s.heap.objs.size≠s.heap.objs.size+1:=aY (l0 _);refine⟨by rw[ax ne,av],cA _,ne,e2,λ_=>none,(Heap.Ns1.of_empty e3).at λo q=>aB _ q,λ_=>True.intro,λy hy=>absurd rfl hy⟩
end
noncomputable def FJ(K:W.Frag)(ta tv:TE)(f:Str):TS:=λD σ H=>tv σ H λy H1=>ta σ H1 λx H2=>∃a C dx fs,x = .ref a/\H2 a=some (.ins C dx fs)/\Cls K C/\gQ K C f/\fs.length<1000 /\
 D.nx σ (upd H2 a (.ins C dx (aR f y fs)))
section
variable {X:Cx} {o e value:Expr} {f:Str} {pos pos' tpos:Pos} {ta tv:TE}
theorem Rg(ha:PE X o ta)(hv:PE X value tv)(hs:swapsWith value (some (.Attribute o f pos')) pos.line X.env=pure false):PS X (.Assign [.Attribute o f pos'] value pos) (FJ X.K ta tv f):=by
 intro pins s σ H D I h;refine plainObj_wpAny_Assign_Attribute (au (hv pins s σ H _ I h) λu s1 ⟨y,H1,I1,ry,q⟩=>au (ha pins s1 σ H1 _ I1 q) λov s2 ⟨x,H2,I2,rx,a,C,dx,fs,ex,ea,c,n,l,q2⟩=>?_) hs;subst ex;obtain rfl:ov=Value.ref a:=rx;exact SF I2 ea c n l ry λs3 I3=>⟨σ,_,I3,q2⟩
end
section
variable {X:Cx} {pins:List (Addr × Obj)} {σ:St} {H:Hp} {s:Shared} {A:Around} {E:Value->Shared->Prop} {Q:Value->Shared->Prop} {c:Value} {b:Bool}
inductive d9 (K:W.Frag) (H:Hp):V->Value->Prop where
 |non:d9 K H .non (.type "NoneType")
 |bl (x:Bool):d9 K H (.bl x) (.type "bool")
 |int (i:Int):d9 K H (.int i) (.type "int")
 |str (x:Str):d9 K H (.str x) (.type "str")
 |flt (x:UInt64):d9 K H (.flt x) (.type "float")
 |lst {a:Addr} {xs:List V} (e:H a=some (.lst xs)):d9 K H (.ref a) (.type "list")
 |bY {a:Addr} {o:Obj} {xs:List V} (e:H a=some (.bY o (.lst xs))):d9 K H (.ref a) (.type "list")
 |tup {a:Addr} {xs:List V} (e:H a=some (.tup xs)):d9 K H (.ref a) (.type "tuple")
 |dK {a:Addr} {kvs:List (Key × V)} (e:H a=some (.dK kvs)):d9 K H (.ref a) (.type "dict")
 |dT {a:Addr} {kvs:List (List Key × V)} (e:H a=some (.dT kvs)):d9 K H (.ref a) (.type "dict")
 |ins {a C dx:Addr} {fs:List (Str × V)} (e:H a=some (.ins C dx fs)) (cl:Cls K C) (ha:W.findIn K (.ref C) "__class__" = some (some (.builtin "object.__class__")))
   (hn:W.specialIn K (.builtin "object.__class__") "__get__" = some (some (.builtin "getset_descriptor.__get__"))) (htk:W.takesIn K (.builtin "object.__class__")=some true)
   (hm:W.mroIn K C (.type "object")=some true):d9 K H (.ref a) (.ref C)
theorem NT{x:V}{u t:Value}(I:Inv X pins σ H s)(rx:RelV x u)(ty:d9 X.K H x t)(e:W.kitOne X.K t c=some b)(h:∀tk,Q (.bool b) {s with toks:=tk}):
  wpAny (model X.prog X.w) A (call (.builtin "isinstance") [u,c]) Q E s:=by
 cases ty with
 |non=>cases(show u=Value.none from rx);exact W.kia_one W.kitx_none I.bM True.intro e (λz=>nomatch z) h
 |bl y=>cases(show u=Value.bool y from rx);exact W.kia_one W.kitx_bool I.bM True.intro e (λz=>nomatch z) h
 |int i=>obtain⟨t,q⟩:=(show ∃t,u=Value.int i t from rx);cases q;exact W.kia_one W.kitx_int I.bM True.intro e (λz=>nomatch z) h
 |str y=>obtain⟨t,q⟩:=(show ∃t,u=Value.str y t from rx);cases q;exact W.kia_one W.kitx_str I.bM True.intro e (λz=>nomatch z) h
 |flt y=>obtain⟨t,q⟩:=(show ∃t,u=Value.float y t from rx);cases q;exact W.kia_one W.kitx_float I.bM True.intro e (λz=>nomatch z) h
 | @lst a xs ea =>
  cases(show u=Value.ref a from rx);obtain⟨_,_,n,_,h1⟩:=(show aN X.prog X.w H s.heap a (.lst xs)from I.hok a _ ea);exact W.kia_one W.kitx_list I.bM ⟨_,h1,rfl⟩ e (λz=>nomatch z) h
 | @bY a ob xs ea =>
  cases(show u=Value.ref a from rx);obtain⟨_,_,_,n,_,h1⟩:=(show aN X.prog X.w H s.heap a (.bY ob (.lst xs))from I.hok a _ ea);exact W.kia_one W.kitx_list I.bM ⟨_,h1,rfl⟩ e (λz=>nomatch z) h
 | @tup a xs ea =>
  cases(show u=Value.ref a from rx);obtain⟨_,_,_,p,_⟩:=(show aN X.prog X.w H s.heap a (.tup xs)from I.hok a _ ea);obtain⟨o,h1,h2,_⟩:=p;exact W.kia_one W.kitx_tuple I.bM ⟨o,h1,h2⟩ e (λz=>nomatch z) h
 | @dK a kvs ea =>
  cases(show u=Value.ref a from rx);obtain⟨_,_,vs,_,p⟩:=(show aN X.prog X.w H s.heap a (.dK kvs)from I.hok a _ ea);obtain⟨o,es,ep,h1,h2,_⟩:=p;exact W.kia_one W.kitx_dict I.bM ⟨o,h1,h2.1⟩ e (λz=>nomatch z) h
 | @dT a kvs ea =>
  cases(show u=Value.ref a from rx);obtain⟨_,_,xs,_,o,es,ep,h1,h2,_⟩:=(show aN X.prog X.w H s.heap a (.dT kvs)from I.hok a _ ea);exact W.kia_one W.kitx_dict I.bM ⟨o,h1,h2.1⟩ e (λz=>nomatch z) h
 | @ins a C dx fs ea cl ha hn htk hm =>
  cases(show u=Value.ref a from rx);obtain⟨mA,O,_⟩:=B_ I.hok ea;obtain⟨od,J,_⟩:=O.look;exact W.kia_one (W.kitx_own (cl.get _) cl.hd ha hn htk hm) I.bM J e (λz=>nomatch z) h
end
structure aV (k:Nat) (A:Around):Prop where
 hd:A.handled=none
 dp:A.depth+3*k+5<recursionLimit
 un:A.units+16*k+200<cLine
 gd:A.guards=some []
theorem aV.mono{j k:Nat}{A:Around}(r:aV k A)(h:j<=k):aV j A:=⟨r.hd,by have:=r.dp;omega,by have:=r.un;omega,r.gd⟩
theorem aV.deeper{k:Nat}{A:Around}(r:aV (k+1) A)(env:Env):aV k (A.deeper env):=
 ⟨r.hd,by have:=r.dp;show A.depth+1+3*k+5<_;omega,by have:=r.un;show A.units+3+16*k+200<_;omega,r.gd⟩
theorem O2 {A:Around} {C:Addr} {us:List Value} {kw:List (Str × Value)}:(A.under (.builtin "type.__call__" ⟨.ref C::us,kw⟩)).depth=A.depth+1:=by
 first|rfl|simp[Around.under,Code.weight,Code.isCreation,Code.isGuard,Code.isCaller,Code.frames,Code.isFrame,guardIds]
theorem O6 {A:Around} {C:Addr} {us:List Value} {kw:List (Str × Value)}:(A.under (.builtin "type.__call__" ⟨.ref C::us,kw⟩)).units=A.units+1:=by
 first|rfl|simp[Around.under,Code.cUnits,Code.frames,Code.isFrame]
theorem O4 {A:Around} {C:Addr} {us:List Value} {kw:List (Str × Value)}:(A.under (.builtin "type.__call__" ⟨.ref C::us,kw⟩)).guards=A.guards:=by
 first|rfl | (cases h:A.guards<;>simp[Around.under,Code.guards,pushGuards,Code.isGuard,guardIds,h])
theorem aV.make {k:Nat} {A:Around} (r:aV (k+1) A) (C:Addr) (us:List Value) (kw:List (Str × Value)):aV k (A.under (.builtin "type.__call__" ⟨.ref C::us,kw⟩)):=
 ⟨r.hd,by have:=r.dp;rw[O2];omega,by have:=r.un;rw[O6];omega,by rw[O4];exact r.gd⟩
theorem aV.depth{k:Nat}{A:Around}(r:aV k A):A.depth<recursionLimit:=by have:=r.dp;omega
theorem aV.units{k:Nat}{A:Around}(r:aV k A):A.units+64<cLine:=by have:=r.un;omega
noncomputable def sy:TA:=λ_ H Q=>Q [] H
noncomputable def jU(ta:TE)(tr:TA):TA:=λσ H Q=>ta σ H λx H1=>tr σ H1 λxs H2=>Q (x::xs) H2
section
variable {X:Cx} {e:Expr} {es:List Expr} {te:TE} {t:TA} {pos:Pos}
theorem ai:PA X [] sy:=λ_ _ _ _ H Q I h=>Calls.spliced_nil ⟨[],H,I,.nil,h⟩
theorem ag(ha:PE X e te)(hr:PA X es t)(hs:starEach (e::es) X.env=(false,eval e X.env)::starEach es X.env:=by rfl):PA X (e::es) (jU te t):=by
 intro pos pins s σ H Q I h;rw[hs];show wpAny _ _ (spliced ((false,eval e X.env)::backTo pos (starEach es X.env))) _ _ s;refine Calls.spliced_cons (au (ha pins s σ H _ I h) λu s1 ⟨x,H1,I1,r1,q1⟩=>?_);exact au (hr pos pins s1 σ H1 _ I1 q1) λus s2 ⟨xs,H2,I2,r2,q2⟩=>⟨x::xs,H2,I2,.cons r1 r2,q2⟩
noncomputable def Uk(t:TA):TE:=λσ H Q=>t σ H λxs H1=>xs.length<=sizeLine/\∀p,H1 p=none->Q (.ref p) (upd H1 p (.tup xs))
noncomputable def T2(t:TA):TE:=λσ H Q=>t σ H λxs H1=>xs.length<=sizeLine/\∀p,H1 p=none->Q (.ref p) (upd H1 p (.lst xs))
theorem oa{x1}(h:PA X es t):PE X (.Tuple es x1 pos) (Uk t):=by
 intro pins s σ H Q I hq;refine wpAny_Tuple_spliced (au (h pos pins s σ H _ I hq) λus s1 ⟨xs,H1,I1,r,z,q⟩=>⟨by rw[<- r.length];exact z,?_⟩);have hf:H1 s1.heap.objs.size=none:=I1.hok.fresh (aC _);refine⟨.ref s1.heap.objs.size,upd H1 s1.heap.objs.size (.tup xs),I1.laid (t':=s1.toks) (λb u e=>aB _ e) (aC _) ?_,rfl,q _ hf⟩;exact⟨z,us,r,⟨_,aX _ rfl,rfl,_,rfl⟩,_,aX _ rfl,rfl⟩
theorem c6(h:PA X es t):PE X (.List es pos) (T2 t):=by
 intro pins s σ H Q I hq;refine wpAny_List_spliced (au (h pos pins s σ H _ I hq) λus s1 ⟨xs,H1,I1,r,z,q⟩=>⟨by rw[<- r.length];exact z,?_⟩);have hf:H1 s1.heap.objs.size=none:=I1.hok.fresh (aC _);refine⟨.ref s1.heap.objs.size,upd H1 s1.heap.objs.size (.lst xs),I1.laid (t':=s1.toks) (λb u e=>aB _ e) (aC _) ?_,rfl,q _ hf⟩;exact⟨z,us,0,r,aX _ rfl⟩
end
abbrev Sp:=List V->Hp->VK->XK->Prop
abbrev eD:=List Env->Hp->Shared->XK->Value->Shared->Prop
structure eG (P:Program) (w:World) (K:W.Frag) (mg:Str->Option Value) (base:Heap) (A:Around) (outer:List Env) (s:Shared) (H:Hp):Prop where
 frames:A.frames=some outer
 mod:Mod K mg base
 bs:∀b o,base.get? b=some o->s.heap.get? b=some o/\H b=none
 dB:base.objs.size<=s.heap.objs.size
 bZ:s.heap.FunFrames base outer
 eQ:∀b∈frs outer,H b=none
 hok:aU P w H s.heap
 bare:AllBare s.gens
noncomputable def CE(outer:List Env)(P:Program)(w:World)(H:Hp)(s:Shared)(Q:VK)(u:Value)(s':Shared):Prop:=
 ∃v H',s'.os=s.os/\AllBare s'.gens/\Un (frs outer) [] H H' s.heap s'.heap/\aU P w H' s'.heap/\RelV v u/\Q v H'
noncomputable def CR(CX:eD)(outer:List Env)(P:Program)(w:World)(H:Hp)(s:Shared)(Q:VK)(E:XK)(r:Result)(s':Shared):Prop:=
 match r with
 |.ok (.ret u)=>CE outer P w H s Q u s'
 |.ok _=>False
 |.error e=>CX outer H s E e s'
structure aL (P:Program) (w:World) (K:W.Frag) (mg:Str->Option Value) (base:Heap) (CX:eD) (k:Nat) (f:Addr) (fd:FuncData) (ps:List Str) (sp:Sp):Prop where
 len:∀vs H Q E,sp vs H Q E->vs.length=ps.length
 run:∀(A:Around) (outer:List Env) (s:Shared) (H:Hp) (args:Args) (us:List Value) (vs:List V) (Q:VK) (E:XK),aV k A->eG P w K mg base A outer s H->BindsTo s fd args (ps.zip us)->Vals vs us->sp vs H Q E ->
  codeAny (model P w) A (.call (.ref f) args) (CR CX outer P w H s Q E) s
theorem aL.mono{P:Program}{w:World}{K:W.Frag}{mg:Str->Option Value}{base:Heap}{CX:eD}{j k:Nat}{f:Addr}{fd:FuncData}{ps:List Str}{sp:Sp}(F:aL P w K mg base CX j f fd ps sp)(h:j<=k):aL P w K mg base CX k f fd ps sp:=⟨F.len,λA outer s H args us vs Q E hr=>F.run A outer s H args us vs Q E (hr.mono h)⟩
theorem eG.make{P:Program}{w:World}{K:W.Frag}{mg:Str->Option Value}{base:Heap}{A:Around}{outer:List Env}{s:Shared}{H:Hp}(e:eG P w K mg base A outer s H)(C:Addr)(us:List Value)(kw:List (Str × Value)):
  eG P w K mg base (A.under (.builtin "type.__call__" ⟨.ref C::us,kw⟩)) outer s H:=⟨by first|exact e.frames | (simpa[Around.under,Code.envs,Code.isFrame,pushEnvs]using e.frames),e.mod,e.bs,e.dB,e.bZ,e.eQ,e.hok,e.bare⟩
section
variable {X:Cx} {pins:List (Addr × Obj)} {σ:St} {H:Hp} {s s':Shared}
theorem Inv.env0(I:Inv X pins σ H s):eG X.prog X.w X.K X.mg X.base X.A X.stack s H:=
 ⟨I.ok.frames,I.ok.mod,I.bs,cy I.ok.dB I.sz,I.stack,I.jT,I.hok,I.bare⟩
theorem Inv.after{Q:VK}{u:Value}(I:Inv X pins σ H s)(h:CE X.stack X.prog X.w H s Q u s'):EP X pins σ Q u s':=by
 obtain⟨v,H',os,bare,un,hok,r,q⟩:=h;obtain⟨hh,g,d,t,os'⟩:=s';obtain rfl:os'=s.os:=os;exact⟨v,H',I.call (h':=hh) (g':=g) (d':=d) (t':=t) (ch:=[]) un hok bare (λb z=>absurd z (by simp)),r,q⟩
end
noncomputable def xP(sp:Sp)(dJ:List V)(E:XK)(t:TA):TE:=λσ H Q=>t σ H λvs H1=>sp (vs++dJ) H1 Q E
noncomputable def Hf(C:Addr)(sp:Sp)(dJ:List V)(E:XK)(t:TA):TE:=λσ H Q=>t σ H λvs H1=>∀x dx,H1 x=none->H1 dx=none->dx≠x ->
 sp (.ref x::(vs++dJ)) (upd (upd H1 dx (.own x)) x (.ins C dx [])) (λv H2=>v = .non/\Q (.ref x) H2) E
noncomputable def Binds(K:W.Frag)(fd:FuncData)(ps:List Str)(ds:List Value):Prop:=
 ∀(s:Shared) (us:List Value),K.In s.heap->(us++ds).length=ps.length->BindsTo s fd ⟨us,[]⟩ (ps.zip (us++ds))
theorem Binds.all{K:W.Frag}{fd:FuncData}{ps:List Str}(h:∀us:List Value,us.length=ps.length->bindArgs fd ⟨us,[]⟩=pure (ps.zip us)):Binds K fd ps []:=λs us _ hl=>by
 rw[j5]at hl ⊢;exact .of_eq (h us hl)
noncomputable def Passes(CX:eD)(X:Cx)(E:XK):Prop:=∀(pins:List (Addr × Obj)) (σ:St) (H:Hp) (s:Shared) (e:Value) (s':Shared),Inv X pins σ H s->CX X.stack H s E e s'->X.xe e s'
section
variable {X:Cx} {CX:eD} {k:Nat} {f C:Addr} {fd:FuncData} {ps:List Str} {sp:Sp} {dJ:List V} {ds:List Value} {E:XK} {x m:Str} {p pos apos:Pos} {e o:Expr} {es:List Expr} {ta:TE} {t:TA}
theorem R9{pins:List (Addr × Obj)}{σ:St}{H:Hp}{s:Shared}{Q:VK}{us:List Value}{vs:List V}(F:aL X.prog X.w X.K X.mg X.base CX k f fd ps sp)(hr:aV k X.A)(hb:Binds X.K fd ps ds)(hd:Vals dJ ds)(hx:Passes CX X E)(I:Inv X pins σ H s)(r:Vals vs us)(h:sp (vs++dJ) H Q E):wpAny (model X.prog X.w) X.A (call (.ref f) us) (EP X pins σ Q) X.xe s:=by
 have r2:Vals (vs++dJ) (us++ds):=r.append hd;have hl:(us++ds).length=ps.length:=by rw[<- r2.length];exact F.len _ _ _ _ h
 refine iL (eL (F.run X.A X.stack s H ⟨us,[]⟩ (us++ds) (vs++dJ) Q E hr I.env0 (hb s us I.bM hl) r2 h) λr s' hq=>?_);cases r with
 |error e=>exact hx pins σ H s e s' I hq
 |ok fl =>
  cases fl with
  |ret u=>exact I.after hq
  |next=>exact False.elim hq
  |brk=>exact False.elim hq
  |cont=>exact False.elim hq
theorem Fc(F:aL X.prog X.w X.K X.mg X.base CX k f fd ps sp)(hr:aV k X.A)(hg:Gl X x)(hm:X.mg x=some (.ref f))(hk:W.keepIn X.K (.ref f)=true)(hb:Binds X.K fd ps ds)(hd:Vals dJ ds)(hx:Passes CX X E)
  (ha:PA X (e::es) t) (hdb:(x==("__debug__" : Str))=false:=by decide) (he:starEach (e::es) X.env=(false,eval e X.env)::starEach es X.env:=by rfl) (hpl:(backTo pos (starEach es X.env)).any (·.1)=false:=by rfl) :
  PE X (.Call (.Name x p) (e::es) [] pos) (xP sp dJ E t):=by
 intro pins s σ H Q I h;refine iK (jG I hg hm ?_ hdb);refine W.callWith_K (h₀:=X.base) I.ok.mod.ik hk (au (ha pos pins s σ H _ I h) λus s1 ⟨vs,H1,I1,r,q⟩=>⟨I1.bM,?_⟩) he hpl;exact R9 F hr hb hd hx I1 r q
structure Mk (K:W.Frag) (C f:Addr):Prop where
 makes:W.makesIn K C=true
 init:W.findIn K (.ref C) "__init__" = some (some (.ref f))
 fn:W.isFn K (.ref f)=true
 kp:W.keepIn K (.ref C)=true
theorem R_{pins:List (Addr × Obj)}{σ:St}{H:Hp}{s:Shared}{Q:VK}{us:List Value}{vs:List V}(M:Mk X.K C f)(F:aL X.prog X.w X.K X.mg X.base CX k f fd ps sp)(hr:aV (k+1) X.A)(hb:Binds X.K fd ps ds)(hd:Vals dJ ds)(hx:Passes CX X E)(I:Inv X pins σ H s)(r:Vals vs us)(h:∀x dx,H x=none->H dx=none->dx≠x->sp (.ref x::(vs++dJ)) (upd (upd H dx (.own x)) x (.ins C dx [])) (λv H2=>v = .non/\Q (.ref x) H2) E):wpAny (model X.prog X.w) X.A (call (.ref C) us) (EP X pins σ Q) X.xe s:=by
 have hq:=h (s.heap.objs.size+1) s.heap.objs.size (I.hok.fresh (lY _)) (I.hok.fresh (aC _)) (aY (l0 _));have I2:=Inv.made (C:=C) I;have r2:Vals (V.ref (s.heap.objs.size+1)::(vs++dJ)) (Value.ref (s.heap.objs.size+1)::(us++ds)):=.cons rfl (r.append hd);have hl:(Value.ref (s.heap.objs.size+1)::us++ds).length=ps.length:=by
  have e:=r2.length;rw[F.len _ _ _ _ hq]at e;exact e.symm
 refine iL (O5 (f:=f) I.bM M.makes M.init (eP.mp M.fn) (eL (F.run _ X.stack _ _ ⟨Value.ref (s.heap.objs.size+1)::us,[]⟩ (Value.ref (s.heap.objs.size+1)::(us++ds)) _ _ E (hr.make C us [])
  (I2.env0.make C us []) (hb _ (Value.ref (s.heap.objs.size+1)::us) I2.bM hl) r2 hq) λr s' hq'=>?_))
 cases r with
 |error e=>exact hx pins σ _ _ e s' I2 hq'
 |ok fl =>
  cases fl with
  |ret u =>
   obtain⟨v,H',I3,rv,ev,q3⟩:=I2.after hq';subst ev;exact⟨rv,⟨V.ref (s.heap.objs.size+1),H',I3,rfl,q3⟩⟩
  |next=>exact False.elim hq'
  |brk=>exact False.elim hq'
  |cont=>exact False.elim hq'
theorem QQ(M:Mk X.K C f)(F:aL X.prog X.w X.K X.mg X.base CX k f fd ps sp)(hr:aV (k+1) X.A)(hg:Gl X x)(hm:X.mg x=some (.ref C))(hb:Binds X.K fd ps ds)(hd:Vals dJ ds)(hx:Passes CX X E)
  (ha:PA X (e::es) t) (hdb:(x==("__debug__" : Str))=false:=by decide) (he:starEach (e::es) X.env=(false,eval e X.env)::starEach es X.env:=by rfl) (hpl:(backTo pos (starEach es X.env)).any (·.1)=false:=by rfl) :
  PE X (.Call (.Name x p) (e::es) [] pos) (Hf C sp dJ E t):=by
 intro pins s σ H Q I h;refine iK (jG I hg hm ?_ hdb);refine W.callWith_K (h₀:=X.base) I.ok.mod.ik M.kp (au (ha pos pins s σ H _ I h) λus s1 ⟨vs,H1,I1,r,q⟩=>⟨I1.bM,?_⟩) he hpl;exact R_ M F hr hb hd hx I1 r q
end
section
variable {X:Cx} {CX:eD} {k:Nat} {f C:Addr} {fd:FuncData} {ps ks:List Str} {sp:Sp} {E:XK} {x m:Str} {p pos apos kpos:Pos} {e o:Expr} {es:List Expr} {kws:List Keyword} {te ta:TE} {t tk:TA} {nm:Option Str}
variable {g:List Value->List Value->List Value} {gV:List V->List V->List V}
end
structure bf (N P:List Str) (sc:Scope):Prop where
 kind:sc.kind = .function
 co:sc.isCoroutine=false
 gen:sc.isGenerator=false
 nd:N.Nodup
 pre:N.take P.length=P
 par:∀x∈P,sc.names.lookup x=some .local\/sc.names.lookup x=some .cell
 DQ:∀y∈sc.names,y.2≠.free
theorem zJ{kindOf:Str->Option NameKind}{x:Str}:∀{binds:List (Str × Value)} {m:Str->Option Value},(∀v,(x,v) ∉ binds)->bindL kindOf binds m x=m x
 | [],_,_=>rfl
 | (n,v)::r,m,h=>by
  unfold bindL;rw[zJ λw hw=>h w (bI _ hw)]
  split
  ·have:x≠n:=by rintro rfl;exact h v bO
   simp[this]
  ·rfl
theorem zH{kindOf:Str->Option NameKind}{x:Str}:∀{binds:List (Str × Value)} {m:Str->Option Value},(∀v,(x,v) ∉ binds)->bindC kindOf binds m x=m x
 | [],_,_=>rfl
 | (n,v)::r,m,h=>by
  unfold bindC;rw[zH λw hw=>h w (bI _ hw)]
  split
  ·rfl
  ·have:x≠n:=by rintro rfl;exact h v bO
   simp[this]
theorem zI{kindOf:Str->Option NameKind}{x:Str}{v:Value}:∀{P:List Str} {vs:List Value} {i:Nat} {m:Str->Option Value},P.Nodup->P[i]?=some x->vs[i]?=some v->kindOf x=some .local->bindL kindOf (P.zip vs) m x=some v
 | [],_,_,_,_,h,_,_=>by simp at h
 |_::_,[],_,_,_,_,h,_=>by simp at h
 |p::P,w::vs,0,m,nd,h1,h2,hk=>by
  simp at h1 h2;subst h1;subst h2;show bindL kindOf ((p,w)::P.zip vs) m p=_;unfold bindL;rw[zJ λv hv=>(gO.mp nd).1 (oZ hv).1,if_pos hk];simp
 |p::P,w::vs,i+1,m,nd,h1,h2,hk=>by
  show bindL kindOf ((p,w)::P.zip vs) m x=_;unfold bindL;exact zI (i:=i) (gO.mp nd).2 (by simpa using h1) (by simpa using h2) hk
theorem zG{kindOf:Str->Option NameKind}{x:Str}{v:Value}:∀{P:List Str} {vs:List Value} {i:Nat} {m:Str->Option Value},P.Nodup->P[i]?=some x->vs[i]?=some v->kindOf x≠some .local->bindC kindOf (P.zip vs) m x=some v
 | [],_,_,_,_,h,_,_=>by simp at h
 |_::_,[],_,_,_,_,h,_=>by simp at h
 |p::P,w::vs,0,m,nd,h1,h2,hk=>by
  simp at h1 h2;subst h1;subst h2;show bindC kindOf ((p,w)::P.zip vs) m p=_;unfold bindC;rw[zH λv hv=>(gO.mp nd).1 (oZ hv).1,if_neg hk];simp
 |p::P,w::vs,i+1,m,nd,h1,h2,hk=>by
  show bindC kindOf ((p,w)::P.zip vs) m x=_;unfold bindC;exact zG (i:=i) (gO.mp nd).2 (by simpa using h1) (by simpa using h2) hk
noncomputable def start(N:List Str)(vs:List V):St:=vs.map some++List.replicate (N.length - vs.length) none
noncomputable def bu(CX:eD)(P:Program)(w:World)(K:W.Frag)(mg:Str->Option Value)(base:Heap)(N:List Str)(qual:Str)(scope:Scope)(f:Addr)(cd:Value)(A:Around)(outer:List Env)(s:Shared)(H:Hp)(E:XK):Cx where
 prog:=P
 w:=w
 K:=K
 mg:=mg
 base:=base
 A:=A.deeper (envOfC qual scope s.heap.objs.size f cd)
 N:=N
 s₀:=s
 H₀:=H
 env:=envOfC qual scope s.heap.objs.size f cd
 outer:=outer
 stack:=envOfC qual scope s.heap.objs.size f cd::outer
 ex:=[]
 calm:=true
 fn:=λ_=>true
 pn:=[]
 xe:=λe s'=>wpAny (model P w) (A.deeper (envOfC qual scope s.heap.objs.size f cd)) (leaving (envOfC qual scope s.heap.objs.size f cd) e) (λ_ s''=>CX outer H s E e s'') (λe' s''=>CX outer H s E e' s'') s'
theorem zQ{sc:Scope}{n:Nat}{x:Str}(h:sc.names.lookup x=some .cell):∃c,(cellsFrom n sc.names []).lookup x=some c:=by
 have q:=W.cellsFrom_some sc.names n [] (.inl h);exact Option.isSome_iff_exists.mp q
theorem Ci{CX:eD}{P:Program}{w:World}{K:W.Frag}{mg:Str->Option Value}{base:Heap}{N ps:List Str}{qual:Str}{scope:Scope}{f:Addr}{cd:Value}{A:Around}{outer:List Env}{s s1:Shared}{H:Hp}{E:XK}{us:List Value}{vs:List V}(S:bf N ps scope)(hd:A.handled=none)(e0:eG P w K mg base A outer s H)(hl:vs.length=ps.length)(r:Vals vs us)(x:InCallC s s.heap.objs.size (bindL (envOfC qual scope s.heap.objs.size f cd).kindOf (ps.zip us) λ_=>none) (cellsFrom (s.heap.objs.size+1) scope.names []) (bindC (envOfC qual scope s.heap.objs.size f cd).kindOf (ps.zip us) λ_=>none) s1):Inv (bu CX P w K mg base N qual scope f cd A outer s H E) [] (start N vs) H s1:=by
 have hpl:ps.length<=N.length:=by have:=congrArg List.length S.pre;rw[oW]at this;omega
 obtain⟨h1,tk,rfl,hk⟩:=x.done;have iu:∀b:Addr,b ∉ (bu CX P w K mg base N qual scope f cd A outer s H E).ex:=λb z=>absurd (show b∈([]:List Addr)from z) (by simp);refine⟨⟨e0.mod,S.kind,rfl,rfl,aC _,λy z c h1 h2=>?_,λy hy=>?_,λy c _ h=>?_,λ_=>hd,Around.frames_deeper e0.frames,.inr ⟨rfl,rfl⟩,λb z=>absurd z (iu b),e0.bs,e0.dB,λb _ _=>iu b,λb z=>absurd z (iu b),e0.bZ,e0.eQ⟩,
  rfl,e0.bare,Un.kept hk,⟨_,x.toInCall.ns,λi y v h1 h2 h3=>?_⟩,λy c h=>⟨_,x.cell y c h⟩,e0.hok.fresh (aC _),λy c h=>?_,λp hp=>absurd (show p∈([]:List (Addr × Obj))from hp) (by simp),e0.hok.kept hk,?_⟩
 ·exact name_of_addr x.apart (gq h1) (gq h2)
 ·have hy:scope.names.lookup y=some .cell\/scope.names.lookup y=some .free:=hy
  rcases hy with hy|hy
  ·exact zQ hy
  ·exact absurd rfl (S.DQ _ (gq hy))
 ·exact eJ (x.above y c (gq h))
 ·have hi:i<vs.length:=by
   unfold start at h2
   by_cases hi:i<vs.length
   ·exact hi
   ·rw[jh (by simpa using hi)]at h2
    rw[yw]at h2
    split at h2<;>cases h2
  have ha:vs[i]?=some v:=by
   unfold start at h2;rw[j6 (by simpa using hi),bT]at h2;cases e:vs[i]? with
   |none=>rw[e]at h2;cases h2
   |some a=>rw[e]at h2;cases h2;rfl
  obtain⟨u,hu,rv⟩:=r.get ha;have hp:ps[i]?=some y:=by
   rw[<- S.pre,Ih (by omega)];exact h1
  have Dw:ps.Nodup:=by rw[<- S.pre];exact S.nd.sublist (List.take_sublist _ _)
  refine⟨u,rv,?_⟩
  rcases S.par y (cX hp)with k|k
  ·exact .inl ⟨k,zI Dw hp hu k⟩
  ·obtain⟨c,e⟩:=zQ (n:=s.heap.objs.size+1) k
   refine .inr ⟨.inl k,c,e,?_⟩;have q:=x.cell y c e;rw[zG Dw hp hu (by show scope.names.lookup y≠_;rw[k];decide)]at q;exact q
 ·exact e0.hok.fresh (eJ (x.above y c (gq h)))
 ·unfold start
  show _=N.length;rw[dm,ay,yz];omega
theorem vb{CX:eD}{P:Program}{w:World}{K:W.Frag}{mg:Str->Option Value}{base:Heap}{k:Nat}{f:Addr}{name qual:Str}{params:Arguments}{body:List Stmt}{scope:Scope}{dV kV doc pm cdv ct oc:Value}{an od:Option Addr}
  {osl:Array (Option Value)} {N ps:List Str} {sp:Sp} (lk:K.lookup f=some ⟨oc,od,.func (W.fnOf name qual params body scope dV kV doc pm an cdv ct),osl⟩) (hcd:W.codeIn K cdv qual=true) (S:bf N ps scope)
  (len:∀vs H Q E,sp vs H Q E->vs.length=ps.length)
  (hbody:∀(A:Around) (outer:List Env) (s:Shared) (H:Hp) (vs:List V) (Q:VK) (E:XK),aV k (A.deeper (envOfC qual scope s.heap.objs.size f cdv))->sp vs H Q E ->
   ∃t,cB (bu CX P w K mg base N qual scope f cdv A outer s H E) body t/\t {nx:=λ_ H'=>Q .non H',rt:=Q} (start N vs) H) :
  aL P w K mg base CX (k+1) f (W.fnOf name qual params body scope dV kV doc pm an cdv ct) ps sp:=by
 refine⟨len,λA outer s H args us vs Q E hr e0 hb r hsp=>?_⟩;have hl:=len _ _ _ _ hsp;have KX:K.In s.heap:=e0.mod.ik.keeps λb o e=>(e0.bs b o e).1;have lim:s.heap.NoLimit:=e0.mod.nolimit.keeps λb o e=>(e0.bs b o e).1;have hkind:∀y∈ps.zip us,scope.names.lookup y.1=some .local\/(scope.names.lookup y.1=some .cell/\((cellsFrom (s.heap.objs.size+1) scope.names []).lookup y.1).isSome=true):=λ⟨n,v⟩ hy=>by
  rcases S.par n (oZ hy).1 with q|q
  ·exact .inl q
  ·exact .inr ⟨q,W.cellsFrom_some _ _ _ (.inl q)⟩
 refine codeAny_call_function hr.depth (KX _ _ lk) rfl S.co S.gen rfl (W.codeRec_of KX hcd) (hb _ _ _ _ ?_);refine wpAny_newFunctionEnv_cells S.kind hkind λenv he s1 x=>?_;subst he;refine⟨lim.keeps x.toInCall.keep,codeAny_func ?_⟩;obtain⟨t,ht,hq⟩:=hbody A outer s H vs Q E (hr.deeper _) hsp;have I:Inv (bu CX P w K mg base N qual scope f cdv A outer s H E) [] (start N vs) H s1:=Ci S hr.hd e0 hl r x;refine dg (ht [] s1 (start N vs) H _ I hq) (λfl s' hs=>?_) λe s' hs=>hs;have fin:∀{σ':St} {H':Hp} {v:V} {u:Value},Inv (bu CX P w K mg base N qual scope f cdv A outer s H E) [] σ' H' s'->RelV v u->Q v H'->CE outer P w H s Q u s':=
  λ{σ' H' v u} J rv q=>⟨v,H',J.os,J.bare,J.base,J.hok,rv,q⟩
 cases fl with
 |ret u =>
  obtain⟨v,σ',H',J,rv,q⟩:=hs;exact fin J rv q
 |next =>
  obtain⟨σ',H',J,q⟩:=hs;exact fin (v:=V.non) (u:=Value.none) J rfl q
 |brk =>
  obtain⟨_,_,_,q⟩:=hs;exact False.elim q
 |cont =>
  obtain⟨_,_,_,q⟩:=hs;exact False.elim q
section
variable {X:Cx} {x:Str} {p pos:Pos} {e:Expr} {es:List Expr} {t:TA} {id T:String} {r:List V->Hp->VK->Prop}
noncomputable def G_(r:List V->Hp->VK->Prop)(t:TA):TE:=λσ H Q=>t σ H λvs H1=>r vs H1 Q
theorem bB (hc:da X (.builtin id) r) (hg:Gl X x) (hm:X.mg x=none) (hv:bootBuiltins x=some (.builtin id)) (ha:PA X (e::es) t) (hn:x ≠ "__name__" :=by decide) (hdb:(x==("__debug__" : Str))=false:=by decide)
  (he:starEach (e::es) X.env=(false,eval e X.env)::starEach es X.env:=by rfl) (hpl:(backTo pos (starEach es X.env)).any (·.1)=false:=by rfl):PE X (.Call (.Name x p) (e::es) [] pos) (G_ r t):=by
 intro pins s σ H Q I h;refine iK (il I hg hm hv ?_ hn hdb);exact PyProof.Rows.callWith_builtin1 (au (ha pos pins s σ H _ I h) λus s1 ⟨vs,H1,I1,r1,q1⟩=>hc pins s1 σ H1 vs us Q I1 r1 q1) he hpl
theorem eW (hc:da X (.type T) r) (hg:Gl X x) (hm:X.mg x=none) (hv:bootBuiltins x=some (.type T)) (ha:PA X (e::es) t) (hn:x ≠ "__name__" :=by decide) (hdb:(x==("__debug__" : Str))=false:=by decide)
  (he:starEach (e::es) X.env=(false,eval e X.env)::starEach es X.env:=by rfl) (hpl:(backTo pos (starEach es X.env)).any (·.1)=false:=by rfl):PE X (.Call (.Name x p) (e::es) [] pos) (G_ r t):=by
 intro pins s σ H Q I h;refine iK (il I hg hm hv ?_ hn hdb);exact mq (au (ha pos pins s σ H _ I h) λus s1 ⟨vs,H1,I1,r1,q1⟩=>hc pins s1 σ H1 vs us Q I1 r1 q1) he hpl
end
end L2
namespace HT
open PySem PyProof.Rows
noncomputable def lexLt:List Int->List Int->Bool
 | [],[]=>false
 | [],_::_=>true
 |_::_,[]=>false
 |x::xs,y::ys=>if x=y then lexLt xs ys else decide (x<y)
theorem C_(x y:Int)(xs ys:List Int):lexLt (x::xs) (y::ys)=if x=y then lexLt xs ys else decide (x<y):=rfl
theorem Ox:lexLt [] []=false:=rfl
theorem Ow(y:Int)(ys:List Int):lexLt [] (y::ys)=true:=rfl
theorem Ov(x:Int)(xs:List Int):lexLt (x::xs) []=false:=rfl
theorem KH(A:Around)(s:Shared)(a:Int)(t:Tok)(c:Int)(u:Tok):∃e,SeqAt.EqAt A s (.int a t) (.int c u) e/\(e=true ↔ a=c):=
 ⟨(a==c),za a t c u,by simp⟩
theorem RT(A:Around)(s:Shared)(a:Int)(t:Tok)(c:Int)(u:Tok)(prog:Program)(w:World)(E:Value->Shared->Prop)(Q:Value->Shared->Prop)(h:Q (.bool (decide (a<c))) s):wpAny (model prog w) A (richCompare .Lt (.int a t) (.int c u)) Q E s:=
 (PyProof.Rows.lt_int h:wpAny (model prog w) A (compareOp .Lt (.int a t) (.int c u)) Q E s)
section
open PySem.SeqAt
open PySem.AutoSeq1 (wpAny_loadPart')
open PySem.MeetsSeq PySem.MeetsSeq2 PySem.MeetsSeq3
theorem Ux(l b:Addr)(items items2:Array Value)(n n2:Nat)(dd dd2:Option Addr)(sl sl2:Array (Option Value))(ns ms:List Int)(hi:IntsAre items.toList ns)(hj:IntsAre items2.toList ms):Meets (Builtin.«tuple.__lt__» ⟨[.ref l,.ref b],[]⟩)
   (λ_ R s=>s.heap.get? l=some {cls:=.type "tuple", dict:=dd,data:=.seq items n,slots:=sl}/\s.heap.get? b=some {cls:=.type "tuple", dict:=dd2,data:=.seq items2 n2,slots:=sl2} /\
    R (.ok (.ret (.bool (lexLt ns ms)))) s):=
 .of_wp λprog w A R s h=>by
  obtain⟨hp,g,d,tk,os⟩:=s;obtain⟨hl,hb,h⟩:=h;have f2:=AutoSeq1.sub_tuple_tuple;have z1:items.size=ns.length:=by rw[<- hi.length];simp
  have z2:items2.size=ms.length:=by rw[<- hj.length];simp
  wp_walk using wpAny_loadPart' hl,wpAny_loadPart' hb,wpAny_forIn_list _ (λrest b s'=>b.1=none/\s'=⟨hp,g,d,tk,os⟩/\∃(vs ws:List Value) (ns' lh:List Int),rest=vs.zip ws /\
   IntsAre vs ns'/\IntsAre ws lh/\ns'.length+items2.size=lh.length+items.size/\R (.ok (.ret (.bool (lexLt ns' lh)))) ⟨hp,g,d,tk,os⟩) _
  case turn =>
   rintro⟨y,x⟩ rest b s' ⟨hb',rfl,vs,ws,ns',lh,hz,vD,hwi,hlen,hR⟩;cases vD with
   |nil=>rw[List.zip_nil_left]at hz;cases hz
   |cons a t Nk =>
    cases hwi with
    |nil=>rw[List.zip_nil_right]at hz;cases hz
    |cons c u Nn =>
     rw[lV]at hz;injection hz with hyx hrest
     injection hyx with hy hx
     subst hy hx;rw[C_]at hR;simp only[fE]at hlen;obtain⟨e,he,hiff⟩:=KH A.in1 ⟨hp,g,d,tk,os⟩ a t c u;refine ae (he prog w _ _ ?_);cases e with
     |true =>
      rw[if_pos (hiff.mp rfl)]at hR
      wp_walk
      exact⟨rfl,rfl,_,_,_,_,hrest,Nk,Nn,by omega,hR⟩
     |false =>
      rw[if_neg (λq=>absurd (hiff.mpr q) Bool.false_ne_true)]at hR;have Nb:=RT A.in1 ⟨hp,g,d,tk,os⟩ a t c u prog w
      wp_walk using Nb
      exact⟨_,rfl,by simpa using hR⟩
  case fin =>
   rintro⟨b1,b2⟩ s' ⟨hb',rfl,vs,ws,ns',lh,hz,vD,hwi,hlen,hR⟩;simp only at hb';subst hb';have hv:lexLt ns' lh=decide (items.size<items2.size):=by
    cases vD with
    |nil =>
     cases hwi with
     |nil =>
      simp only[tJ]at hlen;rw[Ox];exact(cI (by omega)).symm
     |cons c u hw =>
      simp only[tJ,fE]at hlen;rw[Ow];exact(bE (by omega)).symm
    |cons a t hv =>
     cases hwi with
     |nil =>
      simp only[tJ,fE]at hlen;rw[Ov];exact(cI (by omega)).symm
     |cons c u hw =>
      rw[lV]at hz;cases hz
   rw[hv]at hR
   wp_walk
   exact⟨_,rfl,by simpa[Builtin.Tuple.tupleCompareSizes]using hR⟩
  case h =>
   exact⟨rfl,rfl,items.toList,items2.toList,ns,ms,rfl,hi,hj,by omega,h⟩
end
section
variable {prog:Program} {w:World} {A:Around} {E:Value->Shared->Prop} {s:Shared}
theorem O1{l b:Addr}{items items2:Array Value}{ns ms:List Int}{Q:Value->Shared->Prop}(hl:IsTup s.heap l items)(hb:IsTup s.heap b items2)(hi:IntsAre items.toList ns)(hj:IntsAre items2.toList ms)(hu:A.units<cLine)(h:Q (.bool (lexLt ns ms)) s):wpAny (model prog w) A (compareOp .Lt (.ref l) (.ref b)) Q E s:=by
 obtain⟨⟨cls,dd,data,sl⟩,ho,hc,n,hd⟩:=id hl;obtain⟨⟨cls2,dd2,data2,sl2⟩,ho2,hc2,n2,hd2⟩:=id hb;simp only at hc hd hc2 hd2;subst hc hd hc2 hd2;exact richCompare_meets_room (op:=.Lt) ⟨_,ho,rfl⟩ ⟨_,ho2,rfl⟩ PySem.F.slot_tuple_lt PySem.F.entry_tuple_lt (PySem.F.args_tuple_lt_2 _ _) (Ux l b items items2 n n2 dd dd2 sl sl2 ns ms hi hj)
  ⟨ho,ho2,show Value.bool (lexLt ns ms)≠Value.notImplemented/\Q (.bool (lexLt ns ms)) s from⟨(λx=>nomatch x),h⟩⟩ hu
noncomputable def dX(n d:Nat):Option Int->Nat
 |none=>d
 |some v=>if v<0 then(v+(n:Int)).toNat else min v.toNat n
end
end HT
namespace L2
open PySem PySem.Spec PyProof.Rows
abbrev TO:=St->Hp->(Option Int->Hp->Prop)->Prop
noncomputable def PO(X:Cx)(e:Option Expr)(t:TO):Prop:=
 ∀(pins:List (Addr × Obj)) (s:Shared) (σ:St) (H:Hp) (Q:Option Int->Hp->Prop),Inv X pins σ H s->t σ H Q ->
  wpAny (model X.prog X.w) X.A (evalPart e X.env) (λu s'=>∃o H',Inv X pins σ H' s'/\IsPart u o/\Q o H') X.xe s
noncomputable def T4:TO:=λ_ H Q=>Q none H
noncomputable def T_(t:TE):TO:=λσ H Q=>t σ H λx H1=>∃i,x = .int i/\Q (some i) H1
section
variable {X:Cx} {e:Expr} {te:TE} {lo hi:Option Expr} {tl th:TO} {pos p2:Pos}
theorem Fn:PO X none T4:=by
 intro pins s σ H Q I h;rw[evalPart_none];exact ah ⟨none,H,I,.none,h⟩
theorem Fo(h:PE X e te):PO X (some e) (T_ te):=by
 intro pins s σ H Q I hw;rw[evalPart_some];refine au (h pins s σ H _ I hw) λu s1 ⟨x,H1,I1,r1,q1⟩=>?_;obtain⟨i,rfl,q⟩:=q1;obtain⟨t,rfl⟩:=r1;exact⟨some i,H1,I1,.int i t,q⟩
noncomputable def ui(X:Cx)(r:V->Option Int->Option Int->Hp->VK->Prop):Prop:=
 ∀(pins:List (Addr × Obj)) (s:Shared) (σ:St) (H:Hp) (x:V) (v vl vu:Value) (lo hi:Option Int) (sl:Addr) (Q:VK),Inv X pins σ H s->RelV x v->s.heap.IsSliceOf sl vl vu .none->IsPart vl lo->IsPart vu hi->r x lo hi H Q ->
  ∃T id,typeLookup (.type T) "__getitem__" = pure (some (.builtin id))/\s.TypeIs v T/\wpAny (model X.prog X.w) X.A (getItem v (.ref sl)) (EP X pins σ Q) X.xe s
noncomputable def Uh(r:V->Option Int->Option Int->Hp->VK->Prop)(te:TE)(tl th:TO):TE:=λσ H Q=>te σ H λx H1=>tl σ H1 λl H2=>th σ H2 λu H3=>r x l u H3 Q
theorem Fe{r:V->Option Int->Option Int->Hp->VK->Prop}(hr:ui X r)(he:PE X e te)(hl:PO X lo tl)(hu:PO X hi th):PE X (.Subscript e (.Slice lo hi none p2) pos) (Uh r te tl th):=by
 intro pins s σ H Q I h;refine Subscript_ (au (he pins s σ H _ I h) λv s1 ⟨x,H1,I1,r1,q1⟩=>?_);refine wpAny_Slice (au (hl pins s1 σ H1 _ I1 q1) λvl s2 ⟨l,H2,I2,pl,q2⟩=>au (hu pins s2 σ H2 _ I2 q2) λvu s3 ⟨u,H3,I3,pu,q3⟩=>?_);rw[evalPart_none];refine ah ?_;have I4:Inv X pins σ H3 {s3 with heap:=s3.heap.push {cls:=.type "slice", data:=.fields #[vl,vu,.none]}}:=I3.kept (t':=s3.toks) λb ob q=>aB _ q;obtain⟨T,id,hT,ht,hg⟩:=hr pins {s3 with heap:=s3.heap.push {cls:=.type "slice", data:=.fields #[vl,vu,.none]}} σ H3 x v vl vu l u s3.heap.objs.size Q I4 r1 (Heap.IsSliceOf.new ..) pl pu q3;show wpAny (model X.prog X.w) X.A (subscriptTail e (.Slice lo hi none p2) v (.ref s3.heap.objs.size)) (EP X pins σ Q) X.xe {s3 with heap:=s3.heap.push {cls:=.type "slice", data:=.fields #[vl,vu,.none]}};exact tail_any (ops:=[.ref s3.heap.objs.size,v]) ht hT hg (by with_unfolding_all rfl)
noncomputable def kC(xs:List V)(lo hi:Option Int):List V:=(xs.drop (HT.dX xs.length 0 lo)).take (HT.dX xs.length xs.length hi - HT.dX xs.length 0 lo)
theorem J6(xs:List V)(lo hi:Option Int):(kC xs lo hi).length<=xs.length:=by
 unfold kC;rw[oW,List.length_drop];omega
end
noncomputable def gD(n:Nat)(i:Int):Option Nat:=if 0<=i then(if i<n then some i.toNat else none)else if -(n:Int)<=i then some (i+n).toNat else none
noncomputable def g_{α:Type}(xs:List α)(i:Int):Option α:=(gD xs.length i).bind λj=>xs[j]?
theorem Cp{n:Nat}{i:Int}{j:Nat}(h:gD n i=some j):seqIndex? i n=some j/\j<n/\-(n:Int)<=i/\i<n:=by
 unfold gD at h
 by_cases h0:0<=i
 ·rw[if_pos h0]at h
  by_cases h1:i<n
  ·rw[if_pos h1]at h
   have e:i.toNat=j:=d5 h;exact⟨by rw[seqIndex_of h0 h1,e],by omega,by omega,h1⟩
  ·rw[if_neg h1]at h;cases h
 ·rw[if_neg h0]at h
  by_cases h1:-(n:Int)<=i
  ·rw[if_pos h1]at h
   have e:(i+n).toNat=j:=d5 h;exact⟨by rw[seqIndex_neg (by omega) h1,e],by omega,h1,by omega⟩
  ·rw[if_neg h1]at h;cases h
theorem zE{α:Type}{xs:List α}{i:Int}{v:α}(h:g_ xs i=some v):∃j,seqIndex? i xs.length=some j/\xs[j]?=some v/\j<xs.length/\-(xs.length:Int)<=i/\i<xs.length:=by
 unfold g_ at h;cases e:gD xs.length i with
 |none=>rw[e]at h;cases h
 |some j =>
  rw[e]at h;obtain⟨h1,h2,h3,h4⟩:=Cp e;exact⟨j,h1,h,h2,h3,h4⟩
theorem bp{α:Type}{xs:List α}{j:Nat}{v:α}(h:xs[j]?=some v):g_ xs (j:Int)=some v:=by
 have hj:j<xs.length:=(cw.mp h).1;have e:gD xs.length (j:Int)=some j:=by
  unfold gD;rw[if_pos (by omega),if_pos (by omega)];simp
 unfold g_;rw[e];exact h
noncomputable def Ir(b:Expr):Prop:=∀o i,subscripted b false o i=operate [o,i] (getItem o i)
noncomputable def j3(X:Cx)(r:R2):Prop:=
 ∀(value slice:Expr) (pins:List (Addr × Obj)) (s:Shared) (σ:St) (H:Hp) (x y:V) (v u:Value) (Q:VK),Inv X pins σ H s->RelV x v->RelV y u->r x y H Q ->
  subscripted slice false v u=operate [v,u] (getItem v u)->wpAny (model X.prog X.w) X.A (subscriptTail value slice v u) (EP X pins σ Q) X.xe s
noncomputable def tP(X:Cx)(id:String)(r:V->List V->Hp->VK->Prop):Prop:=
 ∀(pins:List (Addr × Obj)) (s:Shared) (σ:St) (H:Hp) (x:V) (xs:List V) (v:Value) (us:List Value) (Q:VK),Inv X pins σ H s->RelV x v->Vals xs us->r x xs H Q ->
  wpAny (model X.prog X.w) X.A (call (.builtin id) (v::us)) (EP X pins σ Q) X.xe s
section
variable {X:Cx} {a b:Expr} {ta tb:TE} {pos:Pos}
theorem aM{r:R2}(hr:j3 X r)(ha:PE X a ta)(hb:PE X b tb)(hs:Ir b):PE X (.Subscript a b pos) (sC r ta tb):=by
 intro pins s σ H Q I h;exact Subscript_ (uz ha hb I h λv u s2 x y H2 I2 rx ry q=>hr a b pins s2 σ H2 x y v u Q I2 rx ry q (hs _ _))
noncomputable def Fv(K:W.Frag):R2:=λx y H Q=>∃p xs i v,x = .ref p/\y = .int i/\ao K H p xs/\g_ xs i=some v/\Q v H
noncomputable def Fw(K:W.Frag):R2:=λx y H Q=>∃p xs i v,x = .ref p/\y = .int i/\aJ K H p xs/\g_ xs i=some v/\Q v H
theorem N0:j3 X (Fv X.K):=by
 intro value slice pins s σ H x y v u Q I rx ry h hs;obtain⟨p,xs,i,z,rfl,rfl,hq,he,q⟩:=h;cases rx;obtain⟨t,rfl⟩:=ry;obtain⟨its,r,pl,hz⟩:=I.list hq;obtain⟨j,h1,h2,h3,h4,h5⟩:=zE he;obtain⟨w,ew,ot⟩:=r.get h2;have hl:=r.length;have hn:=qv;have fin:EP X pins σ Q w s:=⟨z,H,I,ot,q⟩
 by_cases h0:0<=i
 ·have hj:i.toNat=j:=by
   rw[seqIndex_of h0 h5]at h1;exact d5 h1
  exact item_listR pl.isList h0 (by omega) (by rw[hj];simpa using ew) fin hs
 ·have hj:(i+(its.toArray.size:Int)).toNat=j:=by
   rw[seqIndex_neg (by omega) h4]at h1;rw[bz,<- hl];exact d5 h1
  exact subscriptTail_builtinR (x:=w) pl.isList.typeIs slot_list_getitem.lookup
   (wpAny_getItem_list_neg (Q:=λr s'=>r=w/\EP X pins σ Q r s') pl.isList (by omega) (by rw[bz]<;>omega) (by omega) (by rw[hj];simpa using ew) ⟨rfl,fin⟩) hs
theorem N2:j3 X (Fw X.K):=by
 intro value slice pins s σ H x y v u Q I rx ry h hs;obtain⟨p,xs,i,z,rfl,rfl,hq,he,q⟩:=h;cases rx;obtain⟨t,rfl⟩:=ry;obtain⟨its,r,pl,hz⟩:=I.tuple hq;obtain⟨j,h1,h2,h3,h4,h5⟩:=zE he;obtain⟨w,ew,ot⟩:=r.get h2;have hl:=r.length;have hn:=qv;have fin:EP X pins σ Q w s:=⟨z,H,I,ot,q⟩;exact subscriptTail_builtinR (x:=w) pl.typeIs slot_tuple_getitem.lookup
  (getItem_tuple (j:=j) (Q:=λr s'=>r=w/\EP X pins σ Q r s') pl (by omega) (by omega) (by rw[bz,<- hl];exact h1) (by simpa using ew) ⟨rfl,fin⟩) hs
theorem O7 (its:List Value) (n j:Nat) (u:Value):Obj.mapSeq (·.setIfInBounds j u) {cls:=.type "list", data:=.seq its.toArray n} = {cls:=.type "list", data:=.seq (its.set j u).toArray n}:=by
 simp[Obj.mapSeq]
theorem Inv.lst{pins:List (Addr × Obj)}{σ:St}{H:Hp}{s:Shared}{p:Addr}{xs:List V}(I:Inv X pins σ H s)(h:H p=some (.lst xs)):
  ∃(its:List Value) (n:Nat),Vals xs its/\s.heap.get? p=some {cls:=.type "list", data:=.seq its.toArray n}/\xs.length<=sizeLine:=by
 obtain⟨z,its,n,r,e⟩:=I.hok p _ h;exact⟨its,n,r,e,z⟩
theorem Inv.OD{pins:List (Addr × Obj)}{σ:St}{H:Hp}{s:Shared}{p:Addr}{xs ys:List V}{its its':List Value}{n n':Nat}{f:Obj->Obj}(I:Inv X pins σ H s)(h:H p=some (.lst xs))
  (ho:s.heap.get? p=some {cls:=.type "list", data:=.seq its.toArray n}) (hf:f {cls:=.type "list", data:=.seq its.toArray n} = {cls:=.type "list", data:=.seq its'.toArray n'}) (r:Vals ys its') (hz:ys.length<=sizeLine) (t:Nat) :
  Inv X pins σ (upd H p (.lst ys)) {s with heap:=s.heap.update p f,toks:=t}:=by
 have e:(s.heap.update p f).get? p=some {cls:=.type "list", data:=.seq its'.toArray n'}:=by
  rw[gf f ho (by rw[hf]<;>rfl),hf]
 refine I.write (x:=p) (e:=p) (by rw[h];trivial) (.inl rfl) (λb u hb q=>(gT _ _ (bK hb)).trans q) ⟨_,e⟩ ?_;exact⟨hz,its',n',r,e⟩
noncomputable def RJ:V->V->V->Hp->(Hp->Prop)->Prop:=λo i v H Q=>∃p xs k j,o = .ref p/\i = .int k/\H p=some (.lst xs)/\gD xs.length k=some j/\Q (upd H p (.lst (xs.set j v)))
theorem set_list:yR X RJ:=by
 intro pins s σ H o i v ov iv u Q I ro ri rv h;obtain⟨p,xs,k,j,rfl,rfl,hp,hj,q⟩:=h;cases ro;obtain⟨t,rfl⟩:=ri;obtain⟨its,n,r,ho,hz⟩:=I.lst hp;obtain⟨h1,h2,h3,h4⟩:=Cp hj;have hl:=r.length;have hn:=qv;have I':Inv X pins σ (upd H p (.lst (xs.set j v))) {s with heap:=s.heap.update p (Obj.mapSeq (·.setIfInBounds j u))}:=
  I.OD hp ho (O7 its n j u) (r.set rv j) (by rw[yA];exact hz) s.toks
 by_cases h0:0<=k
 ·have hk:k.toNat=j:=by
   rw[seqIndex_of h0 h4]at h1;exact d5 h1
  exact W.ki_setAt ho h0 (by omega) (by rw[bz,<- hl];exact h4) (by rw[hk];exact⟨_,I',q⟩)
 ·have hk:(k+(its.toArray.size:Int)).toNat=j:=by
   rw[seqIndex_neg (by omega) h3]at h1;rw[bz,<- hl];exact d5 h1
  exact W.ki_setBack ho (by omega) (by rw[bz,<- hl];exact h3) (by omega) (by rw[hk];exact⟨_,I',q⟩)
theorem S_(lo hi:Option Int)(n:Nat):(sliceBounds lo hi none n).1=((HT.dX n 0 lo:Nat):Int)/\(sliceBounds lo hi none n).2.1=((HT.dX n n hi:Nat):Int)/\(sliceBounds lo hi none n).2.2=1:=by
 refine⟨?_,?_,rfl⟩
 ·cases lo with
  |none=>simp[sliceBounds,HT.dX]
  |some i =>
   simp only[sliceBounds,HT.dX,Option.getD_none,show(1:Int) > 0 by decide,ig]
   by_cases h:i<0
   ·simp only[h,ig]<;>omega
   ·simp only[h,dC]<;>omega
 ·cases hi with
  |none=>simp[sliceBounds,HT.dX]
  |some i =>
   simp only[sliceBounds,HT.dX,Option.getD_none,show(1:Int) > 0 by decide,ig]
   by_cases h:i<0
   ·simp only[h,ig]<;>omega
   ·simp only[h,dC]<;>omega
theorem SX(its:List Value)(lo hi:Option Int):slicePick its.toArray lo hi none=((its.drop (HT.dX its.length 0 lo)).take (HT.dX its.length its.length hi - HT.dX its.length 0 lo)).toArray:=by
 obtain⟨h1,h2,h3⟩:=S_ lo hi its.toArray.size;unfold slicePick;rw[h1,h2,h3];simp only[sliceRange_one,pick_run,bz]<;>rfl
noncomputable def Fx(K:W.Frag):V->Option Int->Option Int->Hp->VK->Prop:=λx lo hi H Q=>∃a xs,x = .ref a/\ao K H a xs/\∀p,H p=none->Q (.ref p) (upd H p (.lst (kC xs lo hi)))
theorem SQ:ui X (Fx X.K):=by
 intro pins s σ H x v vl vu lo hi sl Q I rx hs pl pu h;obtain⟨a,xs,rfl,hx,q⟩:=h;cases rx;obtain⟨its,r,ht,hz⟩:=I.list hx;have hlen:=r.length;refine⟨"list", _,slot_list_getitem.lookup,ht.isList.typeIs,?_⟩;refine wpAny_getItem_list_slice ht.isList hs pl pu .none (by simp) ?_ (by rw[bz]<;>omega);rw[SX,<- hlen];refine⟨.ref s.heap.objs.size,_,I.laid (t':=s.toks) (o:=.lst (kC xs lo hi)) (λb ob q=>aB _ q) (aC _) ?_,rfl,q _ (I.hok.fresh (aC _))⟩;exact⟨cy (J6 xs lo hi) hz,_,0,(r.drop (HT.dX xs.length 0 lo)).take (HT.dX xs.length xs.length hi - HT.dX xs.length 0 lo),aX _ rfl⟩
noncomputable def ic:V->Bool
 |.non=>true
 |.bl _=>true
 |.int _=>true
 |.str _=>true
 |_=>false
noncomputable def h9:V->V->Bool
 |.non,.non=>true
 |.bl a,.bl b=>a==b
 |.bl a,.int b=>(if a then 1 else 0)==b
 |.int a,.bl b=>a==(if b then 1 else 0)
 |.int a,.int b=>a==b
 |.str a,.str b=>a==b
 |_,_=>false
theorem KD{A:Around}{s:Shared}{y x:V}{u v:Value}(ry:RelV y u)(rx:RelV x v)(fy:ic y=true)(fx:ic x=true):SeqAt.EqAt A s u v (h9 y x):=by
 cases y with
 |non =>
  cases ry;cases x with
  |non=>cases rx;exact SeqAt.EqAt.same _
  |bl b=>cases rx;exact SeqAt.EqAt.none_bool b
  |int b=>obtain⟨t,rfl⟩:=rx;exact SeqAt.EqAt.none_int b t
  |str b=>obtain⟨t,rfl⟩:=rx;exact SeqAt.EqAt.none_str b t
  |_=>exact absurd (show false=true from fx) Bool.false_ne_true
 |bl a =>
  cases ry;cases x with
  |non=>cases rx;exact SeqAt.EqAt.bool_none a
  |bl b=>cases rx;exact y_ a b
  |int b=>obtain⟨t,rfl⟩:=rx;exact SeqAt.EqAt.bool_int a b t
  |str b=>obtain⟨t,rfl⟩:=rx;exact SeqAt.EqAt.bool_str a b t
  |_=>exact absurd (show false=true from fx) Bool.false_ne_true
 |int a =>
  obtain⟨t',rfl⟩:=ry;cases x with
  |non=>cases rx;exact SeqAt.EqAt.int_none a t'
  |bl b=>cases rx;exact SeqAt.EqAt.int_bool a t' b
  |int b=>obtain⟨t,rfl⟩:=rx;exact za a t' b t
  |str b=>obtain⟨t,rfl⟩:=rx;exact SeqAt.EqAt.int_str a t' b t
  |_=>exact absurd (show false=true from fx) Bool.false_ne_true
 |str a =>
  obtain⟨t',rfl⟩:=ry;cases x with
  |non=>cases rx;exact SeqAt.EqAt.str_none a t'
  |bl b=>cases rx;exact SeqAt.EqAt.str_bool a t' b
  |int b=>obtain⟨t,rfl⟩:=rx;exact SeqAt.EqAt.str_int a t' b t
  |str b=>obtain⟨t,rfl⟩:=rx;exact SeqAt.EqAt.str_str a t' b t
  |_=>exact absurd (show false=true from fx) Bool.false_ne_true
 |_=>exact absurd (show false=true from fy) Bool.false_ne_true
noncomputable def hZ(x:V)(u:Value):Bool:=match u with
 |.none=>h9 .non x
 |.bool b=>h9 (.bl b) x
 |.int i _=>h9 (.int i) x
 |.str z _=>h9 (.str z) x
 |_=>false
theorem Aj{x y:V}{u:Value}(r:RelV y u)(f:ic y=true):hZ x u=h9 y x:=by
 cases y with
 |non=>cases r;rfl
 |bl b=>cases r;rfl
 |int i=>obtain⟨t,rfl⟩:=r;rfl
 |str z=>obtain⟨t,rfl⟩:=r;rfl
 |_=>exact absurd (show false=true from f) Bool.false_ne_true
theorem uv{x:V}:∀{xs:List V} {us:List Value},Vals xs us->xs.all ic=true->us.any (hZ x)=xs.any λy=>h9 y x
 |_,_,.nil,_=>rfl
 |y::xs,u::us,.cons r t,f=>by
  rw[yr,cq]at f;rw[lR,lR,Aj r f.1,uv t f.2]
theorem vY{A:Around}{s:Shared}{x:V}{v:Value}(rx:RelV x v)(fx:ic x=true):∀{xs:List V} {us:List Value},Vals xs us->xs.all ic=true->∀u∈us,SeqAt.EqAt A s u v (hZ x u)
 |_,_,.nil,_=>λu hu=>by cases hu
 |y::xs,u::us,.cons r t,f=>λu' hu=>by
  rw[yr,cq]at f
  rcases aP.mp hu with rfl|hu
  ·rw[Aj r f.1];exact KD r rx f.1 fx
  ·exact vY rx fx t f.2 u' hu
noncomputable def inV(x:V)(xs:List V):Bool:=xs.any λy=>h9 y x
noncomputable def Fu(K:W.Frag)(neg:Bool):R2:=λx y H Q=>∃p xs,y = .ref p/\(ao K H p xs\/aJ K H p xs)/\ic x=true/\xs.all ic=true/\Q (.bl (if neg then !inV x xs else inV x xs)) H
theorem Qv:bP X (compareOp .In) (Fu X.K false):=by
 intro pins s σ H x y v u Q I rx ry h;obtain⟨p,xs,rfl,hq,fx,fs,q⟩:=h;cases ry
 rcases hq with hq|hq
 ·obtain⟨its,r,pl,hz⟩:=I.list hq
  refine SeqAt.in_listAt (hZ x) pl.isList (λw hw=>vY rx fx r fs w (by simpa using hw)) ⟨.bl _,H,I,rfl,?_⟩;rw[show its.toArray.any (hZ x)=its.any (hZ x)by simp,uv r fs];exact q
 ·obtain⟨its,r,pl,hz⟩:=I.tuple hq
  refine SeqAt.in_tupleAt (hZ x) pl (λw hw=>vY rx fx r fs w (by simpa using hw)) ⟨.bl _,H,I,rfl,?_⟩;rw[show its.toArray.any (hZ x)=its.any (hZ x)by simp,uv r fs];exact q
theorem JF:da X (.builtin "len") (λxs H Q=>∃p ys,xs = [.ref p]/\(ao X.K H p ys\/aJ X.K H p ys)/\Q (.int ys.length) H):=by
 intro pins s σ H xs us Q I r h;obtain⟨p,ys,rfl,hq,q⟩:=h;obtain⟨u,rfl,rx⟩:=vals1 r;cases rx;have hn:=qv
 rcases hq with hq|hq
 ·obtain⟨its,r',pl,hz⟩:=I.list hq
  have hlen:=r'.length;exact Calls.call_len_list pl.isList (by simp only[bz]<;>omega) ⟨.int ys.length,H,I.tok _,⟨s.toks+1,by rw[bz,hlen]⟩,q⟩
 ·obtain⟨its,r',pl,hz⟩:=I.tuple hq
  have hlen:=r'.length;exact len_tuple pl (by simp only[bz]<;>omega) ⟨.int ys.length,H,I.tok _,⟨s.toks+1,by rw[bz,hlen]⟩,q⟩
theorem JH:da X (.type "list") (λxs H Q=>∃p ys,xs = [.ref p]/\(ao X.K H p ys\/aJ X.K H p ys)/\∀l,H l=none->Q (.ref l) (upd H l (.lst ys))):=by
 intro pins s σ H xs us Q I r h;obtain⟨p,ys,rfl,hq,q⟩:=h;obtain⟨u,rfl,rx⟩:=vals1 r;cases rx;have fin:∀(its:List Value),Vals ys its->ys.length<=sizeLine->∀(h':Heap) (c':Nat),(∀b o',s.heap.get? b=some o'->h'.get? b=some o') ->
   h'.get? s.heap.objs.size=some {cls:=.type "list", dict:=none,data:=.seq its.toArray c',slots:=#[]}->EP X pins σ Q (.ref s.heap.objs.size) {s with heap:=h'}:=λits r' hz h' c' kp e =>
  ⟨.ref s.heap.objs.size,_,I.laid (t':=s.toks) kp (aC _) (show aN X.prog X.w _ h' _ (.lst ys)from⟨hz,its,c',r',e⟩),rfl,q _ (I.hok.fresh (aC _))⟩
 rcases hq with hq|hq
 ·obtain⟨its,r',pl,hz⟩:=I.list hq
  have hlen:=r'.length;obtain⟨o,ho,hc,n,hd⟩:=pl.isList;exact call_list_seq p (.inl rfl) ho hc hd (λh' c' kp e=>fin its r' hz h' c' kp e) (by simp only[bz]<;>omega)
 ·obtain⟨its,r',pl,hz⟩:=I.tuple hq
  have hlen:=r'.length;obtain⟨o,ho,hc,n,hd⟩:=pl;exact call_list_seq p (.inr rfl) ho hc hd (λh' c' kp e=>fin its r' hz h' c' kp e) (by simp only[bz]<;>omega)
theorem JQ:da X (.type "tuple") (λxs H Q=>∃p ys,xs = [.ref p]/\((ao X.K H p ys/\∀l,H l=none->Q (.ref l) (upd H l (.tup ys)))\/(aJ X.K H p ys/\Q (.ref p) H))):=by
 intro pins s σ H xs us Q I r h;obtain⟨p,ys,rfl,h⟩:=h;obtain⟨u,rfl,rx⟩:=vals1 r;cases rx
 rcases h with⟨hq,q⟩|⟨hq,q⟩
 ·obtain⟨its,r',pl,hz⟩:=I.list hq
  have hlen:=r'.length;refine call_tuple_list pl.isList (λh' kp=>?_) (by simp only[bz]<;>omega);have I1:Inv X pins σ H {s with heap:=h'}:=I.kept (t':=s.toks) kp;have I2:Inv X pins σ (upd H h'.objs.size (.tup ys)) {s with heap:=h'.push {cls:=.type "tuple", data:=.seq its.toArray}}:=
   I1.laid (t':=s.toks) (λb o e=>aB _ e) (aC _) (show aN X.prog X.w _ _ _ (.tup ys)from⟨hz,its,r',IsTup.new _ _,_,aX _ rfl,rfl⟩)
  exact⟨.ref h'.objs.size,_,I2,rfl,q _ (I1.hok.fresh (aC _))⟩
 ·obtain⟨its,r',pl,hz⟩:=I.tuple hq
  exact call_tuple_same pl ⟨.ref p,H,I,rfl,q⟩
noncomputable def Hq(K:W.Frag)(T:String)(x:V)(H:Hp):Prop:=match x with
 |.str _=>T = "str"
 |.int _=>T = "int"
 |.ref p=>(T = "list" /\ ∃xs,ao K H p xs)\/(T = "tuple" /\ ∃o,K.lookup p=some o/\o.cls = .type "tuple" /\ o.dict=none) \/
   (T = "dict" /\ ((∃kvs,H p=some (.dK kvs))\/∃kvs,H p=some (.dT kvs)))\/(T = "set" /\ ∃S n,H p=some (.set S n))\/(T = "tuple" /\ ∃xs,H p=some (.tup xs))
 |_=>False
theorem UW{pins:List (Addr × Obj)}{σ:St}{H:Hp}{s:Shared}{T:String}{x:V}{v:Value}(I:Inv X pins σ H s)(r:RelV x v)(ty:Hq X.K T x H):s.TypeIs v T/\∀a,v = .ref a->∃ob,s.heap.get? a=some ob/\ob.dict=none:=by
 cases x with
 |str z =>
  obtain⟨t,rfl⟩:=r;cases(show T = "str" from ty);exact⟨typeIs_str s z t,λ_ e=>nomatch e⟩
 |int i =>
  obtain⟨t,rfl⟩:=r;cases(show T = "int" from ty);exact⟨typeIs_int s i t,λ_ e=>nomatch e⟩
 |ref p =>
  cases r
  rcases ty with⟨rfl,xs,hq⟩|⟨rfl,o,hk,hc,hd⟩|⟨rfl,hk⟩|⟨rfl,S,n,hk⟩|⟨rfl,zs,hk⟩
  ·obtain⟨its,_,pl,_⟩:=I.list hq
   refine⟨pl.isList.typeIs,λa e=>?_⟩;cases e;obtain⟨o,n,e,c,hd,_⟩:=pl;exact⟨o,e,hd⟩
  ·refine⟨⟨o,I.bM p o hk,hc⟩,λa e=>?_⟩
   cases e;exact⟨o,I.bM _ o hk,hd⟩
  ·have z:∃o,s.heap.get? p=some o/\o.ExactDict:=by
    rcases hk with⟨kvs,hk⟩|⟨kvs,hk⟩
    ·obtain⟨_,_,_,_,o,_,_,e,ex,_⟩:=I.hok p _ hk
     exact⟨o,e,ex⟩
    ·obtain⟨_,_,_,_,o,_,_,e,ex,_⟩:=I.hok p _ hk
     exact⟨o,e,ex⟩
   obtain⟨o,e,ex⟩:=z;refine⟨⟨o,e,ex.1⟩,λa e2=>?_⟩;cases e2;exact⟨o,e,ex.2.1⟩
  ·obtain⟨o,_,_,_,e,ex,_⟩:=I.hok p _ hk
   refine⟨⟨o,e,ex.1⟩,λa e2=>?_⟩;cases e2;exact⟨o,e,ex.2.1⟩
  ·obtain⟨_,_,_,⟨o2,e2,c2,_⟩,o,e,hd⟩:=(show aN X.prog X.w H s.heap p (.tup zs)from I.hok p _ hk)
   refine⟨⟨o2,e2,c2⟩,λa e3=>?_⟩;cases e3;exact⟨o,e,hd⟩
 |_=>exact False.elim ty
noncomputable def G9(K:W.Frag)(T:String)(r:V->List V->Hp->VK->Prop)(to:TE)(t:TA):TE:=λσ H Q=>to σ H λx H1=>Hq K T x H1/\t σ H1 λxs H2=>r x xs H2 Q
variable {o e:Expr} {es:List Expr} {to:TE} {t:TA} {name:Str} {apos cpos:Pos} {T id:String} {r:V->List V->Hp->VK->Prop}
theorem QD (pa:PlainAttrs T) (slot:Slot T name id) (hty:typeOf (.builtin id)=pure (.type "method_descriptor")) (hm:tP X id r) (ho:PE X o to) (ha:PA X (e::es) t)
  (hbase:attributeBase o name X.env (eval o X.env)=eval o X.env:=by rfl)
  (hfew:((backTo cpos (starEach (e::es) X.env)).all (λx=>!x.1)&&(backToKw cpos (keywordEach [] X.env)).all (λx=>x.1.isSome)
   && decide ((e::es).length+([]:List Keyword).length+(if([]:List Keyword).isEmpty then 0 else 1)<30))=true:=by rfl)
  (hline:(apos.endLine==cpos.line)=true:=by rfl) (hs:starEach (e::es) X.env=(false,eval e X.env)::starEach es X.env:=by rfl) (hplain:(backTo cpos (starEach es X.env)).any (·.1)=false:=by rfl) :
  PE X (.Call (.Attribute o name apos) (e::es) [] cpos) (G9 X.K T r to t):=by
 intro pins s σ H Q I h;refine wpAny_Call_method_late hbase hfew hline rfl (au (ho pins s σ H _ I h) λv s1 ⟨x,H1,I1,r1,ty,q1⟩=>?_);obtain⟨h1,h2⟩:=UW I1 r1 ty;refine⟨T,id,pa,slot,hty,h1,h2,?_⟩;have hA:=ha cpos pins s1 σ H1 _ I1 q1;rw[hs]at hA ⊢;refine Calls.callWith_builtin (by show(false||(backTo cpos (starEach es X.env)).any (·.1))=false;rw[hplain]<;>rfl) (yX ?_);exact au hA λus s2 ⟨vs,H2,I2,r2,q2⟩=>hm pins s2 σ H2 x vs v us Q I2 r1 r2 q2
end
noncomputable def yF(X:Cx)(id:String)(r:V->List V->Hp->VK->Prop):Prop:=
 ∀(pins:List (Addr × Obj)) (s:Shared) (σ:St) (H:Hp) (x:V) (xs:List V) (v:Value) (us:List Value) (Q:VK),Inv X pins σ H s->RelV x v->Vals xs us->r x xs H Q ->
  wpAny (model X.prog X.w) X.A (call (.builtin id) (v::us)) (EP X pins σ Q) X.xe s
theorem Vals.one{x:V}{us:List Value}(h:Vals [x] us):∃u,us = [u]/\RelV x u:=by
 cases h with
 |cons r t=>cases t;exact⟨_,rfl,r⟩
theorem Vals.two{x y:V}{us:List Value}(h:Vals [x,y] us):∃u v,us = [u,v]/\RelV x u/\RelV y v:=by
 cases h with
 |cons r t =>
  obtain⟨v,rfl,q⟩:=Vals.one t;exact⟨_,_,rfl,r,q⟩
section
variable {X:Cx} {pins:List (Addr × Obj)} {σ:St} {H:Hp} {s:Shared} {l b:Addr} {xs ys zs:List V}
theorem Inv.qw{its its':List Value}{n:Nat}{f:Array Value->Array Value}{t':Nat}(I:Inv X pins σ H s)(hH:H l=some (.lst xs))
  (e:s.heap.get? l=some {cls:=.type "list", data:=.seq its.toArray n}) (hf:f its.toArray=its'.toArray) (hv:Vals ys its') (hz:ys.length<=sizeLine) :
  Inv X pins σ (upd H l (.lst ys)) {s with heap:=s.heap.update l (Obj.mapSeq f),toks:=t'}:=by
 have q:=PySem.IsL.update e f;rw[hf]at q;refine I.write (x:=l) (e:=l) (by rw[hH];exact trivial) (.inl rfl) (λb' u hb hu=>(gT s.heap (Obj.mapSeq f) (bK hb)).trans hu) ⟨_,q⟩ ?_;exact⟨hz,its',_,hv,q⟩
theorem Inv.vW{its:List Value}{t':Nat}(I:Inv X pins σ H s)(hv:Vals ys its)(hz:ys.length<=sizeLine):
  Inv X pins σ (upd H s.heap.objs.size (.lst ys)) {s with heap:=s.heap.push {cls:=.type "list", data:=.seq its.toArray},toks:=t'}:=
 I.laid (λ_ _ q=>aB _ q) (aC _) ⟨hz,its,0,hv,aX _ rfl⟩
theorem Inv.fresh(I:Inv X pins σ H s):H s.heap.objs.size=none:=I.hok.fresh (aC _)
theorem Inv.jH (I:Inv X pins σ H s) (hH:H l=some (.lst xs)):xs.length<=sizeLine/\∃(its:List Value) (n:Nat),Vals xs its/\xs.length=its.length/\s.heap.get? l=some {cls:=.type "list", data:=.seq its.toArray n}:=by
 obtain⟨z,its,n,r,e⟩:=I.hok l _ hH;exact⟨z,its,n,r,r.length,e⟩
theorem P4{n:Nat}(h:n<=sizeLine):Builtin.List.listTooLong n=false:=by
 unfold Builtin.List.listTooLong;exact cI (by omega)
end
section
variable {X:Cx}
noncomputable def Rq:V->List V->Hp->VK->Prop:=λx vs H Q=>∃l xs y,x = .ref l/\vs = [y]/\H l=some (.lst xs)/\xs.length<sizeLine/\Q .non (upd H l (.lst (xs++[y])))
theorem v8:yF X "list.append" Rq:=by
 intro pins s σ H x vs v us Q I rx rv h;obtain⟨l,xs,y,rfl,rfl,hH,hz,q⟩:=h;cases rx;obtain⟨u,rfl,ru⟩:=rv.one;obtain⟨z,its,n,r,hl,e⟩:=I.jH hH;refine call_meets y7 ⟨_,e,rfl⟩ F.entry_list_append (F.args_list_append_2 _ _) (PySem.list_append l its.toArray n u (by rw[bz];omega)) ⟨e,?_⟩;refine⟨.non,_,I.qw (its':=its++[u]) hH e (by simp) (r.append (.cons ru .nil)) ?_,rfl,q⟩;rw[dm,tK];omega
noncomputable def Ru:V->List V->Hp->VK->Prop:=λx vs H Q=>∃l b xs zs,x = .ref l/\vs = [.ref b]/\H l=some (.lst xs)/\H b=some (.lst zs)/\xs.length+zs.length<=sizeLine/\Q .non (upd H l (.lst (xs++zs)))
theorem v9:yF X "list.extend" Ru:=by
 intro pins s σ H x vs v us Q I rx rv h;obtain⟨l,b,xs,zs,rfl,rfl,hH,hB,hz,q⟩:=h;cases rx;obtain⟨u,rfl,ru⟩:=rv.one;cases ru;obtain⟨z,its,n,r,hl,e⟩:=I.jH hH;obtain⟨z2,its2,n2,r2,hl2,e2⟩:=I.jH hB;have hsz:its.toArray.size+its2.toArray.size<=sizeLine:=by rw[bz,bz];omega
 have M0:¬ (!its.toArray.isEmpty&&Builtin.List.listTooLong (its.toArray.size+its2.toArray.size))=true:=by
  rw[P4 hsz,Bool.and_false];exact Bool.false_ne_true
 refine call_meets t5 ⟨_,e,rfl⟩ F.entry_list_extend (F.args_list_extend_2 _ _)
  (AutoSeq1.list_extend_list_list_0 l its.toArray n b its2.toArray n2 M0 (by rw[bz];omega) (by omega)) ⟨e,e2,?_⟩
 refine⟨.non,_,I.qw (its':=its++its2) hH e (by simp) (r.append r2) ?_,rfl,q⟩;rw[dm];omega
noncomputable def Rr:R2:=λx y H Q=>∃l b xs zs,x = .ref l/\y = .ref b/\H l=some (.lst xs)/\H b=some (.lst zs)/\xs.length+zs.length<=sizeLine/\∀p,H p=none->Q (.ref p) (upd H p (.lst (xs++zs)))
theorem iX:bP X (binaryOp .Add) Rr:=by
 intro pins s σ H x y v u Q I rx ry h;obtain⟨l,b,xs,zs,rfl,rfl,hH,hB,hz,q⟩:=h;cases rx;cases ry;obtain⟨z,its,n,r,hl,e⟩:=I.jH hH;obtain⟨z2,its2,n2,r2,hl2,e2⟩:=I.jH hB;refine PySem.P.add_list e e2 ?_ (by rw[bz,bz];omega);have ea:its.toArray++its2.toArray=(its++its2).toArray:=by simp
 rw[ea];exact⟨.ref _,_,I.vW (t':=s.toks) (r.append r2) (by rw[dm];omega),rfl,q _ I.fresh⟩
end
section
variable {prog:Program} {w:World} {A:Around} {E:Value->Shared->Prop} {s:Shared}
end
section
variable {X:Cx}
end
section
variable {κ:Type} [DecidableEq κ]
noncomputable def cj(kvs:List (κ × V))(k:κ):Option V:=(kvs.find? λkv=>decide (kv.1=k)).map (·.2)
noncomputable def putK(kvs:List (κ × V))(k:κ)(v:V):List (κ × V):=
 if(kvs.any λkv=>decide (kv.1=k))=true then kvs.map (λkv=>if kv.1=k then(kv.1,v)else kv)else kvs++[(k,v)]
theorem jc{p:κ × V}{r:List (κ × V)}{k:κ}(e:p.1=k):cj (p::r) k=some p.2:=by simp[cj,lS,e]
theorem iC{p:κ × V}{r:List (κ × V)}{k:κ}(e:¬ p.1=k):cj (p::r) k=cj r k:=by simp[cj,lS,e]
theorem yc(k:κ):∀kvs:List (κ × V),(kvs.any λkv=>decide (kv.1=k))=(cj kvs k).isSome
 | []=>rfl
 |p::r=>by
  rw[lR]
  by_cases e:p.1=k
  ·simp only[jc e,bE e,Bool.true_or,Option.isSome_some]
  ·rw[iC e,cI e,Bool.false_or];exact yc k r
theorem Hv(k j:κ)(y:V):∀kvs:List (κ × V),cj kvs k=none->cj (kvs++[(k,y)]) j=if j=k then some y else cj kvs j
 | [],_=>by
  by_cases e:k=j
  ·rw[if_pos e.symm];exact jc (p:=(k,y)) e
  ·rw[if_neg (λz=>e z.symm)];exact iC (p:=(k,y)) e
 |p::r,hn=>by
  rw[List.cons_append];have hk:¬ p.1=k:=λz=>by rw[jc z]at hn;cases hn
  rw[iC hk]at hn;have ih:=Hv k j y r hn
  by_cases e:p.1=j
  ·rw[jc e,jc e,if_neg (λz=>hk (e.trans z))]
  ·rw[iC e,iC e,ih]
theorem CW(kvs:List (κ × V))(k:κ)(v:V):(putK kvs k v).length<=kvs.length+1:=by
 unfold putK
 split
 ·rw[ay];omega
 ·rw[dm,fE,tJ];omega
theorem Ri{kvs:List (κ × V)}{k:κ}(v:V)(h:cj kvs k=none):putK kvs k v=kvs++[(k,v)]:=by
 unfold putK;rw[yc,h];exact if_neg (by decide)
theorem gw.NR{o:Option V}{u:Option Value}(r:gw o u):o.isSome=u.isSome:=by
 cases o with
 |none=>cases u with
  |none=>rfl
  |some _=>exact(show False from r).elim
 |some _=>cases u with
  |none=>exact(show False from r).elim
  |some _=>rfl
theorem gw.getD{o:Option V}{u:Option Value}{d:V}{d':Value}(r:gw o u)(rd:RelV d d'):RelV (o.getD d) (u.getD d'):=by
 cases o with
 |none=>cases u with
  |none=>exact rd
  |some _=>exact(show False from r).elim
 |some _=>cases u with
  |none=>exact(show False from r).elim
  |some _=>exact r
theorem KV.val{kvs:List (κ × V)}{vs:List (κ × Value)}(r:KV kvs vs)(k:κ):gw (cj kvs k) (valueAt vs k):=by
 unfold KV at r
 induction r with
 |nil=>exact True.intro
 | @cons p q ps qs h t ih =>
  obtain⟨h1,h2⟩:=h
  by_cases e:p.1=k
  ·have e':q.1=k:=h1.symm.trans e
   have b:valueAt (q::qs) k=some q.2:=by simp[valueAt,lS,e']
   rw[jc e,b];exact h2
  ·have e':¬ q.1=k:=λz=>e (h1.trans z)
   have b:valueAt (q::qs) k=valueAt qs k:=by simp[valueAt,lS,e']
   rw[iC e,b];exact ih
theorem KV.any{kvs:List (κ × V)}{vs:List (κ × Value)}(r:KV kvs vs)(k:κ):(kvs.any λkv=>decide (kv.1=k))=vs.any λkv=>decide (kv.1=k):=by
 unfold KV at r
 induction r with
 |nil=>rfl
 |cons h t ih=>rw[lR,lR,ih,h.1]
theorem KV.repl{kvs:List (κ × V)}{vs:List (κ × Value)}(r:KV kvs vs)(k:κ){y:V}{u:Value}(ry:RelV y u):
  KV (kvs.map λkv=>if kv.1=k then(kv.1,y)else kv) (vs.map λkv=>if kv.1=k then(kv.1,u)else kv):=by
 unfold KV at r ⊢
 induction r with
 |nil=>exact .nil
 | @cons p q ps qs h t ih =>
  rw[cH,cH];refine .cons ?_ ih;obtain⟨h1,h2⟩:=h
  by_cases e:p.1=k
  ·rw[if_pos e,if_pos (h1.symm.trans e)];exact⟨h1,ry⟩
  ·rw[if_neg e,if_neg (λz=>e (h1.trans z))];exact⟨h1,h2⟩
theorem KV.put{kvs:List (κ × V)}{vs:List (κ × Value)}(r:KV kvs vs)(k:κ){y:V}{u:Value}(ry:RelV y u):KV (putK kvs k y) (stored vs k u):=by
 unfold putK stored;rw[r.any k]
 by_cases e:(vs.any λkv=>decide (kv.1=k))=true
 ·rw[if_pos e,if_pos e];exact r.repl k ry
 ·rw[if_neg e,if_neg e];exact Paired.snoc r ⟨rfl,ry⟩
theorem KV.length{kvs:List (κ × V)}{vs:List (κ × Value)}(r:KV kvs vs):kvs.length=vs.length:=dF r
end
theorem vK{P:Program}{w:World}{k:Key}{u:Value}(r:RelV (kV k) u):(cS P w).is k u=true:=by
 cases k with
 |inl i=>obtain⟨t,e⟩:=(show ∃t,u=Value.int i t from r);subst e;exact Pk P w i t
 |inr x=>obtain⟨t,e⟩:=(show ∃t,u=Value.str x t from r);subst e;exact Pl P w x t
theorem N5{P:Program}{w:World}{k:Key}{v:V}{u:Value}(q:Cr k v)(r:RelV v u):(cS P w).is k u=true:=by
 rcases q with e|⟨b,e,ek⟩
 ·subst e;exact vK r
 ·subst e;subst ek;cases(show u=Value.bool b from r);exact N8 b
theorem Cj{P:Program}{w:World}:∀{ks:List Key} {ws:List V} {us:List Value},qp ks ws->Vals ws us->ItemsAre (cS P w) ks us
 |_,_,_,.nil,.nil=>.nil
 |_,_,_,.cons q t,.cons h t'=>.cons (N5 q h) (Cj t t')
abbrev KT (H:Hp):List (List Key × V)->List (List Key × Addr × Value)->Prop:=Paired λp q=>p.1=q.1/\g6 H q.2.1 p.1/\RelV p.2 q.2.2
theorem KT.val{H:Hp}{kvs:List (List Key × V)}{xs:List (List Key × Addr × Value)}(r:KT H kvs xs)(k:List Key):gw (cj kvs k) ((atKey xs k).map (·.2)):=by
 induction r with
 |nil=>exact True.intro
 | @cons p q ps qs h t ih =>
  obtain⟨h1,_,h2⟩:=h
  by_cases e:p.1=k
  ·have e':q.1=k:=h1.symm.trans e
   have b:atKey (q::qs) k=some q.2:=by simp[atKey,lS,e']
   rw[jc e,b];exact h2
  ·have e':¬ q.1=k:=λz=>e (h1.trans z)
   have b:atKey (q::qs) k=atKey qs k:=by simp[atKey,lS,e']
   rw[iC e,b];exact ih
theorem KT.repl{H:Hp}{kvs:List (List Key × V)}{xs:List (List Key × Addr × Value)}(r:KT H kvs xs)(k:List Key){y:V}{u:Value}(ry:RelV y u):
  KT H (kvs.map λkv=>if kv.1=k then(kv.1,y)else kv) (xs.map (putAt k u)):=by
 induction r with
 |nil=>exact .nil
 | @cons p q ps qs h t ih =>
  rw[cH,cH];refine .cons ?_ ih;obtain⟨h1,h2,h3⟩:=h;unfold putAt
  by_cases e:p.1=k
  ·rw[if_pos e,if_pos (h1.symm.trans e)];exact⟨h1,h2,ry⟩
  ·rw[if_neg e,if_neg (λz=>e (h1.trans z))];exact⟨h1,h2,h3⟩
theorem KT.put{H:Hp}{kvs:List (List Key × V)}{xs:List (List Key × Addr × Value)}(r:KT H kvs xs)(k:List Key){b:Addr}{y:V}{u:Value}(hb:g6 H b k)(ry:RelV y u):KT H (putK kvs k y) (storedH xs k b u):=by
 have e:(kvs.any λkv=>decide (kv.1=k))=(atKey xs k).isSome:=by
  rw[yc,(r.val k).NR,Option.isSome_map]
 unfold putK storedH;rw[e]
 by_cases q:(atKey xs k).isSome=true
 ·rw[if_pos q,if_pos q];exact r.repl k ry
 ·rw[if_neg q,if_neg q];exact Paired.snoc r ⟨rfl,hb,ry⟩
theorem KT.keeps{H H':Hp}{kvs:List (List Key × V)}{xs:List (List Key × Addr × Value)}(r:KT H kvs xs)(ht:∀b ys,H b=some (.tup ys)->H' b=some (.tup ys)):KT H' kvs xs:=
 Paired.di r λ_ _ z=>⟨z.1,(let⟨ws,k1,k2⟩:=z.2.1;⟨ws,k1,ht _ _ k2⟩),z.2.2⟩
section
variable {P:Program} {w:World} {H:Hp} {h:Heap} {a:Addr}
theorem FG{u:HO}(ok:aU P w H h)(e:Rd H a u):aN P w H h a u:=e.ok ok
theorem uN{kvs:List (Key × V)}(ok:aU P w H h)(e:Rd H a (.dK kvs)):kvs.length<=sizeLine/\(a==sysModules)=false/\∃vs,KV kvs vs/\h.DictOf (cS P w) a vs:=
 show aN P w H h a (.dK kvs)from FG ok e
theorem Kd{kvs:List (Key × V)}(ok:aU P w H h)(e:H a=some (.dK kvs)):kvs.length<=sizeLine/\(a==sysModules)=false/\∃vs,KV kvs vs/\h.DictOf (cS P w) a vs:=uN ok (.inl e)
theorem kZ{ks:List Key}(ok:aU P w H h)(e:g6 H a ks):(tupleKind (cS P w)).is h ks a:=by
 obtain⟨ws,q,e⟩:=e;obtain⟨_,its,r,⟨o,h1,h2,n,h3⟩,_⟩:=(show aN P w H h a (.tup ws)from ok a _ e);exact⟨o,its.toArray,n,h1,h2,h3,by simpa using Cj q r⟩
theorem uO{kvs:List (List Key × V)}(ok:aU P w H h)(e:Rd H a (.dT kvs)):kvs.length<=sizeLine/\(a==sysModules)=false/\∃xs,KT H kvs xs/\h.DictOfH (tupleKind (cS P w)) a xs:=by
 obtain⟨z,y,xs,r,o,es,ep,h1,h2,h3,h4,h5⟩:=(show aN P w H h a (.dT kvs)from FG ok e);refine⟨z,y,xs,r,o,es,ep,h1,h2,h3,h4,λx hx=>?_,h5⟩;have all:∀{l:List (List Key × V)} {m:List (List Key × Addr × Value)},KT H l m->∀x∈m,(tupleKind (cS P w)).is h x.1 x.2.1:=by
  intro l m q
  induction q with
  |nil=>intro x hx;exact nomatch hx
  | @cons p q ps qs hq t ih =>
   intro x hx
   rcases aP.mp hx with e|hx
   ·subst e
    exact kZ ok (by rw[<- hq.1];exact hq.2.1)
   ·exact ih x hx
 exact all r x hx
theorem Aa{kvs:List (List Key × V)}(ok:aU P w H h)(e:H a=some (.dT kvs)):kvs.length<=sizeLine/\(a==sysModules)=false/\∃xs,KT H kvs xs/\h.DictOfH (tupleKind (cS P w)) a xs:=uO ok (.inl e)
end
noncomputable def lL(H:Hp)(a:Addr)(y:V)(r:Option V):Prop:=
 (∃kvs k,Rd H a (.dK kvs)/\y=kV k/\r=cj kvs k)\/∃kvs k b,Rd H a (.dT kvs)/\y = .ref b/\g6 H b k/\r=cj kvs k
noncomputable def lM(H:Hp)(a:Addr)(y v:V)(H':Hp):Prop:=
 (∃kvs k,H a=some (.dK kvs)/\y=kV k/\kvs.length<sizeLine/\H'=upd H a (.dK (putK kvs k v))) \/
 ∃kvs k b,H a=some (.dT kvs)/\y = .ref b/\g6 H b k/\kvs.length<sizeLine/\H'=upd H a (.dT (putK kvs k v))
theorem lL.t{H:Hp}{a b:Addr}{kvs:List (List Key × V)}{k:List Key}(e:H a=some (.dT kvs))(eb:g6 H b k):lL H a (.ref b) (cj kvs k):=.inr ⟨kvs,k,b,.inl e,rfl,eb,rfl⟩
theorem lM.t{H:Hp}{a b:Addr}{kvs:List (List Key × V)}{k:List Key}{v:V}(e:H a=some (.dT kvs))(eb:g6 H b k)(hl:kvs.length<sizeLine):lM H a (.ref b) v (upd H a (.dT (putK kvs k v))):=.inr ⟨kvs,k,b,e,rfl,eb,hl,rfl⟩
section
variable {X:Cx} {pins:List (Addr × Obj)} {σ:St} {H:Hp} {s:Shared} {a:Addr} {y v:V} {u r:Value} {o:Option V} {A:Around} {E:Value->Shared->Prop}
theorem Inv.big(I:Inv X pins σ H s):sysModules<s.heap.objs.size:=by
 have h:mainGlobals<s.heap.objs.size:=(I.mod.glob.keeps I.bk).lt;exact yK (by decide) h
theorem pQ{h':Heap}{t':Nat}{ob:HO}(I:Inv X pins σ H s)(mu:lW (H a))(hs:Heap.SameBut a s.heap h')(he:∃q,h'.get? a=some q)(new:aN X.prog X.w (upd H a ob) h' a ob):
  Inv X pins σ (upd H a ob) {s with heap:=h',toks:=t'}:=
 I.write (x:=a) (e:=a) mu (.inl rfl) (λb q hb z=>(hs.2 b hb).trans z) he new
theorem Kc{P:Program}{w:World}{H':Hp}{h':Heap}{kvs:List (Key × V)}{vs:List (Key × Value)}(z:kvs.length<=sizeLine)(hd:(a==sysModules)=false)(rel:KV kvs vs)(dd:h'.DictOf (cS P w) a vs):aN P w H' h' a (.dK kvs):=⟨z,hd,vs,rel,dd⟩
theorem J_{H':Hp}{Q:Unit->Shared->Prop}(hu:A.units+1<cLine)(I:Inv X pins σ H s)(g:lM H a y v H')(ry:RelV y u)(rv:RelV v r)(h:∀s',Inv X pins σ H' s'->Q () s'):wpAny (model X.prog X.w) A (setItem (.ref a) u r) Q E s:=by
 rcases g with⟨kvs,k,e,ey,l,eH⟩|⟨kvs,k,b,e,ey,eb,l,eH⟩
 ·subst ey eH
  obtain⟨z,hd,vs,rel,dd⟩:=Kd I.hok e;have hz:vs.length<=sizeLine:=by rw[<- rel.length];exact z
  have hl:(putK kvs k v).length<=sizeLine:=by have:=CW kvs k v;omega
  refine wpAny_setItem_pairs (hsz:=hz) (vK ry) dd λh' gC hs=>h _ ?_;have he:∃q,h'.get? a=some q:=let⟨q,_,_,hq,_⟩:=gC;⟨q,hq⟩
  exact pQ I (by rw[e];exact True.intro) hs he (Kc hl hd (rel.put k rv) gC)
 ·subst ey eH
  cases(show u=Value.ref b from ry);obtain⟨z,hd,xs,rel,dd⟩:=Aa I.hok e;have hz:xs.length<=sizeLine:=by rw[<- dF rel];exact z
  have hl:(putK kvs k v).length<=sizeLine:=by have:=CW kvs k v;omega
  refine wpAny_setItem_heap (hsz:=hz) (zi hu) (kZ I.hok eb) dd λh' gC hs=>h _ ?_;obtain⟨q,es,ep,hq,h2,h3,h4,_,h5⟩:=gC;refine pQ I (by rw[e];exact True.intro) hs ⟨q,hq⟩ ⟨hl,hd,_,(rel.put k eb rv).keeps λc ys ec=>?_,q,es,ep,hq,h2,h3,h4,h5⟩;rw[ax (iq ec e (λz=>nomatch z))];exact ec
end
section
variable {X:Cx} {pins:List (Addr × Obj)} {σ:St} {H:Hp} {s:Shared} {a:Addr} {kvs:List (Key × V)} {k:Key} {u:Value} {A:Around} {E:Value->Shared->Prop}
end
noncomputable def Sj(td ty tv:TE):TS:=λD σ H=>tv σ H λv H1=>td σ H1 λx H2=>ty σ H2 λy H3=>∃a H4,x = .ref a/\lM H3 a y v H4/\D.nx σ H4
section
variable {X:Cx} {o i e value:Expr} {pos pos' tpos:Pos} {td ty tv:TE}
theorem Rc(hu:X.A.units+1<cLine)(ho:PE X o td)(hi:PE X i ty)(hv:PE X value tv)(hs:swapsWith value (some (.Subscript o i pos')) pos.line X.env=pure false):PS X (.Assign [.Subscript o i pos'] value pos) (Sj td ty tv):=by
 intro pins s σ H D I h;refine wpAny_Assign_Subscript (au (hv pins s σ H _ I h) λr s1 ⟨v,H1,I1,rv,q1⟩=>au (ho pins s1 σ H1 _ I1 q1) λu s2 ⟨x,H2,I2,rx,q2⟩=>au (hi pins s2 σ H2 _ I2 q2) λiv s3 ⟨y,H3,I3,ry,a,H4,ex,g,q3⟩=>?_) hs;subst ex;obtain rfl:u=Value.ref a:=rx;exact J_ hu I3 g ry rv λs4 I4=>⟨σ,H4,I4,q3⟩
end
theorem z_ {P:Program} {w:World} {H:Hp} (h:Heap) (hb:sysModules<h.objs.size):aN P w H (h.push {cls:=.type "dict", data:=.dict #[]}) h.objs.size (.dT []):=
 ⟨cA _,jo.mpr (bK (aY hb)),[],.nil,_,#[],0,aX _ rfl,⟨rfl,rfl,rfl⟩,rfl,rfl,List.nodup_nil⟩
noncomputable def TV:TE:=λ_ H Q=>∀p,H p=none->Q (.ref p) (upd H p (.dT []))
section
variable {X:Cx} {pos:Pos}
theorem QM:PE X (.Dict [] [] pos) TV:=λpins s σ H Q I h =>
 wpAny_Dict_empty ⟨.ref s.heap.objs.size,_,I.laid (a:=s.heap.objs.size) (o:=.dT []) (t':=s.toks) (λ_ _ q=>aB _ q) (aC _) (z_ s.heap I.big),rfl,h _ (I.hok.fresh (aC _))⟩
end
noncomputable def Hi:List (TE × TE)->St->Hp->(List (V × V)->Hp->Prop)->Prop
 | [],_,H,Q=>Q [] H
 | (tk,tv)::r,σ,H,Q=>tk σ H λx H1=>tv σ H1 λy H2=>Hi r σ H2 λps H3=>Q ((x,y)::ps) H3
abbrev VV:List (V × V)->List (Value × Value)->Prop:=Paired λp q=>RelV p.1 q.1/\RelV p.2 q.2
noncomputable def o_(X:Cx)(pos:Pos)(keys:List (Option Expr))(values:List Expr)(sF:List (TE × TE)):Prop:=
 ∀(pins:List (Addr × Obj)) (s:Shared) (σ:St) (H:Hp) (Q:List (V × V)->Hp->Prop),Inv X pins σ H s->Hi sF σ H Q ->
  wpAny (model X.prog X.w) X.A (evalPairs (pairTrees keys values X.env pos)) (λvs s'=>∃ps H',Inv X pins σ H' s'/\VV ps vs/\Q ps H') X.xe s
theorem Rb{X:Cx}{pos:Pos}:o_ X pos [] [] []:=λpins s σ H Q I h=>pairTrees_nil_walk ⟨[],H,I,.nil,h⟩
theorem Ra{X:Cx}{pos:Pos}{k v:Expr}{ks:List (Option Expr)}{vs:List Expr}{tk tv:TE}{sF:List (TE × TE)}(hk:PE X k tk)(hv:PE X v tv)(hr:o_ X pos ks vs sF):
  o_ X pos (some k::ks) (v::vs) ((tk,tv)::sF):=λpins s σ H Q I h =>
 pairTrees_cons_walk (au (hk pins s σ H _ I h) λu s1 ⟨x,H1,I1,rx,q1⟩=>au (hv pins s1 σ H1 _ I1 q1) λw2 s2 ⟨y,H2,I2,ry,q2⟩ =>
  au (hr pins s2 σ H2 _ I2 q2) λws s3 ⟨ps,H3,I3,rel,q3⟩=>⟨(x,y)::ps,H3,I3,.cons ⟨rx,ry⟩ rel,q3⟩)
structure M1 (X:Cx) (o:Expr) (m:Str) (apos:Pos) (e:Expr) (cpos:Pos):Prop where
 base:attributeBase o m X.env (eval o X.env)=eval o X.env
 few:((backTo cpos (starEach [e] X.env)).all (λx=>!x.1)&&(backToKw cpos (keywordEach [] X.env)).all (λx=>x.1.isSome)
  && decide (([e]:List Expr).length+([]:List Keyword).length+(if([]:List Keyword).isEmpty then 0 else 1)<30))=true
 line:(apos.endLine==cpos.line)=true
 trees:backTo cpos (starEach [e] X.env) = [(false,eval e X.env)]
noncomputable def yp(H:Hp)(a:Addr):Prop:=(∃kvs,Rd H a (.dK kvs))\/∃kvs,Rd H a (.dT kvs)
theorem NQ{X:Cx}{pins:List (Addr × Obj)}{σ:St}{H:Hp}{s:Shared}{a:Addr}(I:Inv X pins σ H s)(d:yp H a):
  s.TypeIs (.ref a) "dict" /\ (∀b,Value.ref a = .ref b->∃ob,s.heap.get? b=some ob/\ob.dict=none)/\(a==sysModules)=false:=by
 rcases d with⟨kvs,e⟩|⟨kvs,e⟩
 ·obtain⟨_,hd,vs,_,dd⟩:=uN I.hok e
  refine⟨dd.typeIs,λb q=>?_,hd⟩;cases q;obtain⟨ob,_,_,h1,h2,_⟩:=dd;exact⟨ob,h1,h2.2.1⟩
 ·obtain⟨_,hd,xs,_,dd⟩:=uO I.hok e
  refine⟨dd.typeIs,λb q=>?_,hd⟩;cases q;obtain⟨ob,_,_,h1,h2,_⟩:=dd;exact⟨ob,h1,h2.2.1⟩
section
variable {X:Cx} {pins:List (Addr × Obj)} {σ:St} {H:Hp} {s:Shared} {a:Addr} {y d:V} {u r:Value} {o:Option V} {A:Around} {E:Value->Shared->Prop}
theorem J9{Q:Value->Shared->Prop}(hu:A.units+1<cLine)(I:Inv X pins σ H s)(g:lL H a y o)(ry:RelV y u)(h:∀w' s',Inv X pins σ H s'->RelV (o.getD .non) w'->Q w' s'):
  wpAny (model X.prog X.w) A (call (.builtin "dict.get") [.ref a,u]) Q E s:=by
 rcases g with⟨kvs,k,e,ey,l⟩|⟨kvs,k,b,e,ey,eb,l⟩
 ·subst ey
  obtain⟨z,hd,vs,rel,dd⟩:=uN I.hok e;refine call_meetsIn y6 dd.typeIs Iy (Iu _ _) (meets_dict_get (cS X.prog X.w) a (vK ry) hd) ⟨_,dd.mapOf,h _ _ (I.tok _) ?_⟩;rw[l];exact(rel.val k).getD rfl
 ·subst ey
  cases(show u=Value.ref b from ry);obtain⟨z,hd,xs,rel,dd⟩:=uO I.hok e;refine call_meetsIn y6 dd.typeIs Iy (Iu _ _) (meetsH_dict_get (tupleKind (cS X.prog X.w)) a b hd) ⟨zi hu,k,xs,kZ I.hok eb,dd,h _ _ (I.tok _) ?_⟩;rw[l];exact(rel.val k).getD rfl
end
noncomputable def TQ(td ty:TE):TE:=λσ H Q=>td σ H λx H1=>∃a,x = .ref a/\yp H1 a/\ty σ H1 λy H2=>∃o,lL H2 a y o/\Q (o.getD .non) H2
section
variable {X:Cx} {o e f:Expr} {apos cpos:Pos} {td ty tx:TE}
theorem QK (hu:X.A.units+1<cLine) (ho:PE X o td) (he:PE X e ty) (m:M1 X o "get" apos e cpos):PE X (.Call (.Attribute o "get" apos) [e] [] cpos) (TQ td ty):=by
 intro pins s σ H Q I h;refine wpAny_Call_method m.base m.few m.line PySem.F.plainAttrs_dict y6 PySem.F.type_dict_get (au (ho pins s σ H _ I h) λu s1 ⟨x,H1,I1,rx,a,ex,d,q1⟩=>?_);subst ex;obtain rfl:u=Value.ref a:=rx;obtain⟨t1,t2,_⟩:=NQ I1 d;refine⟨t1,t2,?_⟩;rw[m.trees];refine Calls.callWith_builtin rfl (yX (Calls.spliced_cons (au (he pins s1 σ H1 _ I1 q1) λiv s2 ⟨y,H2,I2,ry,ov,g,q2⟩=>Calls.spliced_nil ?_)));exact J9 hu I2 g ry λw' s3 I3 ot=>⟨_,H2,I3,ot,q2⟩
end
section
variable {X:Cx} {pins:List (Addr × Obj)} {σ:St} {H:Hp} {s:Shared} {a:Addr} {kvs:List (Key × V)} {A:Around} {E:Value->Shared->Prop}
end
section
variable {X:Cx} {pins:List (Addr × Obj)} {σ:St} {H:Hp} {s:Shared} {a:Addr} {y:V} {u:Value} {A:Around} {E:Value->Shared->Prop}
end
end L2
namespace yi
open PySem PySem.W PySem.Calls PyProof.Rows
theorem NK{P:Params}{h:Heap}:∀(ns:List Int) (vs:List Value),WellAll P h vs (ns.map WData.int)->IntsAre vs ns:=by
 intro ns
 induction ns with
 |nil =>
  intro vs w;rw[List.map_nil]at w;cases w;exact .nil
 |cons n ns ih =>
  intro vs w;rw[cH]at w;cases w with
  |cons a b =>
   cases a;exact .cons _ _ (ih _ b)
theorem Ss{l:OpenLaw}{n:Nat}(hn:l.most=some n){P:Params}{h:Heap}{args:List WData}{vals:List Value}(hpre:l.row.toRowW.claim.pre args=true)(hwl:WellAll P h vals args):
  ∃a vs ns,vals = [Value.ref a]/\args = [WData.list (ns.map WData.int)]/\h.get? a=some {cls:=.type "list", data:=.seq vs.toArray}/\IntsAre vs ns/\ns.length<=n:=by
 have hsh:WShape.hasAll [] args [.list .int]=true:=(pre_splitW hpre).1;have hc:l.pre.holds [] {args:=args}=true:=(pre_splitW hpre).2;obtain⟨d,r,rfl,h1,h2⟩:=hasAllW_cons hsh;obtain rfl:=hasAllW_nil h2;obtain⟨xs,rfl,h3⟩:=hasW_list h1;obtain⟨ns,rfl⟩:=items_int h3;have hlen:ns.length<=n:=by
  unfold OpenLaw.pre at hc;have h4:(WTm.not (.lt (.lit (.int (n:Int))) (.len (.arg 0)))).holds [] {args:=[.list (ns.map .int)]}=true:=by
   have h4:=(holds_andW hc).1;rw[hn]at h4;exact h4
  have h5:=condW_of h4 (w_not (w_lt w_lit (w_len_list (w_arg rfl))));rw[ay]at h5;refine ji λq=>?_;have q':(n:Int)<((ns.length:Nat):Int):=by omega
  first
   | (rw[bE q']at h5;exact absurd h5 (by decide))
   | (simp at h5;omega)
 cases hwl with
 |cons w1 w2 =>
  cases w2;cases w1 with
  |list ho hall=>exact⟨_,_,ns,rfl,rfl,ho,NK ns _ hall,hlen⟩
theorem Q_(l:OpenLaw)(args:List WData):l.row.toRowW.claim.post args (.bool true) args=true:=
 postW_of (r:=l.row.toRowW) (X:=(true==true))
  (show WShape.has [] (.bool true) .bool=true by first|rfl|decide|simp[WShape.has,WShape.arms,WShape.armsAll])
  (show(WTm.eq .res (.lit (.bool true))).value [] {args:=args,res:=some (.bool true),after:=args}=some (.bool (true==true))from w_eq_bool (w_res rfl) w_lit) rfl
theorem Jj{l:OpenLaw}{n:Nat}{q:Program}{loose:List Str}{XP:(Str->Option Value)->Heap->Prop}{YP:World->Heap->Prop}{d:DefRec}(hn:l.most=some n)(hdf:d.params.defaults = [])
  (call:∀(w:World) (s₀ s₁:Shared) (mg mb:Str->Option Value) (fa:Addr) (o:Obj) (pm cd doc:Value) (a:Addr) (vs:List Value) (ns:List Int),
   Ground q loose [] XP w s₀ mg mb s₁.heap->YP w s₁.heap ->
   s₁.heap.get? fa=some o->o.data = .func (docDef d.name d.params d.body d.scope pm cd doc)->s₁.heap.CodeRec cd d.name->mg d.name=some (.ref fa) ->
   s₁.heap.get? a=some {cls:=.type "list", data:=.seq vs.toArray}->IntsAre vs ns->ns.length<=n->s₁.gens = #[] ->
   codeAny (model l.prog w) callerA (.call (.ref fa) ⟨[.ref a],[]⟩) (λr s'=>r = .ok (.ret (.bool true))/\OldK s₁.heap s'.heap/\s'.os=s₁.os/\AllBare s'.gens) s₁) :
  WalkO q loose XP YP l.row.toRowW d [] (λf vs=>PySem.call f vs):=by
 intro w s₀ s₁ mg mb G Y fa o pm cd doc dV kV ho hd hcd hD hmg hg args vals as hpre hlay hrd hwl hlo;obtain rfl:dV = .none:=Dflts.none hD hdf;obtain rfl:kV = .none:=Dflts.noKw hD;obtain⟨a,vs,ns,rfl,rfl,hobj,hints,hlen⟩:=Ss hn hpre hwl;refine enter_call (eL (call w s₀ s₁ mg mb fa o pm cd doc a vs ns G Y ho (fd_plain hd) hcd hmg hobj hints hlen hg) λr s' hq=>?_);obtain⟨rfl,h2,h3,h4⟩:=hq;exact⟨.inl ⟨.bool true,.bool true,[],rfl,λ_=>rfl,.bool true,Q_ l _,λ_=>⟨List.Pairwise.nil,λ_ hm=>(nomatch hm)⟩⟩,h2,h3,h4⟩
section
variable {prog:Program} {w:World} {A:Around} {E:Value->Shared->Prop} {s:Shared} {K:Frag}
end
end yi
namespace L2
open PySem PySem.Spec PyProof.Rows
theorem sJ:∀{vs:List Value} {ns:List Int},IntsAre vs ns->Vals (ns.map V.int) vs
 |_,_,.nil=>.nil
 |_,_,.cons n t h=>.cons ⟨t,rfl⟩ (sJ h)
noncomputable def inClass(s:Stmt)(j:Nat):Stmt:=match s with
 |.ClassDef _ _ _ body _ _ _ _ _ _ _=>body.getD j (.Pass ⟨0,0,0,0⟩)
 |_=>.Pass ⟨0,0,0,0⟩
noncomputable def hV(s:Stmt):Arguments:=match s with
 |.FunctionDef _ a _ _ _ _ _ _ _ _=>a
 |_=>{posonlyargs:=[],args:=[],vararg:=none,kwonlyargs:=[],kw_defaults:=[],kwarg:=none,defaults:=[]}
noncomputable def dI(s:Stmt):List Stmt:=match s with
 |.FunctionDef _ _ b _ _ _ _ _ _ _=>b
 |_=>[]
noncomputable def aq(s:Stmt):Scope:=match s with
 |.FunctionDef _ _ _ _ _ _ sc _ _ _=>sc
 |_=>{kind:=.function,names:=[],isGenerator:=false,isCoroutine:=false}
abbrev aW:eD:=λ_ _ _ _ _ _=>False
abbrev E0:XK:=λ_ _ _=>False
theorem qN{X:Cx}:Passes aW X E0:=λ_ _ _ _ _ _ _ h=>h.elim
structure aO (K:W.Frag) (x qual:Str) (st:Stmt) (f:Addr) (fd:FuncData):Prop where
 ex:∃(oc:Value) (od:Option Addr) (kV doc pm:Value) (an:Option Addr) (cdv ct:Value) (osl:Array (Option Value)),
  fd=W.fnOf x qual (hV st) (dI st) (aq st) .none kV doc pm an cdv ct/\K.lookup f=some ⟨oc,od,.func fd,osl⟩/\W.codeIn K cdv qual=true
 kp:W.keepIn K (.ref f)=true
section
variable {P:Program} {w:World} {K:W.Frag} {mg:Str->Option Value} {base:Heap}
theorem aO.ok{x qual:Str}{st:Stmt}{f:Addr}{fd:FuncData}{N ps:List Str}{k:Nat}{sp:Sp}(F:aO K x qual st f fd)(S:bf N ps (aq st))(len:∀vs H Q E,sp vs H Q E->vs.length=ps.length)(hbody:∀(cdv:Value) (A:Around) (outer:List Env) (s:Shared) (H:Hp) (vs:List V) (Q:VK) (E:XK),aV k (A.deeper (envOfC qual (aq st) s.heap.objs.size f cdv))->sp vs H Q E->∃t,cB (bu aW P w K mg base N qual (aq st) f cdv A outer s H E).nU (dI st) t/\t {nx:=λ_ H'=>Q .non H',rt:=Q} (start N vs) H):aL P w K mg base aW (k+1) f fd ps sp:=by
 obtain⟨oc,od,kV,doc,pm,an,cdv,ct,osl,rfl,lk,hcd⟩:=F.ex;refine vb lk hcd S len λA outer s H vs Q E hr hsp=>?_;obtain⟨t,h,q⟩:=hbody cdv A outer s H vs Q E hr hsp;exact⟨t,h.nU,q⟩
theorem aO.binds{x qual:Str}{st:Stmt}{f:Addr}{fd:FuncData}{ps:List Str}(F:aO K x qual st f fd)
  (h:∀(kV doc pm:Value) (an:Option Addr) (cdv ct:Value) (us:List Value),us.length=ps.length->bindArgs (W.fnOf x qual (hV st) (dI st) (aq st) .none kV doc pm an cdv ct) ⟨us,[]⟩=pure (ps.zip us)):Binds K fd ps []:=by
 obtain⟨oc,od,kV,doc,pm,an,cdv,ct,osl,rfl,lk,hcd⟩:=F.ex;exact .all (h kV doc pm an cdv ct)
theorem Aw{x qual:Str}{st:Stmt}{f:Addr}{oc:Value}{od an:Option Addr}{osl:Array (Option Value)}{kV doc pm cdv ct:Value}(l:K.lookup f=some ⟨oc,od,.func (W.fnOf x qual (hV st) (dI st) (aq st) .none kV doc pm an cdv ct),osl⟩)
  (c:W.codeIn K cdv qual=true) (k:W.keepIn K (.ref f)=true):aO K x qual st f (W.fnOf x qual (hV st) (dI st) (aq st) .none kV doc pm an cdv ct):=⟨⟨oc,od,kV,doc,pm,an,cdv,ct,osl,rfl,l,c⟩,k⟩
end
theorem BJ{A:Around}{k:Nat}(hr:aV k A):A.units+1<cLine:=lZ (Nat.add_le_add_left (by decide:1<=64) _) hr.units
theorem rM{n:Nat}(h:n<=1000):n<sizeLine:=lZ h (by decide)
section
variable {X:Cx}
theorem pv (i:Nat) {x:Str} {pos:Pos} (hN:X.N[i]?=some x:=by rfl) (hv:pE X.env.scope x:=by first|exact Or.inl rfl|exact Or.inr (Or.inl rfl)|exact Or.inr (Or.inr rfl)) (hd:(x==("__debug__" : Str))=false:=by decide)
  (hcd:(x==("__classdict__" : Str))=false:=by decide):PE X (.Name x pos) (xQ i):=QW hN hv hd hcd
end
theorem bF{A B:Prop}(h:B):if false=true then A else B:=by
 rw[if_neg Bool.false_ne_true];exact h
theorem dv{A B:Prop}(h:A):if true=true then A else B:=by
 rw[if_pos rfl];exact h
theorem cn{c A B:Prop}[Decidable c](h1:c->A)(h2:¬ c->B):if c then A else B:=by
 by_cases h:c
 ·rw[if_pos h]
  exact h1 h
 ·rw[if_neg h]
  exact h2 h
noncomputable def Same(H H':Hp):Prop:=∀b o,H b=some o->H' b=some o
theorem Same.refl(H:Hp):Same H H:=λ_ _ h=>h
theorem Same.trans{H H1 H2:Hp}(a:Same H H1)(b:Same H1 H2):Same H H2:=λc o h=>b c o (a c o h)
theorem Same.free{H H':Hp}(e:Same H H'){l:Addr}(h:H' l=Option.none):H l=Option.none:=by
 cases q:H l with
 |none=>rfl
 |some o =>
  rw[e l o q]at h;cases h
theorem Same.seq{K:W.Frag}{H H':Hp}{a:Addr}{xs:List V}(e:Same H H')(h:ao K H a xs):ao K H' a xs:=by
 rcases h with(h|⟨o,h⟩)|h
 ·exact .inl (.inl (e _ _ h))
 ·exact .inl (.inr ⟨o,e _ _ h⟩)
 ·exact .inr h
section
variable {κ:Type} [DecidableEq κ]
end
noncomputable def bh(cells:List (Str × Addr)):List (Str × NameKind)->List (Str × Addr)->List (Str × Addr)
 | [],acc=>acc
 | (n,k)::r,acc=>bh cells r (if(k==NameKind.free)=true then(n,(cells.lookup n).getD 0)::acc else acc)
theorem zS{cells:List (Str × Addr)}{x:Str}{c:Addr}:∀{names:List (Str × NameKind)} {acc:List (Str × Addr)},(bh cells names acc).lookup x=some c->acc.lookup x=some c\/((x,NameKind.free)∈names/\c=(cells.lookup x).getD 0)
 | [],acc,h=>.inl h
 | (n,k)::r,acc,h=>by
  unfold bh at h
  rcases zS h with h1|⟨h1,e⟩
  ·clear h
   split at h1
   ·rename_i hk
    rw[fj]at h1;cases hx:x==n with
    |true =>
     rw[hx]at h1;have hx':x=n:=by simpa using hx
     have hk':k = .free:=by simpa using hk
     subst hx' hk';exact .inr ⟨bO,(d5 h1).symm⟩
    |false =>
     rw[hx]at h1;exact .inl h1
   ·exact .inl h1
  ·exact .inr ⟨bI _ h1,e⟩
theorem pL{cells:List (Str × Addr)}{x:Str}:∀{names:List (Str × NameKind)} {acc:List (Str × Addr)} {c:Addr},acc.lookup x=some c->∃c',(bh cells names acc).lookup x=some c'
 | [],_,c,h=>⟨c,h⟩
 | (n,k)::r,acc,c,h=>by
  unfold bh
  split
  ·cases hx:x==n with
   |true=>exact pL (c:=(cells.lookup n).getD 0) (by rw[fj,hx])
   |false=>exact pL (c:=c) (by rw[fj,hx];exact h)
  ·exact pL h
theorem mY{cells:List (Str × Addr)}{x:Str}:∀{names:List (Str × NameKind)} {acc:List (Str × Addr)},(x,NameKind.free)∈names->∃c,(bh cells names acc).lookup x=some c
 | [],_,h=>nomatch h
 | (n,k)::r,acc,h=>by
  unfold bh
  rcases aP.mp h with e|h
  ·injection e with e1 e2
   subst e1;subst e2;exact pL (c:=(cells.lookup x).getD 0) (by simp)
  ·exact mY h
theorem pK{scope:Scope}{env:Env}(h:∀x∈scope.names,x.2 = .free->∃c,env.cells.lookup x.1=some c):closureFor scope env=pure (bh env.cells scope.names []):=by
 have go:∀(names:List (Str × NameKind)) (acc:List (Str × Addr)),(∀x∈names,x.2 = .free->∃c,env.cells.lookup x.1=some c) ->
   (forIn names acc λx cs=>if(x.2==NameKind.free)=true then do let c <- cellOf env x.1;pure (ForInStep.yield ((x.1,c)::cs))else pure (ForInStep.yield cs):Sem (List (Str × Addr)))=pure (bh env.cells names acc):=by
  intro names
  induction names with
  |nil=>intro acc _;rfl
  |cons x r ih =>
   intro acc hx;obtain⟨n,k⟩:=x;rw[oS];unfold bh;cases hk:k==NameKind.free with
   |true =>
    obtain⟨c,hc⟩:=hx (n,k) bO (by simpa using hk);simp only[hk,ig,cellOf,hc,pure_bind,Option.getD_some];exact ih _ λy hy=>hx y (bI _ hy)
   |false =>
    simp only[hk,fc,dC,pure_bind];exact ih _ λy hy=>hx y (bI _ hy)
 have e:=go scope.names [] h;have e2:closureFor scope env=(forIn scope.names [] λx cs=>if(x.2==NameKind.free)=true then do let c <- cellOf env x.1;pure (ForInStep.yield ((x.1,c)::cs))else pure (ForInStep.yield cs):Sem (List (Str × Addr)))>>=λcs=>pure cs:=by
  rfl
 rw[e2,e];rfl
theorem Di{env:Env}:∀{names:List (Str × NameKind)} {x:Str},names.lookup x=some .free ->
  (names.map λ(n,k)=>if(k==NameKind.free&&env.scope.kind==.function&&env.kindOf n==some .cell)then(n,NameKind.cell)else(n,k)).lookup x=some .cell \/
  (names.map λ(n,k)=>if(k==NameKind.free&&env.scope.kind==.function&&env.kindOf n==some .cell)then(n,NameKind.cell)else(n,k)).lookup x=some .free
 | [],_,h=>by simp at h
 | (n,k)::r,x,h=>by
  have ih:=@Di env r x;show List.lookup x ((if(k==NameKind.free&&env.scope.kind==.function&&env.kindOf n==some .cell)=true then(n,NameKind.cell)else(n,k))::_)=_\/List.lookup x ((if(k==NameKind.free&&env.scope.kind==.function&&env.kindOf n==some .cell)=true then(n,NameKind.cell)else(n,k))::_)=_;cases hx:x==n with
  |true =>
   simp only[fj,hx]at h;cases h
   by_cases hc:(NameKind.free==NameKind.free&&env.scope.kind==.function&&env.kindOf n==some .cell)=true
   ·rw[if_pos hc];simp[fj,hx]
   ·rw[if_neg hc];simp[fj,hx]
  |false =>
   simp only[fj,hx]at h
   by_cases hc:(k==NameKind.free&&env.scope.kind==.function&&env.kindOf n==some .cell)=true
   ·rw[if_pos hc];simp only[fj,hx];exact ih h
   ·rw[if_neg hc];simp only[fj,hx];exact ih h
theorem Dp{env:Env}:∀{names:List (Str × NameKind)} {x:Str},(∀y∈names,y.2≠.cell) ->
  ((names.map λ(n,k)=>if(k==NameKind.free&&env.scope.kind==.function&&env.kindOf n==some .cell)then(n,NameKind.cell)else(n,k)).lookup x=some .cell \/
  (names.map λ(n,k)=>if(k==NameKind.free&&env.scope.kind==.function&&env.kindOf n==some .cell)then(n,NameKind.cell)else(n,k)).lookup x=some .free)->(x,NameKind.free)∈names
 | [],_,_,h=>by simp at h
 | (n,k)::r,x,hn,h=>by
  have ih:=@Dp env r x λy hy=>hn y (bI _ hy)
  change List.lookup x ((if(k==NameKind.free&&env.scope.kind==.function&&env.kindOf n==some .cell)=true then(n,NameKind.cell)else(n,k))::_)=_\/List.lookup x ((if(k==NameKind.free&&env.scope.kind==.function&&env.kindOf n==some .cell)=true then(n,NameKind.cell)else(n,k))::_)=_ at h
  cases hx:x==n with
  |true =>
   have e:x=n:=by simpa using hx
   subst e
   by_cases hc:(k==NameKind.free&&env.scope.kind==.function&&env.kindOf x==some .cell)=true
   ·have hk:k = .free:=by
     have:=(cq _ _▸hc:_/\_).1;have:=(cq _ _▸this:_/\_).1;simpa using this
    subst hk;exact bO
   ·rw[if_neg hc]at h
    simp only[fj,hx]at h
    rcases h with h|h
    ·cases h;exact absurd rfl (hn _ bO)
    ·cases h;exact bO
  |false =>
   by_cases hc:(k==NameKind.free&&env.scope.kind==.function&&env.kindOf n==some .cell)=true
   ·rw[if_pos hc]at h;simp only[fj,hx]at h;exact bI _ (ih h)
   ·rw[if_neg hc]at h;simp only[fj,hx]at h;exact bI _ (ih h)
noncomputable def blk(X:Cx)(scope:Scope)(N':List Str)(C:Addr)(s₀:Shared)(H₀:Hp)(fp:List Addr):Cx:=
 {X with N:=N',s₀:=s₀,H₀:=H₀,env:=compEnvC scope (bh X.env.cells scope.names []) C X.env,outer:=X.stack,stack:=X.stack,ex:=fp,fn:=λ_=>false,pn:=[],xe:=λ_ _=>False}
structure d3 (X:Cx) (scope:Scope) (fr:List (Str × Nat)):Prop where
 kind:scope.kind = .function
 nQ:∀y∈scope.names,y.2≠.cell
 names:∀y∈scope.names,y.2 = .local->scope.names.lookup y.1=some .local
 free:∀y∈scope.names,y.2 = .free->X.env.scope.names.lookup y.1=some .cell\/X.env.scope.names.lookup y.1=some .free
 ix:∀p∈fr,X.N[p.2]?=some p.1/\scope.names.lookup p.1=some .free
noncomputable def blkσ(no:Nat)(fr:List (Str × Nat))(σ:St):St:=List.replicate no none++fr.map λp=>σ.getD p.2 none
noncomputable def Wk(σ σ':St):Prop:=σ.length=σ'.length/\∀(i:Nat) v,σ[i]?=some (some v)->σ'[i]?=some (some v)
theorem Wk.refl(σ:St):Wk σ σ:=⟨rfl,λ_ _ h=>h⟩
theorem Wk.set{σ σ':St}{i:Nat}{x:Option V}(h:Wk σ σ')(hi:σ[i]?=some none):Wk σ (σ'.set i x):=by
 refine⟨by rw[yA];exact h.1,λj v e=>?_⟩;have hj:j≠i:=by rintro rfl;rw[hi]at e;cases e
 rw[oU (bK hj)];exact h.2 j v e
section
variable {X:Cx} {pins:List (Addr × Obj)} {σ:St} {H:Hp} {s:Shared} {scope:Scope} {fr:List (Str × Nat)} {own:List Str} {fp:List Addr}
theorem d3.cell(B:d3 X scope fr)(ok:X.Ok):∀x∈scope.names,x.2 = .free->∃c,X.env.cells.lookup x.1=some c:=λx hx hk=>ok.has x.1 (B.free x hx hk)
theorem d3.sub(B:d3 X scope fr)(ok:X.Ok){x:Str}{c:Addr}(h:(bh X.env.cells scope.names []).lookup x=some c):X.env.cells.lookup x=some c:=by
 rcases zS h with h|⟨hm,e⟩
 ·simp at h
 ·obtain⟨c',hc⟩:=B.cell ok _ hm rfl
  rw[e,hc];rfl
theorem Jp(B:d3 X scope fr)(I:Inv X pins σ H s)(hf:∀b∈fp,cu X pins H b)(hfs:∀b∈fp,b<s.heap.objs.size){N':List Str}:(blk X scope N' s.heap.objs.size s H fp).Ok where
 mod:=I.ok.mod
 kind:=B.kind
 glob:=I.ok.glob
 blt:=I.ok.blt
 above:=aC _
 inj:=λx y c h1 h2=>I.ok.inj x y c (B.sub I.ok h1) (B.sub I.ok h2)
 has:=λx h=>mY (Dp B.nQ h)
 cab:=λx c h=>by cases h
 hd:=I.ok.hd
 frames:=I.ok.frames
 stk:=.inl rfl
 jw:=λb hb=>⟨aY (hfs b hb),λx c h=>(hf b hb).2.2.2.2.1 x c (B.sub I.ok h)⟩
 bs:=I.bs
 dB:=cy I.ok.dB I.sz
 gE:=λb o e hb=>by
  rcases(hf b hb).2.2.2.1 with h|h
  ·exact I.ok.gE b o e h
  ·exact absurd (cz (aI e) (cy I.ok.dB h)) (dz _)
 h_:=λb hb h=>by
  rcases aP.mp (I.sr b h)with e|h
  ·exact(hf b hb).2.1 e
  ·exact(hf b hb).2.2.1 h
 bZ:=I.stack
 eQ:=I.jT
theorem Jq(B:d3 X scope fr)(I:Inv X pins σ H s)(hf:∀b∈fp,cu X pins H b)(hfs:∀b∈fp,b<s.heap.objs.size){h1:Heap}{m:Str->Option Value}{tk:Nat}(hn:h1.Ns s.heap.objs.size m)
  (hk:∀b o,s.heap.get? b=some o->h1.get? b=some o):Inv (blk X scope (own++fr.map (·.1)) s.heap.objs.size s H fp) [] (blkσ own.length fr σ) H {s with heap:=h1,toks:=tk} where
 ok:=Jp B I hf hfs
 os:=rfl
 bare:=I.bare
 base:=Un.kept hk
 loc:=by
  refine⟨m,hn,λi x v e1 e2 e3=>?_⟩
  change (own++fr.map (·.1))[i]?=some x at e1
  unfold blkσ at e2
  by_cases hi:i<own.length
  ·rw[j6 (by simpa using hi),yw]at e2
   split at e2<;>cases e2
  ·rw[jh (by simpa using ji hi),bT]at e1
   rw[jh (by simpa using ji hi),bT,yz]at e2;cases hp:fr[i - own.length]? with
   |none=>rw[hp]at e1;cases e1
   |some p =>
    rw[hp]at e1 e2;simp only[yP,tW]at e1 e2;obtain⟨i1,i2⟩:=B.ix p (cX hp);subst e1;have e2':σ[p.2]?=some (some v):=by
     rw[aQ]at e2;cases q:σ[p.2]? with
     |none=>rw[q]at e2;cases e2
     |some z=>rw[q]at e2;exact congrArg some e2
    have kX:X.env.kindOf p.1=some .cell\/X.env.kindOf p.1=some .free:=B.free (p.1,.free) (gq i2) rfl;obtain⟨m',hn',hl'⟩:=I.loc;have vis:pE X.env.scope p.1:=.inr kX;obtain⟨u,r,l⟩:=hl' p.2 p.1 v i1 e2' vis;refine⟨u,r,.inr ⟨Di i2,?_⟩⟩
    rcases l with⟨k,_⟩|⟨_,c,hc,z⟩
    ·rcases kX with q|q<;>(rw[k]at q;cases q)
    ·obtain⟨c',hc'⟩:=mY (cells:=X.env.cells) (acc:=[]) (gq i2)
     have:=B.sub I.ok hc';rw[hc]at this;cases this;exact⟨c,hc',z.keeps hk⟩
 cell:=λx c h=>by
  obtain⟨v,z⟩:=I.cell x c (B.sub I.ok h);exact⟨v,z.keeps hk⟩
 free:=I.hok.fresh (aC _)
 cJ:=λx c h=>I.cJ x c (B.sub I.ok h)
 pin:=λp hp=>absurd (show p∈([]:List (Addr × Obj))from hp) (by simp)
 hok:=I.hok.kept hk
 len:=by
  unfold blkσ;show _=(own++fr.map (·.1)).length;simp
theorem Jo{s':Shared}{H':Hp}{σ':St}{pY:List (Addr × Obj)}{N':List Str}(I:Inv X pins σ H s)(hf:∀b∈fp,cu X pins H b)(J:Inv (blk X scope N' s.heap.objs.size s H fp) pY σ' H' s'):Inv X pins σ H' s':=
 I.call' J.os J.base J.hok J.bare λb hb=>⟨(hf b hb).2.2.2.1,(hf b hb).2.1,(hf b hb).2.2.2.2.1,(hf b hb).2.2.2.2.2⟩
end
noncomputable def ka(Y:Cx)(ifs:List Expr)(t:TT):Prop:=
 ∀(pins:List (Addr × Obj)) (s:Shared) (σ:St) (H:Hp) (Q:Bool->Hp->Prop),Inv Y pins σ H s->t σ H Q ->
  wpAny (model Y.prog Y.w) Y.A (forIn ifs true λc r=>if r=true then do let ok <- isTrue c Y.env (eval c Y.env);pure (ForInStep.yield ok)else pure (ForInStep.yield r)) (TP Y pins σ Q) Y.xe s
noncomputable def lD:TT:=λ_ H Q=>Q true H
theorem eX{Y:Cx}:ka Y [] lD:=λ_ _ _ H _ I h=>wpAny_tests_nil ⟨H,I,h⟩
theorem og{Y:Cx}{c:Expr}{t:TT}(h:PT Y c t):ka Y [c] t:=λpins s σ H Q I hq=>wpAny_tests_one (h pins s σ H Q I hq)
noncomputable def iG(J:It)(g:TG)(tc:TT)(te:TE)(σ₀:St)(D:Addr)(Q:Hp->Prop)(H:Hp):Prop:=
 ∃W:Nat->Nat->List V->Hp->Prop,(∃m,W 0 m [] H)/\∀i m ys H,W i m ys H ->
  (J.stop i H/\Q H)\/(J.go i H/\∃N:List V->Hp->Prop,(∀ys' H',N ys' H'->∃m',m'<m/\W (i+1) m' ys' H')/\∀x H',J.jY i H x H'->g x σ₀ H' λσ2 H2=>Wk σ₀ σ2 /\
   tc σ2 H2 λb H3=>if b=true then te σ2 H3 λy H4=>H4 D=some (.lst ys)/\ys.length<sizeLine/\N (ys++[y]) (upd H4 D (.lst (ys++[y])))else N ys H3)
theorem Inv.U8{X:Cx}{pins:List (Addr × Obj)}{σ σ':St}{H:Hp}{s:Shared}(I:Inv X pins σ' H s)(h:Wk σ σ'):Inv X pins σ H s:=I.weak h.1 h.2
theorem J0{Y:Cx}{elt tg iter:Expr}{ifs:List Expr}{scope:Scope}{pos:Pos}{it D:Addr}{fp:List Addr}{tn:Nat->Heap->Prop}{J:It}{g:TG}{tc:TT}{te:TE}{σ₀:St}{H:Hp}{s:Shared}{Q:Hp->Prop}
  (hc:Y.calm=true) (T:Turn Y.prog Y.w Y.K tg J fp it tn) (hg:PG Y tg g) (hif:ka Y ifs tc) (he:PE Y elt te)
  (I:Inv Y [] σ₀ H s) (st:tn 0 s.heap) (hf:∀b∈fp,cu Y [] H b) (hw:iG J g tc te σ₀ D Q H) (hx:Y.xe=λ_ _=>False) :
  codeAny (model Y.prog Y.w) Y.A (.compLoop (.ListComp elt [⟨tg,iter,ifs,0⟩] scope pos) 0 (.ref it) (.ref D) Y.env) (λr s'=>∃H',r = .ok .next/\Inv Y [] σ₀ H' s'/\Q H') s:=by
 obtain⟨W,⟨m0,w0⟩,turn⟩:=hw;have stat:∀{H':Hp},(∀b∈fp,H' b=none)->∀b∈fp,cu Y [] H' b:=λhn b hb=>⟨hn b hb,(hf b hb).2⟩;refine codeAny_loop rfl (λn s'=>∃i ys H',Inv Y [] σ₀ H' s'/\tn i s'.heap/\(∀b∈fp,H' b=none)/\W i n ys H') ?_ m0 ⟨0,[],H,I,st,λb hb=>(hf b hb).1,w0⟩;rintro n s3 ⟨i,ys,H3,I3,st3,m8,w3⟩;show wpAny _ Y.A ((compTurn (.ListComp elt [⟨tg,iter,ifs,0⟩] scope pos) 0 (.ref it) (.ref D) Y.env).onRaise (λx=>do noteFrame x Y.env;theTreesLotGoes x)) _ _ s3;refine wpAny_noted ?_;rw[compTurn_list];refine ae (wpAny_standAt (ae ?_));have Ut:∀{α:Type} {t:Sem α} {P:α->Shared->Prop} {E:Value->Shared->Prop} {s:Shared},wpAny (model Y.prog Y.w) Y.A t P Y.xe s->wpAny (model Y.prog Y.w) Y.A t P E s:=λ{α t P E s} h=>by
  rw[hx]at h;exact dg h (λ_ _ q=>q) λ_ _ q=>q.elim
 rcases turn i n ys H3 w3 with⟨stop,qn⟩|⟨go,N,hN,step⟩
 ·refine au (T.done Y rfl rfl rfl hc i [] s3 σ₀ H3 _ I3 (stat m8) st3 stop) λr s4 ⟨hr,I4⟩=>?_
  subst hr;exact ah ⟨H3,rfl,I4,qn⟩
 ·refine au (T.item Y rfl rfl rfl hc i [] s3 σ₀ H3 _ I3 (stat m8) st3 go) λr s4 ⟨u,hr,h4⟩=>?_
  subst hr;refine ae (au h4 λ_ s5 ⟨x,H5,I5,r5,y5,gI,vd⟩=>?_);have tq:=I5.pinned (stat vd) (T.obj _ _ gI);refine ae (Ut (au (hg _ s5 σ₀ H5 x u _ tq r5 (step x H5 y5)) λ_ s6 ⟨σ6,H6,I6,Hw,q6⟩=>?_));have again:∀{s7:Shared} {σ7:St} {sN:List V} {H7:Hp},Inv Y ([]++oh fp s5.heap) σ7 H7 s7->Wk σ₀ σ7->N sN H7->∃m,m<n/\∃i ys H',Inv Y [] σ₀ H' s7/\tn i s7.heap/\(∀b∈fp,H' b=none)/\W i m ys H':=λ{s7 σ7 sN H7} I7 U9 n7=>by
   obtain⟨m',hm,w7⟩:=hN sN H7 n7;refine⟨m',hm,i+1,sN,H7,(I7.sH).U8 U9,T.keep _ _ _ gI λb hb o e=>(I7.pin (b,o) (eI _ (eI _ (qy hb e)))).1,λb hb=>?_,w7⟩;obtain⟨o,e,d⟩:=T.obj _ _ gI b hb;exact(I7.pin (b,o) (eI _ (eI _ (qy hb e)))).2.1
  refine ae (dg (hif _ s6 σ6 H6 _ I6 q6) (λok s7 ⟨H7,I7,q7⟩=>?_) λ_ _ q=>by rw[hx]at q;exact q.elim);cases ok with
  |false=>exact ah ⟨rfl,again I7 Hw q7⟩
  |true =>
   refine ae (ae (dg (he _ s7 σ6 H7 _ I7 q7) (λv s8 ⟨y,H8,I8,r8,hD,hz,n8⟩=>?_) λ_ _ q=>by rw[hx]at q;exact q.elim));refine ae (dg (v8 _ s8 σ6 H8 (.ref D) [y] (.ref D) [v] (λ_ H9=>N (ys++[y]) H9) I8 rfl (.cons r8 .nil) ⟨D,ys,y,rfl,rfl,hD,hz,n8⟩) (λz s9 ⟨_,H9,I9,_,n9⟩=>?_) λ_ _ q=>by rw[hx]at q;exact q.elim);exact ah (ah ⟨rfl,again I9 Hw n9⟩)
noncomputable def Hc(wi:TI)(no:Nat)(fr:List (Str × Nat))(g:TG)(tc:TT)(te:TE):TE:=λσ H Q=>wi σ H λJ H1=>∀D,H1 D=none->iG J g tc te (blkσ no fr σ) D (λH'=>Q (.ref D) H') (upd H1 D (.lst []))
section
variable {X:Cx} {elt tg iter:Expr} {ifs:List Expr} {scope:Scope} {pos:Pos} {own:List Str} {fr:List (Str × Nat)} {wi:TI} {g:TG} {tc:TT} {te:TE}
theorem zU{pins:List (Addr × Obj)}{σ:St}{H2:Hp}{s2:Shared}{it:Addr}{fp:List Addr}{tn:Nat->Heap->Prop}{J:It}{Qd:V->Hp->Prop}{RR:Value->Addr->Result->Shared->Prop}{E:Value->Shared->Prop}(hc:X.calm=true)(B:d3 X scope fr)
  (hb:∀(C:Addr) (s₀:Shared) (H₀:Hp) (fp:List Addr),PG (blk X scope (own++fr.map (·.1)) C s₀ H₀ fp) tg g/\ka (blk X scope (own++fr.map (·.1)) C s₀ H₀ fp) ifs tc/\PE (blk X scope (own++fr.map (·.1)) C s₀ H₀ fp) elt te)
  (I2:Inv X pins σ H2 s2) (T:Turn X.prog X.w X.K tg J fp it tn) (st2:tn 0 s2.heap) (f2:∀b∈fp,cu X pins H2 b)
  (hw:∀D,H2 D=none->iG J g tc te (blkσ own.length fr σ) D (λH'=>Qd (.ref D) H') (upd H2 D (.lst [])))
  (hR:∀(D C:Addr) (s':Shared) (H':Hp) (m:Str->Option Value),Inv X pins σ H' s'->s'.heap.Ns C m->H' C=none->C≠X.env.locals->X.s₀.heap.objs.size<=C->(∀x c,X.env.cells.lookup x=some c->c≠C)->(∀p∈X.pn++pins,p.1≠C) ->
   Qd (.ref D) H'->RR (.ref D) C (.ok .next) s') :
  wpAny (model X.prog X.w) X.A (newList []) (λacc s₃=>wpAny (model X.prog X.w) X.A (newFunctionEnv scope X.env.globals (bh X.env.cells scope.names []) [] X.env.qual none .none (some X.env)) (λcenv s₄ =>
   codeAny (model X.prog X.w) X.A (.compStart (.ListComp elt [⟨tg,iter,ifs,0⟩] scope pos) 0 (.ref it) acc {cenv with scope:=relabel scope X.env}) (RR acc cenv.locals) s₄) E s₃) E s2:=by
 refine gX (wpAny_newFunctionEnv B.nQ (by intro y hy;simp at hy) (λh₁ hns₁ hsb₁=>?_) B.kind);dsimp only at hns₁ hsb₁ ⊢;have hD:H2 s2.heap.objs.size=none:=I2.fresh;have I3:Inv X pins σ (upd H2 s2.heap.objs.size (.lst [])) {s2 with heap:=s2.heap.push {cls:=.type "list", data:=.seq ([]:List Value).toArray},toks:=s2.toks}:=I2.vW .nil (by simp);have Dk:∀b∈fp,b<s2.heap.objs.size:=λb hb=>by obtain⟨o,e,_⟩:=T.obj _ _ st2 b hb;exact aI e
 have f3:∀b∈fp,cu X pins (upd H2 s2.heap.objs.size (.lst [])) b:=λb hb=>⟨by rw[ax (aY (Dk b hb))];exact(f2 b hb).1,(f2 b hb).2⟩;generalize hs3:({s2 with heap:=s2.heap.push {cls:=.type "list", data:=.seq ([]:List Value).toArray},toks:=s2.toks}:Shared)=s3 at I3;have e3:s3.heap=s2.heap.push {cls:=.type "list", data:=.seq ([]:List Value).toArray}:=by rw[<- hs3]
 have Dl:∀b∈fp,b<s3.heap.objs.size:=λb hb=>by rw[e3,d6];exact o7 (Dk b hb)
 have eC:(s2.heap.push {cls:=.type "list", dict:=none,data:=.seq ([]:List Value).toArray}).objs.size=s3.heap.objs.size:=by rw[e3]
 have old:∀b o,s3.heap.get? b=some o->h₁.get? b=some o:=λb o e=>by
  have hb:b<s3.heap.objs.size:=aI e;rw[e3]at e;exact hsb₁.extBut b o (by rw[eC];exact aY hb) (aB _ e)
 rw[eC]at hns₁ ⊢;have IY:Inv (blk X scope (own++fr.map (·.1)) s3.heap.objs.size s3 (upd H2 s2.heap.objs.size (.lst [])) fp) [] (blkσ own.length fr σ) (upd H2 s2.heap.objs.size (.lst [])) {s3 with heap:=h₁,toks:=s2.toks+([]:List (Str × Value)).length}:=
  Jq (own:=own) B I3 f3 Dl hns₁ old
 have st3:tn 0 h₁:=T.keep _ _ _ st2 λb hb o e=>old b o (by rw[e3];exact aB _ e);have fY:∀b∈fp,cu (blk X scope (own++fr.map (·.1)) s3.heap.objs.size s3 (upd H2 s2.heap.objs.size (.lst [])) fp) [] (upd H2 s2.heap.objs.size (.lst [])) b:=λb hb =>
  ⟨(f3 b hb).1,aY (Dl b hb),(IY.ok.h_ b hb),.inl hb,(IY.ok.jw b hb).2,λp hp=>absurd (show p∈([]:List (Addr × Obj))from hp) (by simp)⟩
 obtain⟨b1,b2,b3⟩:=hb s3.heap.objs.size s3 (upd H2 s2.heap.objs.size (.lst [])) fp;have loop:=J0 (Y:=blk X scope (own++fr.map (·.1)) s3.heap.objs.size s3 (upd H2 s2.heap.objs.size (.lst [])) fp) (iter:=iter) (scope:=scope) (pos:=pos) hc T b1 b2 b3 IY st3 fY (hw _ hD) rfl;have Dj:codeAny (model X.prog X.w) X.A (.compLoop (.ListComp elt [⟨tg,iter,ifs,0⟩] scope pos) 0 (.ref it) (.ref s2.heap.objs.size) (compEnvC scope (bh X.env.cells scope.names []) s3.heap.objs.size X.env)) (RR (.ref s2.heap.objs.size) s3.heap.objs.size) {s3 with heap:=h₁,toks:=s2.toks+([]:List (Str × Value)).length}:=by
  refine eL loop λr s' ⟨H',hr,J',q⟩=>?_;subst hr;obtain⟨m',hn',_⟩:=id J'.loc;refine hR s2.heap.objs.size s3.heap.objs.size s' H' m' (Jo I3 f3 J') hn' J'.free (eK I3.lt) I3.sz (λx c e=>?_) (λp hp z=>?_) q
  ·obtain⟨v,z⟩:=I3.cell x c e
   exact aY z.lt
  ·exact absurd (aI (I3.pin p hp).1) (by rw[z];exact dz _)
 have es:({s2 with heap:=h₁,toks:=s2.toks+([]:List (Str × Value)).length}:Shared) = {s3 with heap:=h₁,toks:=s2.toks+([]:List (Str × Value)).length}:=by rw[<- hs3]
 rw[es];exact codeAny_compStart_list Dj (T.self X.A 0 _ _ _ st3 Dj)
theorem dS(hc:X.calm=true)(B:d3 X scope fr)(hi:PI X tg iter wi)
  (hb:∀(C:Addr) (s₀:Shared) (H₀:Hp) (fp:List Addr),PG (blk X scope (own++fr.map (·.1)) C s₀ H₀ fp) tg g/\ka (blk X scope (own++fr.map (·.1)) C s₀ H₀ fp) ifs tc/\PE (blk X scope (own++fr.map (·.1)) C s₀ H₀ fp) elt te)
  (hs:∀x,foldedSetIterable iter X.env x=pure x:=by intro _;rfl):PE X (.ListComp elt [⟨tg,iter,ifs,0⟩] scope pos) (Hc wi own.length fr g tc te):=by
 intro pins s σ H Q I h;rw[eval_ListComp];refine wpAny_comprehension_free (use:=none) rfl hs (pK (B.cell I.ok)) B.kind B.names (au (hi pins s σ H _ I h) λv s1 h1=>au h1 λitv s2 h2=>?_);obtain⟨it,fp,tn,J,H2,e,I2,T,st2,f2,hD⟩:=h2;subst e;refine zU (own:=own) (Qd:=Q) (RR:=λacc C=>compPost (model X.prog X.w) X.A X.xe none (EP X pins σ Q) acc C) hc B hb I2 T st2 f2 hD ?_;intro D C s' H' m I' hn hC c1 c2 c3 c4 q;exact⟨m,hn,λh' sb=>⟨.ref D,H',I'.turned (t':=s'.toks) (λb o hb e=>sb.extBut b o hb e) hC (bK c1).symm (.inr c2) c3 c4,rfl,q⟩⟩
theorem wX{i:Nat}{x:Str}{py spos:Pos}(hN:X.N.Nodup)(hx:X.N[i]?=some x)(hl:X.env.scope.names.lookup x=some .local)(hc:X.calm=true)(B:d3 X scope fr)(hi:PI X tg iter wi)
  (hb:∀(C:Addr) (s₀:Shared) (H₀:Hp) (fp:List Addr),PG (blk X scope (own++fr.map (·.1)) C s₀ H₀ fp) tg g/\ka (blk X scope (own++fr.map (·.1)) C s₀ H₀ fp) ifs tc/\PE (blk X scope (own++fr.map (·.1)) C s₀ H₀ fp) elt te)
  (hsw:swapsWith (.ListComp elt [⟨tg,iter,ifs,0⟩] scope pos) (some (.Name x py)) spos.line X.env=pure true:=by rfl)
  (hs:∀x,foldedSetIterable iter X.env x=pure x:=by intro _;rfl):PS X (.Assign [.Name x py] (.ListComp elt [⟨tg,iter,ifs,0⟩] scope pos) spos) (su (Hc wi own.length fr g tc te) (bq i)):=by
 intro pins s σ H D0 I h;rw[exec_Assign_Name_used _ _ _ _ hsw];refine ae (wpAny_standAt (ae ?_));show wpAny _ X.A (do let _ <- comprehension (.ListComp elt [⟨tg,iter,ifs,0⟩] scope pos) scope X.env _ (newList []) false (eval iter X.env) (some (assign (.Name x py) X.env))) _ _ s;refine ae (dg (wpAny_comprehension_free (use:=some (assign (.Name x py) X.env)) (Q:=λ_ s'=>SP X pins D0 .next s') rfl hs (pK (B.cell I.ok)) B.kind B.names
  (au (hi pins s σ H _ I h) λv s1 h1=>au h1 λitv s2 h2=>?_)) (λ_ s' hq=>ah (ah hq)) λ_ _ e=>e)
 obtain⟨it,fp,tn,J,H2,e,I2,T,st2,f2,hD⟩:=h2;subst e;refine zU (own:=own) (Qd:=λv H'=>bq i v σ H' D0.nx) (RR:=λacc C=>compPost (model X.prog X.w) X.A X.xe (some (assign (.Name x py) X.env)) (λ_ s'=>SP X pins D0 .next s') acc C) hc B hb I2 T st2 f2 hD ?_;intro D C s' H' m I' hn hC c1 c2 c3 c4 q;show wpAny _ X.A (assign (.Name x py) X.env (.ref D)) _ _ _;refine wpAny_assign_Name (xM I' hN hx (.inl hl) (v:=.ref D) rfl (λs'' H_ ⟨a,sb,ha⟩=>?_) (.inr hl));have L_:C≠a:=by
  rcases ha with rfl|ha
  ·exact c1
  ·exact λe=>c3 x a ha e.symm
 refine⟨m,hn.sameBut sb L_,λh' Sr=>?_⟩;exact⟨_,H',H_.turned (t':=s''.toks) (λb o hb e=>Sr.extBut b o hb e) hC c1 (.inr c2) c3 c4,q⟩
end
noncomputable def bj(b:Bool)(h:Heap)(it a:Addr)(i:Nat):Prop:=match b with
 |true=>h.IsListIter it a i
 |false=>h.IsTupleIter it a i
noncomputable def bD(b:Bool)(h:Heap)(a:Addr)(items:Array Value):Prop:=match b with
 |true=>h.IsList a items
 |false=>h.IsTuple a items
theorem bj.at{b:Bool}{h h':Heap}{it a:Addr}{i:Nat}(x:bj b h it a i)(k:∀o,h.get? it=some o->h'.get? it=some o):bj b h' it a i:=by
 cases b with
 |true=>exact Heap.IsListIter.at x k
 |false=>exact Heap.IsTupleIter.at x k
theorem bD.at{b:Bool}{h h':Heap}{a:Addr}{items:Array Value}(x:bD b h a items)(k:∀o,h.get? a=some o->h'.get? a=some o):bD b h' a items:=by
 cases b with
 |true=>exact Heap.IsList.at x k
 |false=>obtain⟨o,e,r⟩:=x;exact⟨o,k o e,r⟩
theorem bj.obj{b:Bool}{h:Heap}{it a:Addr}{i:Nat}(x:bj b h it a i):∃o,h.get? it=some o/\∀v,o.data≠.cell v:=by
 cases b with
 |true=>obtain⟨o,e,c,d⟩:=x;exact⟨o,e,λv z=>by rw[d]at z;cases z⟩
 |false=>obtain⟨o,e,c,d⟩:=x;exact⟨o,e,λv z=>by rw[d]at z;cases z⟩
section
variable {prog:Program} {w:World} {A:Around} {E:Value->Shared->Prop} {s:Shared}
theorem PB{it l:Addr}{i:Nat}{items:Array Value}{x:Value}{Q:Value->Shared->Prop}(hit:s.heap.IsTupleIter it l i)(hl:s.heap.IsTuple l items)(hx:items[i]?=some x)
  (hQ:∀h',h'.IsTupleIter it l (i+1)->Heap.SameBut it s.heap h'->Q x {s with heap:=h'}):wpAny (model prog w) A (Builtin.SmallTypes.nextOf (.ref it)) Q E s:=by
 obtain⟨o,ho,hc,hd⟩:=id hit;obtain⟨ol,hol,_,nl,hdl⟩:=hl;unfold Builtin.SmallTypes.nextOf;refine ae (gW (name:=Str.ofString "__next__") hit.typeIs t6 (eN t6 hit.typeIs IK ?_ (Iw _)));show wpAny _ _ (field (.ref it) 0>>=_) _ _ s;refine ae (df ho hd (x:=.ref l) rfl ?_);show wpAny _ _ (if(Value.ref l==Value.none)=true then _ else _) _ _ s;rw[if_neg (show ¬ ((Value.ref l==Value.none)=true)from Bool.false_ne_true)];show wpAny _ _ (field (.ref it) 1>>=_) _ _ s;refine ae (df ho hd (x:=.int i 0) rfl ?_);show wpAny _ _ (seqItems? (.ref l)>>=_) _ _ s;refine ae (gY hol hdl ?_);simp only[bX,hx];refine ae (jn ho hd (by simp) (ah ⟨x,rfl,ah (hQ _ ?_ (mz ..))⟩));exact⟨_,gf _ ho (kg (gj hd _)),(y9 ..).trans hc,by rw[gj hd];simp[rawInt]⟩
theorem PJ{it l:Addr}{i:Nat}{items:Array Value}{Q:Value->Shared->Prop}(hh:A.handled=none)(hit:s.heap.IsTupleIter it l i)(hl:s.heap.IsTuple l items)(hx:items[i]?=none)
  (hE:∀h' e,Heap.ExtBut it s.heap h'->(∃o,h'.get? e=some o/\o.cls = .type "StopIteration")->E (.ref e) {s with heap:=h'}):wpAny (model prog w) A (Builtin.SmallTypes.nextOf (.ref it)) Q E s:=by
 obtain⟨o,ho,hc,hd⟩:=id hit;obtain⟨ol,hol,_,nl,hdl⟩:=hl;unfold Builtin.SmallTypes.nextOf;refine ae (gW (name:=Str.ofString "__next__") hit.typeIs t6 (eN t6 hit.typeIs IK ?_ (Iw _)));show wpAny _ _ (field (.ref it) 0>>=_) _ _ s;refine ae (df ho hd (x:=.ref l) rfl ?_);show wpAny _ _ (if(Value.ref l==Value.none)=true then _ else _) _ _ s;rw[if_neg (show ¬ ((Value.ref l==Value.none)=true)from Bool.false_ne_true)];show wpAny _ _ (field (.ref it) 1>>=_) _ _ s;refine ae (df ho hd (x:=.int i 0) rfl ?_);show wpAny _ _ (seqItems? (.ref l)>>=_) _ _ s;refine ae (gY hol hdl ?_);simp only[bX,hx];refine ae (iM (ae (jn ho hd (by simp) ?_)));show wpAny _ _ (newExc (.type "StopIteration") []>>=_) _ _ _;refine ae ?_;simp only[newExc,newTuple];refine ae (gX ?_ (by size_fits));refine ae (m:=firstArgMember _ _) (pz (a:=Value.none) (by first|rfl | (simp only[firstArgMember];rfl)) ?_);refine gX ?_ (by size_fits);simp only[raiseNew];refine ae (wpAny_handled ?_)
 first|rw[show A.in1.handled=none from hh] | rw[hh]
 refine ae (ah (wpAny_throw ?_));exact hE _ _ (((mz ..).extBut.push _).push _) ⟨_,aX _ rfl,rfl⟩
theorem qE{b:Bool}{it l:Addr}{i:Nat}{items:Array Value}{x:Value}{Q:Value->Shared->Prop}(hit:bj b s.heap it l i)(hl:bD b s.heap l items)(hx:items[i]?=some x)
  (hQ:∀h',bj b h' it l (i+1)->Heap.SameBut it s.heap h'->Q x {s with heap:=h'}):wpAny (model prog w) A (Builtin.SmallTypes.nextOf (.ref it)) Q E s:=by
 cases b with
 |true=>exact wpAny_nextOf_list_item hit hl hx hQ
 |false=>exact PB hit hl hx hQ
theorem wk{b:Bool}{it l:Addr}{i:Nat}{items:Array Value}{Q:Value->Shared->Prop}(hh:A.handled=none)(hit:bj b s.heap it l i)(hl:bD b s.heap l items)(hx:items[i]?=none)
  (hE:∀h' e,Heap.ExtBut it s.heap h'->(∃o,h'.get? e=some o/\o.cls = .type "StopIteration")->E (.ref e) {s with heap:=h'}):wpAny (model prog w) A (Builtin.SmallTypes.nextOf (.ref it)) Q E s:=by
 cases b with
 |true=>exact wpAny_nextOf_list_end hh hit hl hx hE
 |false=>exact PJ hh hit hl hx hE
end
abbrev fD (h:Heap) (z TI TO:Addr) (f0:Value) (b:Bool):Prop:=
 h.get? z=some {cls:=.type "zip", dict:=none,data:=.fields #[f0,.bool b,.bool false,.ref TI,.ref TO],slots:=#[]}
section
variable {prog:Program} {w:World} {A:Around} {E:Value->Shared->Prop} {s:Shared} {c1 c2:Bool} {z TI TO i1 i2 l1 l2:Addr} {k1 k2:Nat} {xs ys:Array Value} {x y a b:Value}
theorem Vp{f0:Value}{bb:Bool}{Q:Value->Shared->Prop}(D:ZipApart z TI TO i1 i2 l1 l2)(hz:fD s.heap z TI TO f0 bb)(hfree:∀{A':Around} {E':Value->Shared->Prop} {Q':Bool->Shared->Prop},Q' true s->wpAny (model prog w) A' (Builtin.SmallTypes.ownedTupleIsFree (.ref z)) Q' E' s)(hTI:IsPair s.heap TI (.ref i1) (.ref i2))(hTO:IsPair s.heap TO a b)(h1:bj c1 s.heap i1 l1 k1)(h2:bj c2 s.heap i2 l2 k2)(hl1:bD c1 s.heap l1 xs)(hl2:bD c2 s.heap l2 ys)(hx:xs[k1]?=some x)(hy:ys[k2]?=some y)(hQ:∀h',IsZip h' z TI TO (rawInt s.heap.objs.size)->IsPair h' TO x y->bj c1 h' i1 l1 (k1+1)->bj c2 h' i2 l2 (k2+1)->IsPair h' s.heap.objs.size x y->h'.objs.size=s.heap.objs.size+1 ->
   (∀c o,c≠z->c≠TO->c≠i1->c≠i2->s.heap.get? c=some o->h'.get? c=some o)->Q (.ref s.heap.objs.size) {s with heap:=h'}) :
  wpAny (model prog w) A (Builtin.«zip.__next__» ⟨[.ref z],[]⟩) (λfin s'=>∃v,fin = .done (.ret v)/\Q v s') E s:=by
 show wpAny _ _ (field (.ref z) 2>>=_) _ _ _;refine ae (df hz rfl (x:=.bool false) rfl ?_);show wpAny _ _ (field (.ref z) 3>>=_) _ _ _;refine ae (df hz rfl (x:=.ref TI) rfl ?_);refine ae (gY hTI rfl ?_);show wpAny _ _ (Builtin.SmallTypes.ownedTupleIsFree (.ref z)>>=_) _ _ _;refine ae (hfree ?_);simp only[ig];refine ae (iM ?_);refine ae (df hz rfl (x:=.ref TO) rfl ?_);refine ae (fM hz (by simp) λg1 hz1 e1=>?_)
 replace hz1:fD g1 z TI TO .ellipsis bb:=hz1
 refine ae ?_;simp only[yD,yE,oS,tG];refine ae (ae (uc ?_));show wpAny _ _ (Builtin.SmallTypes.nextOf (.ref i1)>>=_) _ _ _;refine ae (qE (h1.at λo q=>e1.extBut _ o D.i1z q) (hl1.at λo q=>e1.extBut _ o D.l1z q) hx λg2 h1' e2=>ah ?_);have ny:IsPair g2 TO a b:=e2.extBut _ _ D.TOi1 (e1.extBut _ _ D.TOz hTO);refine ae (gY ny rfl ?_);refine ae (zq ny λg3 qh e3=>?_)
 replace qh:IsPair g3 TO x b:=qh
 refine ae (ua (ah ?_));refine ae (ae (uc ?_));show wpAny _ _ (Builtin.SmallTypes.nextOf (.ref i2)>>=_) _ _ _;have xV:∀o,s.heap.get? i2=some o->g3.get? i2=some o:=λo q=>e3.extBut _ o D.TOi2.symm (e2.extBut _ o D.i12.symm (e1.extBut _ o D.i2z q));have xW:∀o,s.heap.get? l2=some o->g3.get? l2=some o:=λo q=>e3.extBut _ o D.l2TO (e2.extBut _ o D.l2i1 (e1.extBut _ o D.l2z q));refine ae (qE (h2.at xV) (hl2.at xW) hy λg4 h2' e4=>ah ?_);have Bg:IsPair g4 TO x b:=e4.extBut _ _ D.TOi2 qh;refine ae (gY Bg rfl ?_);refine ae (zq Bg λg5 qi e5=>?_)
 replace qi:IsPair g5 TO x y:=qi
 refine ae (ua (ah (ah ?_)));refine ae (gY qi rfl ?_);refine ae (ub ?_);have sz:g5.objs.size=s.heap.objs.size:=by rw[e5.1,e4.1,e3.1,e2.1,e1.1]
 have BM:fD g5 z TI TO .ellipsis bb:=e5.extBut _ _ D.TOz.symm (e4.extBut _ _ D.i2z.symm (e3.extBut _ _ D.TOz.symm (e2.extBut _ _ D.i1z.symm hz1)));have k5:∀c o,c≠z->c≠TO->c≠i1->c≠i2->s.heap.get? c=some o->g5.get? c=some o:=λc o q1 q2 q3 q4 q =>
  e5.extBut _ _ q2 (e4.extBut _ _ q4 (e3.extBut _ _ q2 (e2.extBut _ _ q3 (e1.extBut _ _ q1 q))))
 have h15:bj c1 g5 i1 l1 (k1+1):=h1'.at λo q=>e5.extBut _ o D.TOi1.symm (e4.extBut _ o D.i12 (e3.extBut _ o D.TOi1.symm q));have L9:bj c2 g5 i2 l2 (k2+1):=h2'.at λo q=>e5.extBut _ o D.TOi2.symm q;have HN:z<g5.objs.size:=aI BM;show wpAny _ _ (Builtin.SmallTypes.ownedTupleHandOut (.ref z) (.ref g5.objs.size)>>=_) _ _ _;refine ae ?_;unfold Builtin.SmallTypes.ownedTupleHandOut;have Np:fD (g5.push {cls:=.type "tuple", data:=.seq #[x,y]}) z TI TO .ellipsis bb:=aB _ BM;refine ae (fM Np (by simp) λg7 vF e7=>?_)
 replace vF:fD g7 z TI TO (rawInt g5.objs.size) bb:=vF
 refine fM vF (by simp) λg8 hz8 e8=>?_
 replace hz8:IsZip g8 z TI TO (rawInt g5.objs.size):=hz8
 have up:∀c o,c≠z->g5.get? c=some o->g8.get? c=some o:=λc o q1 q=>e8.extBut _ _ q1 (e7.extBut _ _ q1 (aB _ q));have hT8:IsPair g8 g5.objs.size x y:=e8.extBut _ _ (eK HN) (e7.extBut _ _ (eK HN) (aX _ rfl));have z8:g8.objs.size=g5.objs.size+1:=by rw[e8.1,e7.1,d6]
 rw[sz]at hz8 hT8 z8;refine ah ⟨_,rfl,?_⟩;show Q (.ref g5.objs.size) _;rw[sz];exact hQ g8 hz8 (up _ _ D.TOz qi) (h15.at λo q=>up _ o D.i1z q) (L9.at λo q=>up _ o D.i2z q) hT8 z8 λc o q1 q2 q3 q4 q=>up c o q1 (k5 c o q1 q2 q3 q4 q)
theorem Vs{f0:Value}{bb:Bool}{Q:Fin->Shared->Prop}(hh:A.handled=none)(D:ZipApart z TI TO i1 i2 l1 l2)(hz:fD s.heap z TI TO f0 bb)(hfree:∀{A':Around} {E':Value->Shared->Prop} {Q':Bool->Shared->Prop},Q' true s->wpAny (model prog w) A' (Builtin.SmallTypes.ownedTupleIsFree (.ref z)) Q' E' s)(hTI:IsPair s.heap TI (.ref i1) (.ref i2))(hTO:IsPair s.heap TO a b)(h1:bj c1 s.heap i1 l1 k1)(h2:bj c2 s.heap i2 l2 k2)(hl1:bD c1 s.heap l1 xs)(hl2:bD c2 s.heap l2 ys)(hend:xs[k1]?=none\/ys[k2]?=none)
  (hE:∀h' e,(∀c o,c≠z->c≠TO->c≠i1->c≠i2->s.heap.get? c=some o->h'.get? c=some o)->(∃o,h'.get? e=some o/\o.cls = .type "StopIteration")->E (.ref e) {s with heap:=h'}) :
  wpAny (model prog w) A (Builtin.«zip.__next__» ⟨[.ref z],[]⟩) Q E s:=by
 show wpAny _ _ (field (.ref z) 2>>=_) _ _ _;refine ae (df hz rfl (x:=.bool false) rfl ?_);show wpAny _ _ (field (.ref z) 3>>=_) _ _ _;refine ae (df hz rfl (x:=.ref TI) rfl ?_);refine ae (gY hTI rfl ?_);show wpAny _ _ (Builtin.SmallTypes.ownedTupleIsFree (.ref z)>>=_) _ _ _;refine ae (hfree ?_);simp only[ig];refine ae (iM ?_);refine ae (df hz rfl (x:=.ref TO) rfl ?_);refine ae (fM hz (by simp) λg1 hz1 e1=>?_)
 replace hz1:fD g1 z TI TO .ellipsis bb:=hz1
 refine ae ?_;simp only[yD,yE,oS,tG];refine ae (ae (uc ?_));show wpAny _ _ (Builtin.SmallTypes.nextOf (.ref i1)>>=_) _ _ _;have u1:∀o,s.heap.get? i1=some o->g1.get? i1=some o:=λo q=>e1.extBut _ o D.i1z q;have u2:∀o,s.heap.get? l1=some o->g1.get? l1=some o:=λo q=>e1.extBut _ o D.l1z q;cases hx:xs[k1]? with
 |none =>
  refine ae (wk hh (h1.at u1) (hl1.at u2) hx λg2 e e2 he=>?_);obtain⟨oe,hoe,hce⟩:=he;have hz2:fD g2 z TI TO .ellipsis bb:=e2 _ _ D.i1z.symm hz1;have hez:e≠z:=λq=>by subst q;rw[hz2]at hoe;cases hoe;simp at hce
  exact fM hz2 (by simp) λg3 _ e3=>hE g3 e (λc o q1 _ q3 _ q=>e3.extBut _ _ q1 (e2 _ _ q3 (e1.extBut _ _ q1 q))) ⟨oe,e3.extBut _ _ hez hoe,hce⟩
 |some x =>
  have hy:ys[k2]?=none:=by rcases hend with h|h;rw[hx]at h;cases h;exact h
  refine ae (qE (h1.at u1) (hl1.at u2) hx λg2 h1' e2=>ah ?_);have ny:IsPair g2 TO a b:=e2.extBut _ _ D.TOi1 (e1.extBut _ _ D.TOz hTO);refine ae (gY ny rfl ?_);refine ae (zq ny λg3 qh e3=>?_);refine ae (ua (ah ?_));refine ae (ae (uc ?_));show wpAny _ _ (Builtin.SmallTypes.nextOf (.ref i2)>>=_) _ _ _;have xV:∀o,s.heap.get? i2=some o->g3.get? i2=some o:=λo q=>e3.extBut _ o D.TOi2.symm (e2.extBut _ o D.i12.symm (e1.extBut _ o D.i2z q));have xW:∀o,s.heap.get? l2=some o->g3.get? l2=some o:=λo q=>e3.extBut _ o D.l2TO (e2.extBut _ o D.l2i1 (e1.extBut _ o D.l2z q));refine ae (wk hh (h2.at xV) (hl2.at xW) hy λg4 e e4 he=>?_);obtain⟨oe,hoe,hce⟩:=he;have BL:fD g4 z TI TO .ellipsis bb:=e4 _ _ D.i2z.symm (e3.extBut _ _ D.TOz.symm (e2.extBut _ _ D.i1z.symm hz1));have hez:e≠z:=λq=>by subst q;rw[BL]at hoe;cases hoe;simp at hce
  exact fM BL (by simp) λg5 _ e5=>hE g5 e (λc o q1 q2 q3 q4 q=>e5.extBut _ _ q1 (e4 _ _ q4 (e3.extBut _ _ q2 (e2.extBut _ _ q3 (e1.extBut _ _ q1 q))))) ⟨oe,e5.extBut _ _ hez hoe,hce⟩
theorem Vr{f0:Value}{bb:Bool}{Q:Option Value->Shared->Prop}(D:ZipApart z TI TO i1 i2 l1 l2)(hz:fD s.heap z TI TO f0 bb)(hfree:∀{A':Around} {E':Value->Shared->Prop} {Q':Bool->Shared->Prop},Q' true s->wpAny (model prog w) A' (Builtin.SmallTypes.ownedTupleIsFree (.ref z)) Q' E' s)(hTI:IsPair s.heap TI (.ref i1) (.ref i2))(hTO:IsPair s.heap TO a b)(h1:bj c1 s.heap i1 l1 k1)(h2:bj c2 s.heap i2 l2 k2)(hl1:bD c1 s.heap l1 xs)(hl2:bD c2 s.heap l2 ys)(hx:xs[k1]?=some x)(hy:ys[k2]?=some y)(hQ:∀h',IsZip h' z TI TO (rawInt s.heap.objs.size)->IsPair h' TO x y->bj c1 h' i1 l1 (k1+1)->bj c2 h' i2 l2 (k2+1)->IsPair h' s.heap.objs.size x y->h'.objs.size=s.heap.objs.size+1 ->
   (∀c o,c≠z->c≠TO->c≠i1->c≠i2->s.heap.get? c=some o->h'.get? c=some o)->Q (some (.ref s.heap.objs.size)) {s with heap:=h'}) :
  wpAny (model prog w) A (pyNext (.ref z)) Q E s:=by
 have hT:s.TypeIs (.ref z) "zip" :=⟨_,hz,rfl⟩;unfold pyNext;exact ae (fL (gW (name:=Str.ofString "__next__") hT t7 (eN t7 hT F.entry_zip_next
  (Vp D hz hfree hTI hTO h1 h2 hl1 hl2 hx hy λh' a1 a2 a3 a4 a5 a6 a7=>ah (hQ h' a1 a2 a3 a4 a5 a6 a7)) (F.args_zip_next_1 _))))
theorem Vo{f0:Value}{bb:Bool}{Q:Option Value->Shared->Prop}(hh:A.handled=none)(D:ZipApart z TI TO i1 i2 l1 l2)(hz:fD s.heap z TI TO f0 bb)(hfree:∀{A':Around} {E':Value->Shared->Prop} {Q':Bool->Shared->Prop},Q' true s->wpAny (model prog w) A' (Builtin.SmallTypes.ownedTupleIsFree (.ref z)) Q' E' s)(hTI:IsPair s.heap TI (.ref i1) (.ref i2))(hTO:IsPair s.heap TO a b)(h1:bj c1 s.heap i1 l1 k1)(h2:bj c2 s.heap i2 l2 k2)(hl1:bD c1 s.heap l1 xs)(hl2:bD c2 s.heap l2 ys)(hend:xs[k1]?=none\/ys[k2]?=none)
  (hQ:∀h',(∀c o,c≠z->c≠TO->c≠i1->c≠i2->s.heap.get? c=some o->h'.get? c=some o)->Q none {s with heap:=h'}):wpAny (model prog w) A (pyNext (.ref z)) Q E s:=by
 have hT:s.TypeIs (.ref z) "zip" :=⟨_,hz,rfl⟩;unfold pyNext;refine ae (fL (gW (name:=Str.ofString "__next__") hT t7 (eN t7 hT F.entry_zip_next (Vs hh D hz hfree hTI hTO h1 h2 hl1 hl2 hend λh' e hk he=>?_) (F.args_zip_next_1 _))));obtain⟨o,ho,hc⟩:=he;refine ae (pq (T:= "StopIteration") (b:=true) ⟨o,ho,hc⟩ t9 ?_);exact ah (hQ _ hk)
theorem Av(hz:IsZip s.heap z TI TO .none){A':Around}{E':Value->Shared->Prop}{Q':Bool->Shared->Prop}(h:Q' true s):wpAny (model prog w) A' (Builtin.SmallTypes.ownedTupleIsFree (.ref z)) Q' E' s:=by
 unfold Builtin.SmallTypes.ownedTupleIsFree;exact ae (df hz rfl (x:=.none) rfl (ah h))
theorem Vq{Q:Option Value->Shared->Prop}(D:ZipApart z TI TO i1 i2 l1 l2)(hz:IsZip s.heap z TI TO .none)(hTI:IsPair s.heap TI (.ref i1) (.ref i2))(hTO:IsPair s.heap TO a b)(h1:bj c1 s.heap i1 l1 k1)(h2:bj c2 s.heap i2 l2 k2)(hl1:bD c1 s.heap l1 xs)(hl2:bD c2 s.heap l2 ys)(hx:xs[k1]?=some x)(hy:ys[k2]?=some y)(hQ:∀h',IsZip h' z TI TO (rawInt s.heap.objs.size)->IsPair h' TO x y->bj c1 h' i1 l1 (k1+1)->bj c2 h' i2 l2 (k2+1)->IsPair h' s.heap.objs.size x y->h'.objs.size=s.heap.objs.size+1 ->
   (∀c o,c≠z->c≠TO->c≠i1->c≠i2->s.heap.get? c=some o->h'.get? c=some o)->Q (some (.ref s.heap.objs.size)) {s with heap:=h'}) :
  wpAny (model prog w) A (pyNext (.ref z)) Q E s:=Vr D hz (Av hz) hTI hTO h1 h2 hl1 hl2 hx hy hQ
theorem Vn{Q:Option Value->Shared->Prop}(hh:A.handled=none)(D:ZipApart z TI TO i1 i2 l1 l2)(hz:IsZip s.heap z TI TO .none)(hTI:IsPair s.heap TI (.ref i1) (.ref i2))(hTO:IsPair s.heap TO a b)(h1:bj c1 s.heap i1 l1 k1)(h2:bj c2 s.heap i2 l2 k2)(hl1:bD c1 s.heap l1 xs)(hl2:bD c2 s.heap l2 ys)(hend:xs[k1]?=none\/ys[k2]?=none)
  (hQ:∀h',(∀c o,c≠z->c≠TO->c≠i1->c≠i2->s.heap.get? c=some o->h'.get? c=some o)->Q none {s with heap:=h'}):wpAny (model prog w) A (pyNext (.ref z)) Q E s:=Vo hh D hz (Av hz) hTI hTO h1 h2 hl1 hl2 hend hQ
end
noncomputable def Sq(b:Bool)(K:W.Frag)(H:Hp)(a:Addr)(xs:List V):Prop:=match b with
 |true=>ao K H a xs
 |false=>aJ K H a xs
section
variable {X:Cx} {pins:List (Addr × Obj)} {σ:St} {H:Hp} {s:Shared} {a:Addr} {xs ys:List V} {c:Bool}
theorem Inv.sq(I:Inv X pins σ H s)(h:Sq c X.K H a xs):∃its:List Value,Vals xs its/\bD c s.heap a its.toArray/\xs.length<=sizeLine:=by
 cases c with
 |true=>obtain⟨its,r,p,z⟩:=I.list h;exact⟨its,r,p.isList,z⟩
 |false=>obtain⟨its,r,p,z⟩:=I.tuple h;exact⟨its,r,p,z⟩
theorem Inv.xJ(I:Inv X pins σ H s)(h:Sq c X.K H a xs)(h':Sq c X.K H a ys):xs=ys:=by
 cases c with
 |true=>exact I.vV h h'
 |false=>exact I.Hm h h'
theorem Inv.c9(I:Inv X pins σ H s)(h:Sq c X.K H a xs){b:Addr}(f:cu X pins H b):a≠b:=by
 intro e;subst e;have base:∀o,X.K.lookup a=some o->False:=λo q=>by
  have e1:=I.ok.mod.ik a o q
  rcases f.2.2.2.1 with z|z
  ·exact I.ok.gE a o e1 z
  ·exact absurd (cz (aI e1) (cy I.ok.dB z)) (dz _)
 cases c with
 |true =>
  rcases h with(h|⟨o,h⟩)|⟨o,_,_,h,_⟩
  ·rw[f.1]at h;cases h
  ·rw[f.1]at h;cases h
  ·exact base o h
 |false =>
  rcases h with(h|⟨o,h⟩)|⟨o,_,_,h,_⟩
  ·rw[f.1]at h;cases h
  ·rw[f.1]at h;cases h
  ·exact base o h
theorem Inv.Ho{h':Heap}{t':Nat}{ch:List Addr}{T:Addr}{o:HO}(I:Inv X pins σ H s)(hch:∀b∈ch,cu X pins H b)
  (k:∀b u,b ∉ ch->s.heap.get? b=some u->h'.get? b=some u) (hT:s.heap.objs.size<=T) (new:aN X.prog X.w (upd H T o) h' T o):Inv X pins σ (upd H T o) {s with heap:=h',toks:=t'}:=by
 have kO:H T=none:=I.hok.fresh hT;have nW:∀b u,H b=some u->b ∉ ch:=λb u e z=>by rw[(hch b z).1]at e;cases e
 have hb:∀b u,s.heap.get? b=some u->b≠T:=λb u e=>aY (cz (aI e) hT);refine I.step (g':=s.gens) (d':=s.drawn) (ch:=ch) (λb hb=>⟨(hch b hb).2.2.2.1,(hch b hb).2.1,(hch b hb).2.2.2.2.1,(hch b hb).2.2.2.2.2⟩) (λb u _ _ hc e _=>k b u hc e) (λb u _ _ hc e _=>⟨u.slots,k b u hc e⟩)
  (λb u _ e n=>by rw[ax (hb b u e)];exact n) (λb u hc e=>⟨u,k b u hc e⟩) (λb ys e=>by rw[ax (cK e kO)];exact e) (λb u ys e=>by rw[ax (cK e kO)];exact e)
  (λb ps e=>⟨#[],by rw[ax (cK e kO),e];simp⟩) (λm hm=>?_) (λb u e=>?_) I.bare
 ·obtain⟨o',es,ep,ho,r⟩:=hm
  exact⟨o',es,ep,k _ o' (λz=>(hch _ z).2.1 rfl) ho,r⟩
 ·by_cases hbT:b=T
  ·subst hbT;rw[av]at e;cases e;exact new
  ·rw[ax hbT]at e
   refine(I.hok b u e).stay (λc v hc q=>k c v ?_ q) (λc q=>by rw[ax (cK q kO)];exact q) (λc ys q=>by rw[ax (cK q kO)];exact q) λc ob u q=>by rw[ax (cK q kO)];exact q
   rcases hc with z|z
   ·rw[z];exact nW b u e
   ·exact nW c _ z
theorem Inv.Hn{h':Heap}{t':Nat}{ch:List Addr}(I:Inv X pins σ H s)(hch:∀b∈ch,cu X pins H b)
  (k:∀b u,b ∉ ch->s.heap.get? b=some u->h'.get? b=some u):Inv X pins σ H {s with heap:=h',toks:=t'}:=by
 have nW:∀b u,H b=some u->b ∉ ch:=λb u e z=>by rw[(hch b z).1]at e;cases e
 refine I.step (g':=s.gens) (d':=s.drawn) (ch:=ch) (λb hb=>⟨(hch b hb).2.2.2.1,(hch b hb).2.1,(hch b hb).2.2.2.2.1,(hch b hb).2.2.2.2.2⟩) (λb u _ _ hc e _=>k b u hc e) (λb u _ _ hc e _=>⟨u.slots,k b u hc e⟩)
  (λb u _ e n=>n) (λb u hc e=>⟨u,k b u hc e⟩) (λb ys e=>e) (λb u ys e=>e) (λb ps e=>⟨#[],by rw[e];simp⟩) (λm hm=>?_) (λb u e=>?_) I.bare
 ·obtain⟨o',es,ep,ho,r⟩:=hm
  exact⟨o',es,ep,k _ o' (λz=>(hch _ z).2.1 rfl) ho,r⟩
 ·refine(I.hok b u e).stay (λc v hc q=>k c v ?_ q) (λc q=>q) (λc ys q=>q) λc ob u q=>q
  rcases hc with z|z
  ·rw[z];exact nW b u e
  ·exact nW c _ z
end
noncomputable def tF(K:W.Frag)(c1 c2:Bool)(l1 l2:Addr):It:=
 ⟨λi H=>∃xs ys x y,Sq c1 K H l1 xs/\Sq c2 K H l2 ys/\xs[i]?=some x/\ys[i]?=some y,
   λi H v H'=>∃T x y,v = .ref T/\H T=none/\H'=upd H T (.tup [x,y])/\(∀xs,Sq c1 K H l1 xs->xs[i]?=some x)/\∀ys,Sq c2 K H l2 ys->ys[i]?=some y,
   λi H=>∃xs ys,Sq c1 K H l1 xs/\Sq c2 K H l2 ys/\(xs.length<=i\/ys.length<=i)⟩
structure zt (c1 c2:Bool) (z TI TO i1 i2 l1 l2:Addr) (i:Nat) (h:Heap):Prop where
 hz:IsZip h z TI TO .none
 ti:IsPair h TI (.ref i1) (.ref i2)
 to:∃a b,IsPair h TO a b
 h1:bj c1 h i1 l1 i
 h2:bj c2 h i2 l2 i
theorem Ex{P:Program}{w:World}{H:Hp}{h:Heap}{T:Addr}{x y:V}{u v:Value}(e:IsPair h T u v)(r1:RelV x u)(r2:RelV y v):aN P w H h T (.tup [x,y]):=
 ⟨by show 2<=sizeLine;decide,[u,v],.cons r1 (.cons r2 .nil),⟨_,e,rfl,_,rfl⟩,_,e,rfl⟩
theorem UT{P:Program}{w:World}{K:W.Frag}{elts:List Expr}{k:Nat}{pos:Pos}{c1 c2:Bool}{z TI TO i1 i2:Addr}(l1 l2:Addr)(nd:TI≠z/\TO≠z/\i1≠z/\i2≠z/\TI≠TO/\TI≠i1/\TI≠i2/\TO≠i1/\TO≠i2/\i1≠i2):Turn P w K (.Tuple elts k pos) (tF K c1 c2 l1 l2) [z,TI,TO,i1,i2] z (zt c1 c2 z TI TO i1 i2 l1 l2) where
 mem:=by simp
 obj:=λi h st b hb=>by
  have fld:∀{a:Addr} {o:Obj},h.get? a=some o->(∀v,o.data≠.cell v)->∃o,h.get? a=some o/\∀v,o.data≠.cell v:=λe d=>⟨_,e,d⟩;simp only[aP,fk,fz]at hb
  rcases hb with rfl|rfl|rfl|rfl|rfl
  ·exact⟨_,st.hz,λv q=>by cases(show Data.fields _=Data.cell v from q)⟩
  ·exact⟨_,st.ti,λv q=>by cases(show Data.seq _ _=Data.cell v from q)⟩
  ·obtain⟨_,_,e⟩:=st.to
   exact⟨_,e,λv q=>by cases(show Data.seq _ _=Data.cell v from q)⟩
  ·exact st.h1.obj
  ·exact st.h2.obj
 keep:=λi h h' st kk=>⟨kk z (by simp) _ st.hz,kk TI (by simp) _ st.ti,let⟨a,b,e⟩:=st.to;⟨a,b,kk TO (by simp) _ e⟩,st.h1.at λo e=>kk i1 (by simp) o e,st.h2.at λo e=>kk i2 (by simp) o e⟩
 item:=by
  intro X hP hw hK hc i pins s σ H E I hf st hg;subst hP hw hK;obtain⟨xs,ys,x,y,q1,q2,hx,hy⟩:=hg;obtain⟨vH,w8,p1,z1⟩:=I.sq q1;obtain⟨vI,w9,p2,z2⟩:=I.sq q2;obtain⟨u,hu,ru⟩:=w8.get hx;obtain⟨v,hv,rv⟩:=w9.get hy;obtain⟨a,b,hTO⟩:=st.to;obtain⟨n1,n2,n3,n4,n5,n6,n7,n8,n9,n10⟩:=nd;have D:ZipApart z TI TO i1 i2 l1 l2:=⟨n1,n2,n3,n4,n5,n6,n7,n8,n9,n10,I.c9 q1 (hf z (by simp)),I.c9 q1 (hf TO (by simp)),I.c9 q1 (hf i1 (by simp)),I.c9 q1 (hf i2 (by simp)),
   I.c9 q2 (hf z (by simp)),I.c9 q2 (hf TO (by simp)),I.c9 q2 (hf i1 (by simp)),I.c9 q2 (hf i2 (by simp))⟩
  refine Vq D st.hz st.ti hTO st.h1 st.h2 p1 p2 (by simpa using hu) (by simpa using hv) λh' a1 a2 a3 a4 a5 a6 a7=>?_;refine⟨_,rfl,wpAny_letOwnedTupleGo_zip a1 λh2 b1 b2=>?_⟩;have hzlt:z<s.heap.objs.size:=aI st.hz;have Mm:IsPair h2 TI (.ref i1) (.ref i2):=b2.extBut _ _ n1 (a7 _ _ n1 n5 n6 n7 st.ti);have keep:∀b u,b ∉ [z,TO,i1,i2]->s.heap.get? b=some u->h2.get? b=some u:=λb u hb e=>by
   simp only[aP,fk,fz,not_or]at hb;exact b2.extBut _ _ hb.1 (a7 b u hb.1 hb.2.1 hb.2.2.1 hb.2.2.2 e)
  have hT2:IsPair h2 s.heap.objs.size u v:=b2.extBut _ _ (eK hzlt) a5;have xN:∀b∈[z,TO,i1,i2],b∈[z,TI,TO,i1,i2]:=λb hb=>by
   simp only[aP,fk,fz]at hb ⊢
   rcases hb with h|h|h|h<;>simp[h]
  have I2:Inv X pins σ (upd H s.heap.objs.size (.tup [x,y])) {s with heap:=h2,toks:=s.toks}:=
   I.Ho (λb hb=>hf b (xN b hb)) keep (aC _) (Ex hT2 ru rv)
  refine⟨.ref s.heap.objs.size,_,I2,rfl,⟨_,x,y,rfl,I.fresh,rfl,λzs hz=>by rw[I.xJ hz q1];exact hx,λzs hz=>by rw[I.xJ hz q2];exact hy⟩,
   ⟨b1,Mm,⟨u,v,b2.extBut _ _ n2 a2⟩,a3.at λo e=>b2.extBut _ o n3 e,a4.at λo e=>b2.extBut _ o n4 e⟩,λb hb=>?_⟩
  have hlt:b<s.heap.objs.size:=by
   have live:∀b∈[z,TI,TO,i1,i2],b<s.heap.objs.size:=λb hb=>by
    simp only[aP,fk,fz]at hb
    rcases hb with rfl|rfl|rfl|rfl|rfl
    ·exact hzlt
    ·exact aI st.ti
    ·exact aI hTO
    ·obtain⟨o,e,_⟩:=st.h1.obj;exact aI e
    ·obtain⟨o,e,_⟩:=st.h2.obj;exact aI e
   exact live b hb
  rw[ax (aY hlt)];exact(hf b hb).1
 done:=by
  intro X hP hw hK hc i pins s σ H E I hf st hg;subst hP hw hK;obtain⟨xs,ys,q1,q2,hend⟩:=hg;obtain⟨vH,w8,p1,z1⟩:=I.sq q1;obtain⟨vI,w9,p2,z2⟩:=I.sq q2;obtain⟨a,b,hTO⟩:=st.to;obtain⟨n1,n2,n3,n4,n5,n6,n7,n8,n9,n10⟩:=nd;have D:ZipApart z TI TO i1 i2 l1 l2:=⟨n1,n2,n3,n4,n5,n6,n7,n8,n9,n10,I.c9 q1 (hf z (by simp)),I.c9 q1 (hf TO (by simp)),I.c9 q1 (hf i1 (by simp)),I.c9 q1 (hf i2 (by simp)),
   I.c9 q2 (hf z (by simp)),I.c9 q2 (hf TO (by simp)),I.c9 q2 (hf i1 (by simp)),I.c9 q2 (hf i2 (by simp))⟩
  have e1:=w8.length;have e2:=w9.length;have hend':vH.toArray[i]?=none\/vI.toArray[i]?=none:=by
   rcases hend with h|h
   ·exact .inl (by simp;omega)
   ·exact .inr (by simp;omega)
  refine Vn (I.ok.hd hc) D st.hz st.ti hTO st.h1 st.h2 p1 p2 hend' λh' kk=>⟨rfl,?_⟩;have xN:∀b∈[z,TO,i1,i2],b∈[z,TI,TO,i1,i2]:=λb hb=>by
   simp only[aP,fk,fz]at hb ⊢
   rcases hb with h|h|h|h<;>simp[h]
  exact I.Hn (t':=s.toks) (ch:=[z,TO,i1,i2]) (λb hb=>hf b (xN b hb)) λb u hb e=>by
   simp only[aP,fk,fz,not_or]at hb;exact kk b u hb.1 hb.2.1 hb.2.2.1 hb.2.2.2 e
 self:=λ_ _ _ _ _ st h=>wpAny_pyIter_zip st.hz h
noncomputable def fu (c:Bool) (l:Addr):Obj:={cls:=.type (match c with|true => "list_iterator" |false => "tuple_iterator"),data:=.fields #[.ref l,.int 0 0]}
theorem xH{c:Bool}{h:Heap}{it l:Addr}(e:h.get? it=some (fu c l)):bj c h it l 0:=by
 cases c with
 |true=>exact⟨_,e,rfl,rfl⟩
 |false=>exact⟨_,e,rfl,rfl⟩
section
variable {prog:Program} {w:World} {A:Around} {E:Value->Shared->Prop} {s:Shared}
theorem nO{c:Bool}{l:Addr}{items:Array Value}{Q:Value->Shared->Prop}(hl:bD c s.heap l items)
  (hQ:Q (.ref s.heap.objs.size) {s with heap:=s.heap.push (fu c l)}):wpAny (model prog w) A (pyIter (.ref l)) Q E s:=by
 cases c with
 |true=>exact ud hl hQ
 |false=>exact wpAny_pyIter_tuple hl hQ
end
abbrev sO (c1:Bool) (h:Heap) (l1:Addr):Heap:=h.push (fu c1 l1)
abbrev sP (c1 c2:Bool) (h:Heap) (l1 l2:Addr):Heap:=(sO c1 h l1).push (fu c2 l2)
abbrev sQ (c1 c2:Bool) (h:Heap) (l1 l2:Addr):Heap:=(sP c1 c2 h l1 l2).push {cls:=.type "tuple", data:=.seq #[.ref h.objs.size,.ref (sO c1 h l1).objs.size]}
abbrev sS (c1 c2:Bool) (h:Heap) (l1 l2:Addr):Heap:=(sQ c1 c2 h l1 l2).push {cls:=.type "tuple", data:=.seq #[.none,.none]}
abbrev jZ (c1 c2:Bool) (h:Heap) (l1 l2:Addr):Heap:=(sS c1 c2 h l1 l2).push {cls:=.type "zip", data:=.fields #[.none,.bool false,.bool false,.ref (sP c1 c2 h l1 l2).objs.size,.ref (sQ c1 c2 h l1 l2).objs.size]}
theorem Pa(c1 c2:Bool)(l1 l2:Addr)(xs ys:Array Value):
  Meets (Builtin.«zip.__new__» ⟨[.type "zip", .ref l1,.ref l2],[]⟩) (λ_ R s=>bD c1 s.heap l1 xs/\bD c2 s.heap l2 ys /\
   R (.ok (.ret (.ref (sS c1 c2 s.heap l1 l2).objs.size))) {s with heap:=jZ c1 c2 s.heap l1 l2}):=
 .of_wp λprog w A R s h=>by
  obtain⟨hp,g,d,tk,os⟩:=s;obtain⟨hl1,hl2,h⟩:=h;have hsub:=sub_zip;have hL1:bD c1 (Shared.heap ⟨hp,g,d,tk,os⟩) l1 xs:=hl1;have hL2:bD c2 (Shared.heap ⟨hp.push (fu c1 l1),g,d,tk,os⟩) l2 ys:=hl2.at λo e=>aB _ e
  wp_walk using nO hL1,nO hL2
  exact⟨_,rfl,h⟩
section
variable {prog:Program} {w:World} {A:Around} {E:Value->Shared->Prop} {s:Shared}
theorem Jy{c1 c2:Bool}{l1 l2:Addr}{xs ys:Array Value}{Q:Value->Shared->Prop}(hl1:bD c1 s.heap l1 xs)(hl2:bD c2 s.heap l2 ys)(h:∀h',zt c1 c2 (s.heap.objs.size+4) (s.heap.objs.size+2) (s.heap.objs.size+3) s.heap.objs.size (s.heap.objs.size+1) l1 l2 0 h'->h'.objs.size=s.heap.objs.size+5 ->
   (∀c o,s.heap.get? c=some o->h'.get? c=some o)->Q (.ref (s.heap.objs.size+4)) {s with heap:=h'}) :
  wpAny (model prog w) A (call (.type "zip") [.ref l1,.ref l2]) Q E s:=by
 refine callType_new F.called_zip (by decide) (F.typeCall_zip_2 _ _) (F.newCall_zip_2 _ _) (λobj=>F.args_object_init_3 obj _ _) F.entry_zip_new (Pa c1 c2 l1 l2 xs ys) ⟨hl1,hl2,?_⟩;have z1:(sO c1 s.heap l1).objs.size=s.heap.objs.size+1:=d6 ..;have z2:(sP c1 c2 s.heap l1 l2).objs.size=s.heap.objs.size+2:=by rw[d6,z1]
 have z3:(sQ c1 c2 s.heap l1 l2).objs.size=s.heap.objs.size+3:=by rw[d6,z2]
 have z4:(sS c1 c2 s.heap l1 l2).objs.size=s.heap.objs.size+4:=by rw[d6,z3]
 have z5:(jZ c1 c2 s.heap l1 l2).objs.size=s.heap.objs.size+5:=by rw[d6,z4]
 have g5:(jZ c1 c2 s.heap l1 l2).get? (sS c1 c2 s.heap l1 l2).objs.size=some _:=aX _ rfl;have g4:(jZ c1 c2 s.heap l1 l2).get? (sQ c1 c2 s.heap l1 l2).objs.size=some _:=aB _ (aX _ rfl);have g3:(jZ c1 c2 s.heap l1 l2).get? (sP c1 c2 s.heap l1 l2).objs.size=some _:=aB _ (aB _ (aX _ rfl));have g2:(jZ c1 c2 s.heap l1 l2).get? (sO c1 s.heap l1).objs.size=some _:=aB _ (aB _ (aB _ (aX _ rfl)));have g1:(jZ c1 c2 s.heap l1 l2).get? s.heap.objs.size=some _:=aB _ (aB _ (aB _ (aB _ (aX _ rfl))));show _/\_;rw[z2,z3,z4]at g5;rw[z1,z2]at g3;rw[z3]at g4;rw[z1]at g2;rw[z4];exact⟨⟨_,g5,rfl⟩,h _ ⟨g5,g3,⟨_,_,g4⟩,xH g1,xH g2⟩ z5 λc o x =>
  aB _ (aB _ (aB _ (aB _ (aB _ x))))⟩
end
section
variable {X:Cx} {elts:List Expr} {k:Nat} {tpos:Pos}
noncomputable def BW(K:W.Frag)(c1 c2:Bool)(ta:TA):TI:=λσ H R=>ta σ H λvs H1=>∃l1 l2 xs ys,vs = [.ref l1,.ref l2]/\Sq c1 K H1 l1 xs/\Sq c2 K H1 l2 ys/\R (tF K c1 c2 l1 l2) H1
theorem Q9 (c1 c2:Bool) {a b:Expr} {ta:TA} {p pos:Pos} (hg:Gl X "zip") (hm:X.mg "zip" = none) (ha:PA X [a,b] ta) (hs:starEach [a,b] X.env = [(false,eval a X.env),(false,eval b X.env)]:=by rfl) (hs2:starEach [b] X.env = [(false,eval b X.env)]:=by rfl) :
  PI X (.Tuple elts k tpos) (.Call (.Name "zip" p) [a,b] [] pos) (BW X.K c1 c2 ta):=by
 intro pins s σ H R I h;refine Call_ (il I hg hm (show bootBuiltins "zip" = some (.type "zip")by decide +kernel) (mq (au (ha pos pins s σ H _ I h) λus s1 ⟨vs,H1,I1,r1,q1⟩=>?_) (by rw[hs,hs2]) (by rw[hs2];rfl)));obtain⟨l1,l2,xs,ys,e,q1,q2,q⟩:=q1;subst e;obtain⟨u,v,rfl,ru,rv⟩:=Vals.two r1;cases ru;cases rv;obtain⟨vH,_,p1,_⟩:=I1.sq q1;obtain⟨vI,_,p2,_⟩:=I1.sq q2;refine Jy p1 p2 λh' zr hz hk=>wpAny_pyIter_zip zr.hz ?_;have I2:Inv X pins σ H1 {s1 with heap:=h',toks:=s1.toks}:=I1.kept hk;have nd:∀n:Nat,n+2≠n+4/\n+3≠n+4/\n≠n+4/\n+1≠n+4/\n+2≠n+3/\n+2≠n/\n+2≠n+1/\n+3≠n/\n+3≠n+1/\n≠n+1:=λn=>by omega
 refine⟨_,_,_,_,H1,rfl,I2,UT l1 l2 (nd s1.heap.objs.size),zr,λb hb=>?_,q⟩;simp only[aP,fk,fz]at hb;have ge:s1.heap.objs.size<=b:=by rcases hb with rfl|rfl|rfl|rfl|rfl<;>omega
 exact I1.jy ge (I1.hok.fresh ge)
end
theorem z9{prog:Program}{w:World}{A:Around}(hh:A.handled=none)(c:Bool)(it l:Addr)(hne:l≠it)(items:Array Value):Draws prog w A it [it,l] items.size (λi v=>items[i]?=some v) (λi h=>bj c h it l i/\bD c h l items) where
 live:=λ_ _ st=>let⟨o,ho,_⟩:=st.1.obj;⟨o,ho⟩
 frame:=λ_ _ _ st hk=>⟨st.1.at λo e=>hk it (by simp) o e,st.2.at λo e=>hk l (by simp) o e⟩
 item:=λi s Q E hi st hQ=>qE st.1 st.2 (x:=items[i]) (by simp[hi]) λh' hit' hs'=>hQ _ h' s.toks (by simp[hi]) ⟨hit',st.2.at λo e=>hs'.extBut _ o hne e⟩ hs'
 done:=λs Q E st hE=>wk hh st.1 st.2 (by simp) hE
theorem O_(c:Bool)(l:Addr)(items:Array Value):
  Meets (Builtin.«enumerate.__new__» ⟨[.type "enumerate", .ref l],[]⟩) (λ_ R s=>bD c s.heap l items /\
   R (.ok (.ret (.ref (s.heap.push (fu c l)).objs.size))) {s with heap:=(s.heap.push (fu c l)).push {cls:=.type "enumerate", data:=.fields #[.none,.bool false,.ref s.heap.objs.size,rawInt 0,.none,.none]}}):=
 .of_wp λprog w A R s h=>by
  obtain⟨hp,g,d,tk,os⟩:=s;obtain⟨hl,h⟩:=h;have hsub:=sub_enumerate;have hL:bD c (Shared.heap ⟨hp,g,d,tk,os⟩) l items:=hl
  wp_walk
  refine wpAny_stack_any λst=>ah ?_
  split
  ·rename_i cc _ _ _ _ _
   cases(cc==Value.type "enumerate")
   ·wp_walk using nO hL
    exact⟨_,rfl,h⟩
   ·wp_walk using nO hL
    exact⟨_,rfl,h⟩
  ·wp_walk using nO hL
   exact⟨_,rfl,h⟩
structure yk (c:Bool) (e it l:Addr) (i:Nat) (h:Heap):Prop where
 he:∃old,IsEnum h e it i old
 h1:bj c h it l i
theorem Jx{prog:Program}{w:World}{A:Around}{E:Value->Shared->Prop}{s:Shared}{c:Bool}{l:Addr}{items:Array Value}{Q:Value->Shared->Prop}(hl:bD c s.heap l items)
  (h:∀h',yk c (s.heap.objs.size+1) s.heap.objs.size l 0 h'->h'.objs.size=s.heap.objs.size+2->(∀b o,s.heap.get? b=some o->h'.get? b=some o)->Q (.ref (s.heap.objs.size+1)) {s with heap:=h'}) :
  wpAny (model prog w) A (call (.type "enumerate") [.ref l]) Q E s:=by
 refine callType_new F.called_enumerate (by decide) (F.typeCall_enumerate_1 _) (F.newCall_enumerate_1 _) (λobj=>F.args_object_init_2 obj _) F.entry_enumerate_new (O_ c l items) ⟨hl,?_⟩;have hz:(s.heap.push (fu c l)).objs.size=s.heap.objs.size+1:=d6 ..;have g2:((s.heap.push (fu c l)).push {cls:=.type "enumerate", data:=.fields #[.none,.bool false,.ref s.heap.objs.size,rawInt 0,.none,.none]}).get? (s.heap.push (fu c l)).objs.size=some _:=aX _ rfl;have g1:((s.heap.push (fu c l)).push {cls:=.type "enumerate", data:=.fields #[.none,.bool false,.ref s.heap.objs.size,rawInt 0,.none,.none]}).get? s.heap.objs.size=some (fu c l):=aB _ (aX _ rfl);show _/\_;rw[hz]at g2 ⊢;exact⟨⟨_,g2,rfl⟩,h _ ⟨⟨.none,g2⟩,xH g1⟩ (by rw[d6,hz]) λb o e=>aB _ (aB _ e)⟩
noncomputable def Ite(K:W.Frag)(c:Bool)(l:Addr):It:=
 ⟨λi H=>∃xs x,Sq c K H l xs/\xs[i]?=some x,
   λi H v H'=>∃T x,v = .ref T/\H T=none/\H'=upd H T (.tup [.int i,x])/\∀xs,Sq c K H l xs->xs[i]?=some x,
   λi H=>∃xs,Sq c K H l xs/\xs.length=i⟩
theorem Uy{P:Program}{w:World}{K:W.Frag}{elts:List Expr}{k:Nat}{pos:Pos}{c:Bool}{e it:Addr}(l:Addr)(ne:e≠it):Turn P w K (.Tuple elts k pos) (Ite K c l) [e,it] e (yk c e it l) where
 mem:=by simp
 obj:=λi h st b hb=>by
  simp only[aP,fk,fz]at hb
  rcases hb with rfl|rfl
  ·obtain⟨old,q⟩:=st.he
   exact⟨_,q,λv q=>by cases(show Data.fields _=Data.cell v from q)⟩
  ·exact st.h1.obj
 keep:=λi h h' st kk=>⟨let⟨old,q⟩:=st.he;⟨old,kk e (by simp) _ q⟩,st.h1.at λo q=>kk it (by simp) o q⟩
 item:=by
  intro X hP hw hK hc i pins s σ H E I hf st hg;subst hP hw hK;obtain⟨xs,x,q1,hx⟩:=hg;obtain⟨its,rv,p,z⟩:=I.sq q1;obtain⟨u,hu,ru⟩:=rv.get hx;obtain⟨old,he⟩:=st.he;have n1:l≠e:=I.c9 q1 (hf e (by simp));have n2:l≠it:=I.c9 q1 (hf it (by simp));have hil:i<its.length:=by rw[<- rv.length];exact(cw.mp hx).1
  have hh:X.A.in1.handled=none:=I.ok.hd hc;refine wpAny_pyNext_enum_itemD (z9 hh c it l n2 its.toArray) he ⟨st.h1,p⟩ (by simpa using hil) ne (by simp[ne,bK n1]) λx' h' tk hP ho hs' hT hsz hk=>?_;have ex:x'=u:=by
   have hu':its.toArray[i]?=some u:=by simpa using hu
   rw[hu']at hP;exact(d5 hP).symm
  subst ex;refine⟨_,rfl,wpAny_letOwnedTupleGo_enum ho λh2 b1 b2=>?_⟩;have elt:e<s.heap.objs.size:=aI he;obtain⟨oi,ei,_⟩:=st.h1.obj;have Ny:it<s.heap.objs.size:=aI ei;have keep:∀b u,b ∉ [e,it]->s.heap.get? b=some u->h2.get? b=some u:=λb u hb q=>by
   simp only[aP,fk,fz,not_or]at hb;exact b2.extBut _ _ hb.1 (hk b u hb.1 hb.2 q)
  have hT2:IsPair h2 s.heap.objs.size (.int i tk) x':=b2.extBut _ _ (eK elt) hT;have I2:Inv X pins σ (upd H s.heap.objs.size (.tup [.int i,x])) {s with heap:=h2,toks:=tk+1}:=I.Ho hf keep (aC _) (Ex hT2 ⟨tk,rfl⟩ ru);refine⟨.ref s.heap.objs.size,_,I2,rfl,⟨_,x,rfl,I.fresh,rfl,λzs hz=>by rw[I.xJ hz q1];exact hx⟩,⟨⟨x',by simpa using b1⟩,hs'.1.at λo q=>b2.extBut _ o (bK ne) q⟩,λb hb=>?_⟩;have hlt:b<s.heap.objs.size:=by
   simp only[aP,fk,fz]at hb
   rcases hb with rfl|rfl
   ·exact elt
   ·exact Ny
  rw[ax (aY hlt)];exact(hf b hb).1
 done:=by
  intro X hP hw hK hc i pins s σ H E I hf st hg;subst hP hw hK;obtain⟨xs,q1,hend⟩:=hg;obtain⟨its,rv,p,z⟩:=I.sq q1;obtain⟨old,he⟩:=st.he;have n2:l≠it:=I.c9 q1 (hf it (by simp));have el:i=its.toArray.size:=by rw[<- hend,rv.length];simp
  have hh:X.A.in1.handled=none:=I.ok.hd hc;refine wpAny_pyNext_enum_endD (z9 hh c it l n2 its.toArray) he (by rw[<- el];exact⟨st.h1,p⟩) λh' hx=>⟨rfl,?_⟩;exact I.Hn (t':=s.toks) (ch:=[e,it]) hf λb u hb q=>by
   simp only[aP,fk,fz,not_or]at hb;exact hx b u hb.2 q
 self:=λ_ _ _ _ _ st h=>let⟨_,he⟩:=st.he;wpAny_pyIter_enum he h
section
variable {X:Cx} {elts:List Expr} {k:Nat} {tpos:Pos}
noncomputable def BP(K:W.Frag)(c:Bool)(ta:TA):TI:=λσ H R=>ta σ H λvs H1=>∃l xs,vs = [.ref l]/\Sq c K H1 l xs/\R (Ite K c l) H1
theorem Q0 (c:Bool) {a:Expr} {ta:TA} {p pos:Pos} (hg:Gl X "enumerate") (hm:X.mg "enumerate" = none) (ha:PA X [a] ta) (hs:starEach [a] X.env = [(false,eval a X.env)]:=by rfl) :
  PI X (.Tuple elts k tpos) (.Call (.Name "enumerate" p) [a] [] pos) (BP X.K c ta):=by
 intro pins s σ H R I h;refine Call_ (il I hg hm (show bootBuiltins "enumerate" = some (.type "enumerate")by decide +kernel) (mq (au (ha pos pins s σ H _ I h) λus s1 ⟨vs,H1,I1,r1,q1⟩=>?_) hs rfl));obtain⟨l,xs,e,q1,q⟩:=q1;subst e;obtain⟨u,rfl,ru⟩:=Vals.one r1;cases ru;obtain⟨its,_,p1,_⟩:=I1.sq q1;refine Jx p1 λh' er hz hk=>let⟨_,he⟩:=er.he;wpAny_pyIter_enum he ?_
 have I2:Inv X pins σ H1 {s1 with heap:=h',toks:=s1.toks}:=I1.kept hk;refine⟨_,_,_,_,H1,rfl,I2,Uy l (show s1.heap.objs.size+1≠s1.heap.objs.size by omega),er,λb hb=>?_,q⟩;simp only[aP,fk,fz]at hb;have ge:s1.heap.objs.size<=b:=by rcases hb with rfl|rfl<;>omega
 exact I1.jy ge (I1.hok.fresh ge)
end
theorem Same.put{H:Hp}{a:Addr}{o:HO}(h:H a=none):Same H (upd H a o):=λb u e=>by rw[ax (cK e h)];exact e
noncomputable def ck(D:Addr)(H H':Hp):Prop:=∀b o,b≠D->H b=some o->H' b=some o
theorem Same.x{H H':Hp}(s:Same H H')(D:Addr):ck D H H':=λb o _ e=>s b o e
theorem ck.put{D:Addr}{H:Hp}{o:HO}:ck D H (upd H D o):=λb u hb e=>by rw[ax hb];exact e
theorem ck.trans{D:Addr}{H H1 H2:Hp}(a:ck D H H1)(b:ck D H1 H2):ck D H H2:=λc o hc e=>b c o hc (a c o hc e)
theorem ck.of{D:Addr}{H H':Hp}(h:H D=none)(s:ck D H H'):Same H H':=λb o e=>s b o (cK e h) e
theorem Same.sq{K:W.Frag}{H H':Hp}{a:Addr}{xs:List V}{c:Bool}(e:Same H H')(h:Sq c K H a xs):Sq c K H' a xs:=by
 cases c with
 |true=>exact e.seq h
 |false =>
  rcases h with(h|⟨o,h⟩)|h
  ·exact .inl (.inl (e _ _ h))
  ·exact .inl (.inr ⟨o,e _ _ h⟩)
  ·exact .inr h
theorem Same.xI{K:W.Frag}{H H':Hp}{a:Addr}{xs:List V}(e:Same H H')(h:aJ K H a xs):aJ K H' a xs:=e.sq (c:=false) h
structure ft (J:It) (g:TG) (σ₀:St) (H1:Hp) (n:Nat) (sl:Nat->St):Prop where
 go:∀i H,i<n->Same H1 H->J.go i H
 stop:∀H,Same H1 H->J.stop n H
 step:∀i H x H' (K:St->Hp->Prop),i<n->Same H1 H->J.jY i H x H'->(∀H2,Same H H2->K (sl i) H2)->g x σ₀ H' λσ2 H2=>Wk σ₀ σ2/\K σ2 H2
theorem src_range{lo:Int}{n:Nat}{ρ:St}{H1:Hp}:ft (iH lo n) (bq 0) (none::ρ) H1 n (λi=>some (.int (lo+i))::ρ) where
 go:=λi H hi _=>hi
 stop:=λH _=>aC n
 step:=λi H x H' K hi hs hy hk=>by
  obtain⟨rfl,rfl⟩:=hy;exact⟨Wk.set (Wk.refl _) rfl,hk _ (Same.refl _)⟩
theorem src_list{K:W.Frag}{a:Addr}{xs:List V}{ρ:St}{H1:Hp}(h:ao K H1 a xs):ft (jf K a) (bq 0) (none::ρ) H1 xs.length (λi=>some (xs.getD i .non)::ρ) where
 go:=λi H hi hs=>⟨xs,xs[i],hs.seq h,aK hi⟩
 stop:=λH hs=>⟨xs,hs.seq h,aC _⟩
 step:=λi H x H' K hi hs hy hk=>by
  obtain⟨rfl,hx⟩:=hy;have e:=hx xs (hs.seq h);have e2:xs.getD i .non=x:=by rw[aQ,e];rfl
  refine⟨Wk.set (Wk.refl _) rfl,?_⟩;have:=hk _ (Same.refl _);rw[e2]at this;exact this
theorem sj{K:W.Frag}{a:Addr}{xs:List V}{ρ:St}{H1:Hp}(h:aJ K H1 a xs):ft (oQ K a) (bq 0) (none::ρ) H1 xs.length (λi=>some (xs.getD i .non)::ρ) where
 go:=λi H hi hs=>⟨xs,xs[i],hs.xI h,aK hi⟩
 stop:=λH hs=>⟨xs,hs.xI h,aC _⟩
 step:=λi H x H' K hi hs hy hk=>by
  obtain⟨rfl,hx⟩:=hy;have e:=hx xs (hs.xI h);have e2:xs.getD i .non=x:=by rw[aQ,e];rfl
  refine⟨Wk.set (Wk.refl _) rfl,?_⟩;have:=hk _ (Same.refl _);rw[e2]at this;exact this
theorem G3{K:W.Frag}{c1 c2:Bool}{a b:Addr}{xs ys:List V}{n:Nat}{ρ:St}{H1:Hp}(h1:Sq c1 K H1 a xs)(h2:Sq c2 K H1 b ys)(hn:n=min xs.length ys.length):ft (tF K c1 c2 a b) (m_ K 2 (jA (bq 0) (jA (bq 1) qe))) (none::none::ρ) H1 n (λi=>some (xs.getD i .non)::some (ys.getD i .non)::ρ) where
 go:=λi H hi hs=>⟨xs,ys,xs[i]'(by omega),ys[i]'(by omega),hs.sq h1,hs.sq h2,aK (by omega),aK (by omega)⟩
 stop:=λH hs=>⟨xs,ys,hs.sq h1,hs.sq h2,by omega⟩
 step:=λi H v H' Kk hi hs hy hk=>by
  obtain⟨T,x,y,rfl,hT,rfl,hx,hy⟩:=hy;have e1:=hx xs (hs.sq h1);have e2:=hy ys (hs.sq h2);have e3:xs.getD i .non=x:=by rw[aQ,e1];rfl
  have e4:ys.getD i .non=y:=by rw[aQ,e2];rfl
  refine⟨T,[x,y],rfl,.inl (.inl av),rfl,x,[y],rfl,y,[],rfl,rfl,?_⟩;have:=hk (upd H T (.tup [x,y])) (Same.put hT);rw[e3,e4]at this;exact⟨Wk.set (Wk.set (Wk.refl _) rfl) rfl,this⟩
theorem pN{J:It}{g:TG}{tc:TT}{te:TE}{σ₀:St}{D:Addr}{Q:Hp->Prop}{H1:Hp}{n:Nat}{sl:Nat->St}(keep:Nat->Bool)(Rl:Nat->V->Hp->Prop)(S:ft J g σ₀ H1 n sl)(hD:H1 D=none)(hn:n<sizeLine)(mono:∀i v H H',ck D H H'->Rl i v H->Rl i v H')(step:∀i H (Kt:V->Hp->Prop) (Kf:Hp->Prop),i<n->Same H1 H->(∃ys,H D=some (.lst ys))->(∀v H',keep i=true->Same H H'->Rl i v H'->Kt v H')->(∀H',keep i=false->Same H H'->Kf H') ->
   tc (sl i) H λb H3=>if b=true then te (sl i) H3 Kt else Kf H3)
  (fin:∀H' ys,Same H1 H'->H' D=some (.lst ys)->Paired (λi v=>Rl i v H') ((List.range n).filter keep) ys->Q H'):iG J g tc te σ₀ D Q (upd H1 D (.lst [])):=by
 refine⟨λi m ys H=>m=n - i/\i<=n/\Same H1 H/\H D=some (.lst ys)/\Paired (λi v=>Rl i v H) ((List.range i).filter keep) ys,⟨n,by omega,by omega,Same.put hD,av,.nil⟩,?_⟩;rintro i m ys H ⟨hm,hi,hs,hl,hp⟩;have hlen:ys.length<=i:=by
  have:=dF hp;rw[<- this];exact cy (lT _ _) (by simp)
 by_cases e:i=n
 ·subst e
  exact .inl ⟨S.stop H hs,fin H ys hs hl hp⟩
 ·have hin:i<n:=by omega
  refine .inr ⟨S.go i H hin hs,λys' H'=>i+1<=n/\Same H1 H'/\H' D=some (.lst ys')/\Paired (λi v=>Rl i v H') ((List.range (i+1)).filter keep) ys',λys' H' h=>⟨n - (i+1),by omega,rfl,h⟩,λx H' hy=>?_⟩;refine S.step i H x H' (λσ2 H2=>tc σ2 H2 λb H3=>if b=true then te σ2 H3 λy H4=>H4 D=some (.lst ys)/\ys.length<sizeLine/\_ else _) hin hs hy λH2 s2=>?_;have up:∀{H':Hp},Same H2 H'->Paired (λi v=>Rl i v H') ((List.range i).filter keep) ys:=λ{H'} s'=>Paired.di hp λa b r=>mono a b _ _ ((s2.trans s').x D) r;refine step i H2 _ _ hin (hs.trans s2) ⟨ys,s2 _ _ hl⟩ (λv H4 hk s4 r=>?_) λH4 hk s4=>?_
  ·have kQ:H4 D=some (.lst ys):=s4 _ _ (s2 _ _ hl)
   refine⟨kQ,by omega,hin,?_,av,?_⟩
   ·exact ck.of hD (((hs.trans (s2.trans s4)).x D).trans ck.put)
   ·rw[o5,List.filter_append]
    have e1:[i].filter keep = [i]:=by simp[hk]
    rw[e1];exact PySem.Paired.snoc (Paired.di (up s4) λa b q=>mono a b _ _ ck.put q) (mono _ _ _ _ ck.put r)
  ·refine⟨hin,hs.trans (s2.trans s4),s4 _ _ (s2 _ _ hl),?_⟩
   rw[o5,List.filter_append];have e1:[i].filter keep = []:=by simp[hk]
   rw[e1,j5];exact up s4
theorem Ey{α:Type}{f:α->V}:∀{l:List α} {ys:List V},Paired (λi v=>v=f i) l ys->ys=l.map f
 |_,_,.nil=>rfl
 |_,_,.cons h t=>by rw[h,Ey t];rfl
theorem pO{J:It}{g:TG}{tc:TT}{te:TE}{σ₀:St}{D:Addr}{Q:Hp->Prop}{H1:Hp}{n:Nat}{sl:Nat->St}(keep:Nat->Bool)(f:Nat->V)(S:ft J g σ₀ H1 n sl)(hD:H1 D=none)(hn:n<sizeLine)(step:∀i H (Kt:V->Hp->Prop) (Kf:Hp->Prop),i<n->Same H1 H->(∀H',keep i=true->Same H H'->Kt (f i) H')->(∀H',keep i=false->Same H H'->Kf H') ->
   tc (sl i) H λb H3=>if b=true then te (sl i) H3 Kt else Kf H3)
  (fin:∀H',Same H1 H'->H' D=some (.lst (((List.range n).filter keep).map f))->Q H'):iG J g tc te σ₀ D Q (upd H1 D (.lst [])):=
 pN keep (λi v _=>v=f i) S hD hn (λ_ _ _ _ _ h=>h) (λi H Kt Kf hi hs _ h1 h2=>step i H Kt Kf hi hs (λH' hk s'=>h1 _ H' hk s' rfl) h2)
  λH' ys hs hl hp=>fin H' hs (by rw[hl,Ey hp])
theorem filter_true{α:Type}(l:List α):l.filter (λ_=>true)=l:=List.filter_eq_self.mpr λ_ _=>rfl
theorem iT{J:It}{g:TG}{te:TE}{σ₀:St}{D:Addr}{Q:Hp->Prop}{H1:Hp}{n:Nat}{sl:Nat->St}(f:Nat->V)(S:ft J g σ₀ H1 n sl)(hD:H1 D=none)(hn:n<sizeLine)(step:∀i H (Kt:V->Hp->Prop),i<n->Same H1 H->(∀H',Same H H'->Kt (f i) H')->te (sl i) H Kt)(fin:∀H',Same H1 H'->H' D=some (.lst ((List.range n).map f))->Q H'):iG J g lD te σ₀ D Q (upd H1 D (.lst [])):=
 pO (λ_=>true) f S hD hn (λi H Kt Kf hi hs h1 _=>dv (A:=te (sl i) H Kt) (B:=Kf H) (step i H Kt hi hs λH' s'=>h1 H' rfl s')) λH' hs hl=>fin H' hs (by rw[hl,filter_true])
theorem pM{J:It}{g:TG}{te:TE}{σ₀:St}{D:Addr}{Q:Hp->Prop}{H1:Hp}{n:Nat}{sl:Nat->St}(Rl:Nat->V->Hp->Prop)(S:ft J g σ₀ H1 n sl)(hD:H1 D=none)(hn:n<sizeLine)(mono:∀i v H H',ck D H H'->Rl i v H->Rl i v H')(step:∀i H (Kt:V->Hp->Prop),i<n->Same H1 H->(∃ys,H D=some (.lst ys))->(∀v H',Same H H'->Rl i v H'->Kt v H')->te (sl i) H Kt)(fin:∀H' ys,Same H1 H'->H' D=some (.lst ys)->Paired (λi v=>Rl i v H') (List.range n) ys->Q H'):iG J g lD te σ₀ D Q (upd H1 D (.lst [])):=
 pN (λ_=>true) Rl S hD hn mono (λi H Kt Kf hi hs hy h1 _=>dv (A:=te (sl i) H Kt) (B:=Kf H) (step i H Kt hi hs hy λv H' s' r=>h1 v H' rfl s' r)) λH' ys hs hl hp=>fin H' ys hs hl (by rw[filter_true]at hp;exact hp)
theorem JZ{J:It}{g:TG}{te:TE}{σ₀:St}{D:Addr}{Q:Hp->Prop}{H1:Hp}{n:Nat}{sl:Nat->St}(c:Nat->List V)(S:ft J g σ₀ H1 n sl)(hD:H1 D=none)(hn:n<sizeLine)(step:∀i H (Kt:V->Hp->Prop),i<n->Same H1 H->(∀a H',Same H H'->H a=none->H' a=some (.lst (c i))->Kt (.ref a) H')->te (sl i) H Kt)(fin:∀H' (as:List Addr),Same H1 H'->H' D=some (.lst (as.map V.ref))->as.length=n->as.Nodup->(∀a∈as,H1 a=none/\a≠D)->(∀(i:Nat) a,as[i]?=some a->H' a=some (.lst (c i)))->Q H'):iG J g lD te σ₀ D Q (upd H1 D (.lst [])):=by
 refine⟨λi m ys H=>m=n - i/\i<=n/\Same H1 H/\H D=some (.lst ys)/\∃as:List Addr,ys=as.map V.ref/\as.length=i/\as.Nodup/\(∀a∈as,H1 a=none/\a≠D)/\∀(j:Nat) a,as[j]?=some a->H a=some (.lst (c j)),
  ⟨n,by omega,by omega,Same.put hD,av,[],rfl,rfl,List.nodup_nil,λ_ h=>(nomatch h),λj a h=>by simp at h⟩,?_⟩
 rintro i m ys H ⟨hm,hi,hs,hl,as,rfl,h1,h2,h3,h4⟩
 by_cases e:i=n
 ·subst e
  exact .inl ⟨S.stop H hs,fin H as hs hl h1 h2 h3 h4⟩
 ·have hin:i<n:=by omega
  refine .inr ⟨S.go i H hin hs,λys' H'=>i+1<=n/\Same H1 H'/\H' D=some (.lst ys')/\∃as:List Addr,ys'=as.map V.ref/\as.length=i+1/\as.Nodup/\(∀a∈as,H1 a=none/\a≠D)/\∀(j:Nat) a,as[j]?=some a->H' a=some (.lst (c j)),
   λys' H' h=>⟨n - (i+1),by omega,rfl,h⟩,λx H' hy=>?_⟩
  refine S.step i H x H' (λσ2 H2=>lD σ2 H2 λb H3=>if b=true then te σ2 H3 λy H4=>H4 D=some (.lst (as.map V.ref))/\(as.map V.ref).length<sizeLine/\_ else _) hin hs hy λH2 s2=>?_;dsimp only[lD];rw[if_pos rfl];refine step i H2 _ hin (hs.trans s2) λa H4 s4 ha hc=>?_;have kQ:H4 D=some (.lst (as.map V.ref)):=s4 _ _ (s2 _ _ hl);have haD:a≠D:=λe=>by rw[e,s2 _ _ hl]at ha;cases ha
  have Je:a ∉ as:=λhm=>by
   obtain⟨j,hj,e⟩:=j8 hm;have:=s2 _ _ (h4 j a (by rw[aK hj,e]));rw[ha]at this;cases this
  refine⟨kQ,by simp;omega,hin,ck.of hD (((hs.trans (s2.trans s4)).x D).trans ck.put),av,as++[a],by simp,by simp[h1],?_,?_,?_⟩
  ·exact tN.mpr ⟨h2,by simp,λx hx y hy=>by simp at hy;subst hy;exact λe=>Je (e▸hx)⟩
  ·intro b hb
   rcases iJ.mp hb with hb|hb
   ·exact h3 b hb
   ·simp at hb
    subst hb;exact⟨(hs.trans s2).free ha,haD⟩
  ·intro j b hj
   by_cases hjl:j<as.length
   ·rw[j6 hjl]at hj
    have q:=h4 j b hj;have hbD:b≠D:=(h3 b (cX hj)).2;rw[ax hbD];exact s4 _ _ (s2 _ _ q)
   ·have hj2:(as++[a])[j]?=some b:=hj
    rw[jh (by omega)]at hj2;have e0:j=as.length:=by
     by_cases z:j - as.length=0
     ·omega
     ·rw[tH (by simp;omega)]at hj2;cases hj2
    subst e0;simp at hj2;subst hj2;rw[ax haD,h1];exact hc
noncomputable def Pu(pre:List V->Hp->Prop)(post:List V->Hp->V->Hp->Prop):Sp:=λvs H Q _=>pre vs H/\∀v H',Same H H'->post vs H v H'->Q v H'
noncomputable def zK(sc nY:Scope)(N:List Str)(fr:List (Str × Nat)):Bool:=
 sc.kind==.function&&sc.names.all (λy=>y.2 != .cell&&(y.2 != .local||sc.names.lookup y.1==some .local)&&(y.2 != .free||nY.names.lookup y.1==some .cell||nY.names.lookup y.1==some .free)) &&
 fr.all λp=>N[p.2]?==some p.1&&sc.names.lookup p.1==some .free
theorem cM{X:Cx}{scope:Scope}{fr:List (Str × Nat)}(nY:Scope)(N:List Str)(h1:X.env.scope=nY)(h2:X.N=N)(h:zK scope nY N fr=true):d3 X scope fr:=by
 unfold zK at h;rw[cq,cq]at h;obtain⟨⟨a,b⟩,c⟩:=h;rw[fh]at b c;subst h1 h2;refine⟨by simpa using a,λy hy e=>?_,λy hy e=>?_,λy hy e=>?_,λp hp=>?_⟩
 ·have:=b y hy
  rw[e]at this;simp at this
 ·have:=b y hy
  rw[e]at this;simpa using this
 ·have:=b y hy
  rw[e]at this;simpa using this
 ·have:=c p hp
  simpa using this
structure aG (P:Program) (w:World) (K:W.Frag) (mg:Str->Option Value) (base:Heap) (x:Str) (ps:List Str) (k:Nat) (sp:Sp):Prop where
 ex:∃(f:Addr) (fd:FuncData),aL P w K mg base aW k f fd ps sp/\mg x=some (.ref f)/\W.keepIn K (.ref f)=true/\Binds K fd ps []
section
variable {X:Cx} {x:Str} {ps:List Str} {k k':Nat} {sp:Sp} {e:Expr} {es:List Expr} {t:TA} {p pos:Pos}
theorem bw (c:aG X.prog X.w X.K X.mg X.base x ps k sp) (hr:aV k' X.A) (hg:Gl X x) (ha:PA X (e::es) t) (hk:k<=k':=by decide) (hdb:(x==("__debug__" : Str))=false:=by decide)
  (he:starEach (e::es) X.env=(false,eval e X.env)::starEach es X.env:=by rfl) (hpl:(backTo pos (starEach es X.env)).any (·.1)=false:=by rfl):PE X (.Call (.Name x p) (e::es) [] pos) (xP sp [] E0 t):=by
 obtain⟨f,fd,F,hm,kp,b⟩:=c.ex;exact Fc F (hr.mono hk) hg hm kp b .nil qN ha hdb he hpl
end
theorem JD {X:Cx} (T:String):da X (.builtin "isinstance") (λxs H Q=>∃x t b,xs = [x,.ty T]/\d9 X.K H x t/\W.kitOne X.K t (.type T)=some b/\Q (.bl b) H):=by
 intro pins s σ H xs us Q I r h;obtain⟨x,t,b,rfl,ty,e,q⟩:=h;obtain⟨u,v,rfl,ru,rv⟩:=Vals.two r;cases rv;exact NT I ru ty e λtk=>⟨.bl b,H,I.tok _,rfl,q⟩
theorem Jt:bootBuiltins "bool" = some (.type "bool"):=by decide +kernel
theorem zN:bootBuiltins "int" = some (.type "int"):=by decide +kernel
theorem uA:bootBuiltins "list" = some (.type "list"):=by decide +kernel
theorem iQ:bootBuiltins "tuple" = some (.type "tuple"):=by decide +kernel
section
variable {X:Cx} {K:W.Frag}
theorem bG(h:X.K=K):j3 X (Fv K):=h▸N0
theorem bV(h:X.K=K):j3 X (Fw K):=h▸N2
theorem GL(h:X.K=K):ui X (Fx K):=h▸SQ
theorem Qu(h:X.K=K):bP X (compareOp .In) (Fu K false):=h▸Qv
noncomputable def RB(K:W.Frag):List V->Hp->VK->Prop:=λxs H Q=>∃p ys,xs = [.ref p]/\(ao K H p ys\/aJ K H p ys)/\Q (.int ys.length) H
theorem iR (h:X.K=K):da X (.builtin "len") (RB K):=h▸JF
noncomputable def RC(K:W.Frag):List V->Hp->VK->Prop:=λxs H Q=>∃p ys,xs = [.ref p]/\(ao K H p ys\/aJ K H p ys)/\∀l,H l=none->Q (.ref l) (upd H l (.lst ys))
theorem zP (h:X.K=K):da X (.type "list") (RC K):=h▸JH
noncomputable def RN(K:W.Frag):List V->Hp->VK->Prop:=λxs H Q=>∃p ys,xs = [.ref p]/\((ao K H p ys/\∀l,H l=none->Q (.ref l) (upd H l (.tup ys)))\/(aJ K H p ys/\Q (.ref p) H))
theorem iS (h:X.K=K):da X (.type "tuple") (RN K):=h▸JQ
noncomputable def Rw(K:W.Frag)(T:String):List V->Hp->VK->Prop:=λxs H Q=>∃x t b,xs = [x,.ty T]/\d9 K H x t/\W.kitOne K t (.type T)=some b/\Q (.bl b) H
theorem zO (T:String) (h:X.K=K):da X (.builtin "isinstance") (Rw K T):=h▸JD T
variable {tg:Expr} {l:Expr} {tl:TE} {elts:List Expr} {k:Nat} {tpos pos p apos cpos:Pos} {a b o e:Expr} {es:List Expr} {ta:TA} {te tv to:TE} {f:Str}
theorem gG(h:X.K=K)(hl:PE X l tl):PI X tg l (BR K tl):=h▸Q5 hl
theorem qT(h:X.K=K)(hl:PE X l tl):PI X tg l (BV K tl):=h▸Q8 hl
theorem Fj (c1 c2:Bool) (h:X.K=K) (hg:Gl X "zip") (hm:X.mg "zip" = none) (ha:PA X [a,b] ta) (hs:starEach [a,b] X.env = [(false,eval a X.env),(false,eval b X.env)]:=by rfl) (hs2:starEach [b] X.env = [(false,eval b X.env)]:=by rfl) :
  PI X (.Tuple elts k tpos) (.Call (.Name "zip" p) [a,b] [] pos) (BW K c1 c2 ta):=h▸Q9 c1 c2 hg hm ha hs hs2
theorem wR (c:Bool) (h:X.K=K) (hg:Gl X "enumerate") (hm:X.mg "enumerate" = none) (ha:PA X [a] ta) (hs:starEach [a] X.env = [(false,eval a X.env)]:=by rfl) :
  PI X (.Tuple elts k tpos) (.Call (.Name "enumerate" p) [a] [] pos) (BP K c ta):=h▸Q0 c hg hm ha hs
theorem oj{value:Expr}{pos':Pos}(h:X.K=K)(ha:PE X o te)(hv:PE X value tv)(hs:swapsWith value (some (.Attribute o f pos')) pos.line X.env=pure false):PS X (.Assign [.Attribute o f pos'] value pos) (FJ K te tv f):=h▸Rg ha hv hs
variable {name:Str} {T id:String} {r:V->List V->Hp->VK->Prop} {t:TA}
theorem lr (h:X.K=K) (pa:PlainAttrs T) (slot:Slot T name id) (hty:typeOf (.builtin id)=pure (.type "method_descriptor")) (hm:tP X id r) (ho:PE X o to) (ha:PA X (e::es) t)
  (h1:attributeBase o name X.env (eval o X.env)=eval o X.env:=by rfl)
  (h2:((backTo cpos (starEach (e::es) X.env)).all (λx=>!x.1)&&(backToKw cpos (keywordEach [] X.env)).all (λx=>x.1.isSome)&&decide ((e::es).length+([]:List Keyword).length+(if([]:List Keyword).isEmpty then 0 else 1)<30))=true:=by rfl)
  (h3:(apos.endLine==cpos.line)=true:=by rfl) (h4:starEach (e::es) X.env=(false,eval e X.env)::starEach es X.env:=by rfl) (h5:(backTo cpos (starEach es X.env)).any (·.1)=false:=by rfl) :
  PE X (.Call (.Attribute o name apos) (e::es) [] cpos) (G9 K T r to t):=h▸QD pa slot hty hm ho ha h1 h2 h3 h4 h5
theorem qR{x y:Str}{i j:Nat}{p1 p2:Pos}(h:X.K=K)(hc:X.calm=true)(hN:X.N.Nodup)(hi:X.N[i]?=some x)(hj:X.N[j]?=some y)(hx:X.env.scope.names.lookup x=some .local)(hy:X.env.scope.names.lookup y=some .local):PG X (.Tuple [.Name x p1,.Name y p2] k tpos) (m_ K 2 (jA (bq i) (jA (bq j) qe))):=
 h▸Fh hc (qS (bx hN hi (Or.inl hx) (Or.inr hx)) (qS (bx hN hj (Or.inl hy) (Or.inr hy)) Fi))
end
noncomputable def Its(c:Bool)(K:W.Frag)(a:Addr):It:=match c with
 |true=>jf K a
 |false=>oQ K a
noncomputable def Nv(K:W.Frag)(c:Bool)(tl:TE):TI:=λσ H R=>tl σ H λx H1=>∃a,x = .ref a/\(∃xs,Sq c K H1 a xs)/\R (Its c K a) H1
noncomputable def Ry(K:W.Frag)(c:Bool):R2:=λx y H Q=>∃p xs i v,x = .ref p/\y = .int i/\Sq c K H p xs/\g_ xs i=some v/\Q v H
section
variable {X:Cx} {K:W.Frag} {tg l:Expr} {tl:TE}
theorem Q7(c:Bool)(h:X.K=K)(hl:PE X l tl):PI X tg l (Nv K c tl):=by
 cases c with
 |true=>exact gG h hl
 |false=>exact qT h hl
theorem N1(c:Bool)(h:X.K=K):j3 X (Ry K c):=by
 cases c with
 |true=>exact bG h
 |false=>exact bV h
theorem Tj{c:Bool}{a:Addr}{xs:List V}{ρ:St}{H1:Hp}(h:Sq c K H1 a xs):ft (Its c K a) (bq 0) (none::ρ) H1 xs.length (λi=>some (xs.getD i .non)::ρ):=by
 cases c with
 |true=>exact src_list h
 |false=>exact sj h
end
section
variable {K:W.Frag} {g:TG} {tb:TS} {D:Ends} {σ:St} {H:Hp}
theorem As{c:Bool}{l:Addr}{xs:List V}(Pv:Nat->St->Hp->Prop)(h0:Pv 0 σ H)(hl:∀i σ H,Pv i σ H->Sq c K H l xs)
  (hs:∀i x σ H T,xs[i]?=some x->H T=none->Pv i σ H->g (.ref T) σ (upd H T (.tup [.int i,x])) λσ2 H2=>tb {D with nx:=Pv (i+1),ct:=Pv (i+1),bk:=D.nx} σ2 H2) (hd:∀σ H,Pv xs.length σ H->D.nx σ H) :
  ∃W:Nat->Nat->St->Hp->Prop,(∃m,W 0 m σ H)/\∀i m σ H,W i m σ H ->
   ((Ite K c l).stop i H/\D.nx σ H)\/((Ite K c l).go i H/\∃N:St->Hp->Prop,(∀σ' H',N σ' H'->∃m',m'<m/\W (i+1) m' σ' H')/\∀x H',(Ite K c l).jY i H x H'->g x σ H' λσ2 H2=>tb {D with nx:=N,ct:=N,bk:=D.nx} σ2 H2):=by
 refine⟨λi m σ H=>m=xs.length - i/\i<=xs.length/\Pv i σ H,⟨xs.length,by simp,cA _,h0⟩,?_⟩;rintro i m σ H ⟨rfl,hi,p⟩;have q:=hl i σ H p
 by_cases hlt:i<xs.length
 ·refine .inr ⟨⟨xs,xs[i],q,by simp[hlt]⟩,Pv (i+1),λσ' H' p'=>⟨xs.length - (i+1),by omega,rfl,hlt,p'⟩,λx H' y=>?_⟩
  obtain⟨T,x,rfl,hT,rfl,hx⟩:=y;exact hs i x σ H T (hx xs q) hT p
 ·have e:i=xs.length:=by omega
  subst e;exact .inl ⟨⟨xs,q,rfl⟩,hd σ H p⟩
end
theorem bQ{e:Expr}{es:List Expr}{env:Env}(h:∀v p,e≠.Starred v p):starEach (e::es) env=(false,eval e env)::starEach es env:=by
 cases e<;>first|rfl|exact absurd rfl (h _ _)
noncomputable def intOf:Expr->Option Int
 |.Constant (.int i) _ _=>some i
 |_=>none
noncomputable def intsOf:List Expr->Option (List Int)
 | []=>some []
 |e::r=>(intOf e).bind λi=>(intsOf r).map (i::·)
theorem NC{e:Expr}{i:Int}(h:intOf e=some i):∃k p,e = .Constant (.int i) k p:=by
 cases e with
 |Constant c k p =>
  cases c with
  |int j=>cases h;exact⟨k,p,rfl⟩
  |_=>cases h
 |_=>cases h
theorem wH{X:Cx}:∀{es:List Expr} (is:List Int),intsOf es=some is->PA X es (λ_ H Q=>Q (is.map V.int) H):=by
 intro es
 induction es with
 |nil =>
  intro is h;cases h;exact ai
 |cons e r ih =>
  intro is h;have h':(intOf e).bind (λi=>(intsOf r).map (i::·))=some is:=h;cases q1:intOf e with
  |none=>rw[q1]at h';cases h'
  |some i =>
   obtain⟨k,p,rfl⟩:=NC q1;rw[q1]at h';cases q:intsOf r with
   |none=>rw[mj,q]at h';cases h'
   |some js =>
    rw[mj,q]at h';cases h';exact ag ak (ih js q)
theorem RP(bs:List Bool):((List.range bs.length).all λi=>(bs[i]?).getD true)=bs.all id:=by
 rw[dw,fh,fh]
 constructor
 ·intro h b hb
  obtain⟨i,hi,e⟩:=j8 hb;have:=h i (by simpa using hi);rw[aK hi,e]at this;exact this
 ·intro h i hi
  have hi':i<bs.length:=by simpa using hi
  rw[aK hi'];exact h _ (j7 hi')
noncomputable def Ft(K:W.Frag):List V->Hp->VK->Prop:=λxs H Q=>∃(p:Addr) (bs:List Bool),xs = [.ref p]/\ao K H p (bs.map V.bl)/\Q (.bl (bs.all id)) H
theorem Jr{bs:List Bool}{its:List Value}(rv:Vals (bs.map V.bl) its){i:Nat}{v:Value}(h:its[i]?=some v):∃b,bs[i]?=some b/\v = .bool b:=by
 have hi:i<its.length:=(cw.mp h).1;have hlen:its.length=bs.length:=by rw[<- rv.length,ay]
 obtain⟨w',h1,h2⟩:=rv.get (i:=i) (x:=.bl (bs[i]'(by omega))) (by simp[show i<bs.length by omega]);rw[h]at h1;cases h1;exact⟨_,aK (by omega),h2⟩
theorem Jz {X:Cx} (hc:X.calm=true):da X (.builtin "all") (Ft X.K):=by
 intro pins s σ H xs us Q I r h;obtain⟨p,bs,rfl,hq,q⟩:=h;obtain⟨u,rfl,ru⟩:=Vals.one r;cases ru;obtain⟨its,rv,pl,hz⟩:=I.list hq;have hlen:its.length=bs.length:=by rw[<- rv.length,ay]
 have hp:p<s.heap.objs.size:=by obtain⟨o,_,e,_⟩:=pl;exact aI e
 refine call_all_walk (ud pl.isList ?_);have hh:X.A.in1.handled=none:=I.ok.hd hc;refine⟨s.heap.objs.size,_,_,_,_,_,λi=>(bs[i]?).getD true,rfl,Walks.list hh s.heap.objs.size p (aY hp) its.toArray,⟨⟨_,aX _ rfl,rfl,rfl⟩,pl.isList.at λo e=>aB _ e⟩,λi v s' Q' E' hP hQ=>?_,λh' tk hk=>?_⟩
 ·obtain⟨b,e,rfl⟩:=Jr rv (by simpa using hP)
  simp only[e,Option.getD_some]at hQ;exact gu hQ
 ·have e:((List.range its.toArray.size).all λi=>(bs[i]?).getD true)=bs.all id:=by
   rw[bz,hlen];exact RP bs
  rw[e];have I2:Inv X pins σ H {s with heap:=h',toks:=tk}:=by
   refine I.kept λb o e=>hk b o ?_ (aB _ e);simp only[aP,fk,fz];exact aY (aI e)
  exact⟨.bl (bs.all id),H,I2,rfl,q⟩
theorem JB {X:Cx} {K:W.Frag} (h:X.K=K) (hc:X.calm=true):da X (.builtin "all") (Ft K):=h▸Jz hc
section
variable {X:Cx} {pins:List (Addr × Obj)} {σ:St} {H:Hp} {s:Shared}
end
section
variable {prog:Program} {w:World} {A:Around} {E:Value->Shared->Prop}
variable {s:Shared}
end
end L2
namespace Ev
noncomputable def Sub(x y:Nat):Prop:=x&&& y=x
instance (x y:Nat):Decidable (Sub x y):=inferInstanceAs (Decidable (_=_))
structure Ib (M:List Nat):Prop where
 nd:M.Nodup
 len:M.length<=24
 meet:∀x∈M,∀y∈M,x&&& y∈M
 top:∃t∈M,∀x∈M,Sub x t
theorem getD_mem{M:List Nat}{i:Nat}(h:i<M.length):M.getD i 0∈M:=by
 rw[aQ,aK h];exact j7 h
theorem Ay{M:List Nat}{x:Nat}(h:x∈M):∃i,i<M.length/\M.getD i 0=x:=by
 obtain⟨i,hi,e⟩:=j8 h;exact⟨i,hi,by rw[aQ,aK hi];exact e⟩
theorem getD_inj{M:List Nat}(nd:M.Nodup){i j:Nat}(hi:i<M.length)(hj:j<M.length)(e:M.getD i 0=M.getD j 0):i=j:=by
 rw[aQ,aQ,aK hi,aK hj]at e;exact(yy nd).mp e
structure lK (n:Nat) (ps:List (Nat × Nat)) (R:Nat->Nat->Bool):Prop where
 refl:∀a,a<n->R a a=true
 has:∀p∈ps,R p.1 p.2=true
 trans:∀a b c,a<n->b<n->c<n->R a b=true->R b c=true->R a c=true
 least:∀T:Nat->Nat->Bool,(∀a,a<n->T a a=true)->(∀p∈ps,T p.1 p.2=true)->(∀a b c,a<n->b<n->c<n->T a b=true->T b c=true->T a c=true) ->
  ∀a b,a<n->b<n->R a b=true->T a b=true
structure g9 (n:Nat) (ps:List (Nat × Nat)) (m:Nat) (R:Nat->Nat->Bool):Prop where
 refl:∀a,a<n->R a a=true
 has:∀p∈ps,R p.1 p.2=true
 tr:∀k,k<m->∀a b,a<n->b<n->R a k=true->R k b=true->R a b=true
 least:∀T:Nat->Nat->Bool,(∀a,a<n->T a a=true)->(∀p∈ps,T p.1 p.2=true)->(∀a b c,a<n->b<n->c<n->T a b=true->T b c=true->T a c=true) ->
  ∀a b,a<n->b<n->R a b=true->T a b=true
noncomputable def iE(R:Nat->Nat->Bool)(m:Nat):Nat->Nat->Bool:=λa b=>R a b||(R a m&&R m b)
theorem sM{R:Nat->Nat->Bool}{m a b:Nat}:iE R m a b=true ↔ R a b=true\/(R a m=true/\R m b=true):=by simp[iE]
theorem g9.step{n m:Nat}{ps:List (Nat × Nat)}{R:Nat->Nat->Bool}(W:g9 n ps m R)(hm:m<n):g9 n ps (m+1) (iE R m) where
 refl:=λa ha=>sM.mpr (.inl (W.refl a ha))
 has:=λp hp=>sM.mpr (.inl (W.has p hp))
 tr:=λk hk a b ha hb h1 h2=>by
  rw[sM]at *
  by_cases e:k=m
  ·subst e
   have h1':R a k=true:=h1.elim id (·.1);have h2':R k b=true:=h2.elim id (·.2);exact .inr ⟨h1',h2'⟩
  ·have hk':k<m:=by omega
   rcases h1 with h1|⟨h1,h1'⟩
   ·rcases h2 with h2|⟨h2,h2'⟩
    ·exact .inl (W.tr k hk' a b ha hb h1 h2)
    ·exact .inr ⟨W.tr k hk' a m ha hm h1 h2,h2'⟩
   ·rcases h2 with h2|⟨h2,h2'⟩
    ·exact .inr ⟨h1,W.tr k hk' m b hm hb h1' h2⟩
    ·exact .inr ⟨h1,h2'⟩
 least:=λT t1 t2 t3 a b ha hb h=>by
  rcases sM.mp h with h|⟨h,h'⟩
  ·exact W.least T t1 t2 t3 a b ha hb h
  ·exact t3 a m b ha hm hb (W.least T t1 t2 t3 a m ha hm h) (W.least T t1 t2 t3 m b hm hb h')
theorem g9.done{n:Nat}{ps:List (Nat × Nat)}{R:Nat->Nat->Bool}(W:g9 n ps n R):lK n ps R:=
 ⟨W.refl,W.has,λa b c ha hb hc h1 h2=>W.tr b hb a c ha hc h1 h2,W.least⟩
noncomputable def base(ps:List (Nat × Nat)):Nat->Nat->Bool:=λa b=>a==b||ps.any λp=>p.1==a&&p.2==b
theorem ku{ps:List (Nat × Nat)}{a b:Nat}:base ps a b=true ↔ a=b\/(a,b)∈ps:=by
 simp only[base,jd,eP,List.any_eq_true,cq]
 constructor
 ·rintro(h|⟨⟨x,y⟩,hp,rfl,rfl⟩)
  ·exact .inl h
  ·exact .inr hp
 ·rintro(h|h)
  ·exact .inl h
  ·exact .inr ⟨(a,b),h,rfl,rfl⟩
theorem g9.start{n:Nat}{ps:List (Nat × Nat)}(hp:∀p∈ps,p.1<n/\p.2<n):g9 n ps 0 (base ps) where
 refl:=λa _=>ku.mpr (.inl rfl)
 has:=λp hp=>ku.mpr (.inr hp)
 tr:=λk hk=>by omega
 least:=λT t1 t2 _ a b ha _ h=>by
  rcases ku.mp h with rfl|h
  ·exact t1 a ha
  ·exact t2 _ h
instance (M:List Nat):Decidable (Ib M):=
 decidable_of_iff (M.Nodup/\M.length<=24/\(∀x∈M,∀y∈M,x&&& y∈M)/\∃t∈M,∀x∈M,Sub x t)
  ⟨λ⟨a,b,c,d⟩=>⟨a,b,c,d⟩,λ⟨a,b,c,d⟩=>⟨a,b,c,d⟩⟩
end Ev
namespace My
open PySem PySem.Spec PyProof.Rows L2
noncomputable def top(i:Nat):Stmt:=PySem.Challenge.pw_evenclimb_k63_orders_made_refused.main.body.getD i (.Pass ⟨0,0,0,0⟩)
structure Txt (mg:Str->Option Value):Prop where
 len:mg "len" = none
 range:mg "range" = none
 zip:mg "zip" = none
 enumerate:mg "enumerate" = none
 tuple:mg "tuple" = none
 list:mg "list" = none
 int:mg "int" = none
 bool:mg "bool" = none
 str:mg "str" = none
 isinstance:mg "isinstance" = none
 sum:mg "sum" = none
 any:mg "any" = none
 all:mg "all" = none
 sorted:mg "sorted" = none
 min:mg "min" = none
 max:mg "max" = none
 most:∃t,mg "MOST_THINGS" = some (.int 24 t)
section
variable {P:Program} {w:World} {K:W.Frag} {mg:Str->Option Value} {base:Heap} {f:Addr} {fd:FuncData}
abbrev xi:Stmt:=top 20
theorem Ge:bf ["value"] ["value"] (aq xi):=⟨rfl,rfl,rfl,by decide +kernel,rfl,by decide +kernel,by decide +kernel⟩
noncomputable def jS:Sp:=Pu (λvs _=>∃i,vs = [.int i]) λ_ _ v _=>v = .bl true
theorem Ef (F:aO K "is_whole" "is_whole" xi f fd) (T:Txt mg):aL P w K mg base aW 1 f fd ["value"] jS:=by
 refine F.ok Ge (λvs H Q E h=>?_) (λcdv A outer s H vs Q E hr h=>?_)
 ·obtain⟨⟨i,rfl⟩,_⟩:=h
  rfl
 ·obtain⟨⟨i,rfl⟩,k⟩:=h
  have nd:=Ge.nd;refine⟨_,(aA (bC (wM (bB (zO (K:=K) "int" rfl) rfl T.isinstance dc (ag (pv 0) (ag (wN (v:=.ty "int") rfl T.int zN rfl) ai))) (qQ (QS (bB (zO (K:=K) "bool" rfl) rfl T.isinstance dc (ag (pv 0) (ag (wN (v:=.ty "bool") rfl T.bool Jt rfl) ai)))))))),?_⟩;refine⟨_,rfl,_,_,_,rfl,.int i,rfl,true,rfl,dv ?_⟩;exact⟨_,rfl,_,_,_,rfl,.int i,rfl,false,rfl,k _ _ (Same.refl _) rfl⟩
abbrev xh:Stmt:=top 21
theorem Gd:bf ["count","number"] ["count","number"] (aq xh):=⟨rfl,rfl,rfl,by decide +kernel,rfl,by decide +kernel,by decide +kernel⟩
noncomputable def rV:Sp:=Pu (λvs _=>∃n i,vs = [.int n,.int i]) λvs _ v _=>∀n i,vs = [.int n,.int i]->v = .bl (decide (0<=i/\i<n))
theorem Ee (F:aO K "is_thing" "is_thing" xh f fd) (T:Txt mg) (dH:aG P w K mg base "is_whole" ["value"] 1 jS):aL P w K mg base aW 2 f fd ["count","number"] rV:=by
 refine F.ok Gd (λvs H Q E h=>?_) (λcdv A outer s H vs Q E hr h=>?_)
 ·obtain⟨⟨n,i,rfl⟩,_⟩:=h
  rfl
 ·obtain⟨⟨n,i,rfl⟩,k⟩:=h
  have nd:=Gd.nd;refine⟨_,(aA (bC (wM (bw dH hr rfl (ag (pv 1) ai)) (qQ (Fd eU Es ak (pv 1) (pv 0)))))),?_⟩;refine⟨_,rfl,⟨i,rfl⟩,λv H1 s1 hv=>?_⟩;subst hv;refine⟨true,rfl,dv ?_⟩;refine⟨_,rfl,_,_,rfl,rfl,_,rfl,cn (λh1=>?_) (λh1=>?_)⟩
  ·refine⟨_,rfl,_,_,rfl,rfl,k _ _ s1 ?_⟩
   intro n' i' e;cases e;rw[show decide (0<=i/\i<n)=decide (i<n)from by
    rw[cQ]at h1;exact decide_eq_decide.mpr ⟨λh=>h.2,λh=>⟨h1,h⟩⟩]
  ·refine k _ _ s1 ?_
   intro n' i' e;cases e;rw[cI (λh=>h1 (bE h.1))]
abbrev xu:Stmt:=top 22
theorem Gu:bf ["count","number"] ["count","number"] (aq xu):=⟨rfl,rfl,rfl,by decide +kernel,rfl,by decide +kernel,by decide +kernel⟩
noncomputable def r6:Sp:=Pu (λvs _=>∃n i:Int,vs = [.int n,.int i]/\0<=i/\i<n) λ_ _ v _=>v = .non
theorem Ek (F:aO K "need_thing" "need_thing" xu f fd) (T:Txt mg) (mL:aG P w K mg base "is_thing" ["count","number"] 2 rV):aL P w K mg base aW 3 f fd ["count","number"] r6:=by
 refine F.ok Gu (λvs H Q E h=>?_) (λcdv A outer s H vs Q E hr h=>?_)
 ·obtain⟨⟨n,i,rfl,_⟩,_⟩:=h
  rfl
 ·obtain⟨⟨n,i,rfl,h0,h1⟩,k⟩:=h
  have nd:=Gu.nd;refine⟨_,(aA (cp (iz (fA (bw mL hr rfl (ag (pv 0) (ag (pv 1) ai))))) (aA qV) c7)),?_⟩;refine⟨_,rfl,_,rfl,⟨n,i,rfl⟩,λv H1 s1 hv=>?_⟩;rw[hv n i rfl,bE (show 0<=i/\i<n from⟨h0,h1⟩)];exact⟨true,rfl,bF (k _ _ s1 rfl)⟩
abbrev xn:Stmt:=top 23
theorem Gp:bf ["count"] ["count"] (aq xn):=⟨rfl,rfl,rfl,by decide +kernel,rfl,by decide +kernel,by decide +kernel⟩
noncomputable def rX:Sp:=Pu (λvs _=>∃n:Int,vs = [.int n]/\1<=n/\n<=24) λ_ _ v _=>v = .non
theorem Eg (F:aO K "need_count" "need_count" xn f fd) (T:Txt mg) (dH:aG P w K mg base "is_whole" ["value"] 1 jS):aL P w K mg base aW 2 f fd ["count"] rX:=by
 refine F.ok Gp (λvs H Q E h=>?_) (λcdv A outer s H vs Q E hr h=>?_)
 ·obtain⟨⟨n,rfl,_⟩,_⟩:=h
  rfl
 ·obtain⟨⟨n,rfl,h0,h1⟩,k⟩:=h
  have nd:=Gp.nd;obtain⟨Tz,uP⟩:=T.most;refine⟨_,(aA (cp (PW.pt (iZ (iz (fA (bw dH hr rfl (ag (pv 0) ai)))) (jP (iz (qW eU eU ak (pv 0) (cF (v:=.int 24) rfl uP ⟨_,rfl⟩)))))) (aA qV) c7)),?_⟩;refine⟨_,rfl,⟨n,rfl⟩,λv H1 s1 hv=>?_⟩;subst hv;refine⟨true,rfl,bF ?_⟩;refine⟨_,rfl,_,_,rfl,rfl,_,rfl,?_⟩;rw[if_pos (bE h0)];refine⟨_,_,rfl,rfl,_,rfl,?_⟩;rw[bE h1];exact bF (k _ _ s1 rfl)
end
noncomputable def eV(H:Hp)(p:Nat × Nat)(v:V):Prop:=∃t,v = .ref t/\H t=some (.tup [.int p.1,.int p.2])
noncomputable def kf(K:W.Frag)(H:Hp)(a:Addr)(ps:List (Nat × Nat)):Prop:=∃vs,ao K H a vs/\Paired (eV H) ps vs
noncomputable def TT(H:Hp)(v:V)(n:Nat)(g:Nat->Nat->V):Prop:=∃a vs,v = .ref a/\H a=some (.tup vs)/\Paired (λi u=>∃b,u = .ref b/\H b=some (.tup ((List.range n).map (g i)))) (List.range n) vs
theorem eV.same{H H':Hp}(s:Same H H'){p:Nat × Nat}{v:V}(h:eV H p v):eV H' p v:=let⟨t,e,q⟩:=h;⟨t,e,s _ _ q⟩
theorem lq.same{H H':Hp}(s:Same H H'){ps:List (Nat × Nat)}{vs:List V}(h:Paired (eV H) ps vs):Paired (eV H') ps vs:=Paired.di h λ_ _ q=>q.same s
theorem kf.same{K:W.Frag}{H H':Hp}{a:Addr}{ps:List (Nat × Nat)}(s:Same H H')(h:kf K H a ps):kf K H' a ps:=let⟨vs,e,q⟩:=h;⟨vs,s.seq e,lq.same s q⟩
theorem TT.same{H H':Hp}(s:Same H H'){v:V}{n:Nat}{g:Nat->Nat->V}(h:TT H v n g):TT H' v n g:=
 let⟨a,vs,e,q,r⟩:=h;⟨a,vs,e,s _ _ q,Paired.di r λ_ _ ⟨b,e,q⟩=>⟨b,e,s _ _ q⟩⟩
theorem nZ{α β:Type}{F:α->β->Prop}:∀{l:List α} {m:List β} {i:Nat} {y:β},Paired F l m->m[i]?=some y->∃x,l[i]?=some x/\F x y
 |_,_,_,_,.nil,h=>by simp at h
 |_,_,0,_,.cons r _,h=>by simp at h;subst h;exact⟨_,rfl,r⟩
 |_,_,i+1,y,.cons _ t,h=>by
  obtain⟨x,h1,h2⟩:=nZ (i:=i) (y:=y) t (by simpa using h);exact⟨x,by simpa using h1,h2⟩
theorem ll{α β:Type}{F:α->β->Prop}:∀{l:List α} {m:List β} {i:Nat} {x:α},Paired F l m->l[i]?=some x->∃y,m[i]?=some y/\F x y
 |_,_,_,_,.nil,h=>by simp at h
 |_,_,0,_,.cons r _,h=>by simp at h;subst h;exact⟨_,rfl,r⟩
 |_,_,i+1,y,.cons _ t,h=>by
  obtain⟨x,h1,h2⟩:=ll (i:=i) (x:=y) t (by simpa using h);exact⟨x,by simpa using h1,h2⟩
theorem TT.row{H:Hp}{v:V}{n:Nat}{g:Nat->Nat->V}(h:TT H v n g){i:Nat}(hi:i<n):∃a vs b,v = .ref a/\H a=some (.tup vs)/\vs.length=n/\vs[i]?=some (.ref b)/\H b=some (.tup ((List.range n).map (g i))):=by
 obtain⟨a,vs,e,q,r⟩:=h;obtain⟨y,h1,b,rfl,h2⟩:=ll (i:=i) (x:=i) r (by simp[hi]);exact⟨a,vs,b,e,q,by simpa using(dF r).symm,h1,h2⟩
theorem mG{n:Nat}{g:Nat->V}{j:Nat}(hj:j<n):g_ ((List.range n).map g) (j:Int)=some (g j):=bp (by simp[hj])
theorem dY{n:Nat}(h:n<=24):n<sizeLine:=lZ h (by decide)
theorem gH{n:Nat}(h:n<=100000):n<sizeLine:=lZ h (by decide)
theorem cT{n:Nat}(h:n<=100000):-(2 ^ 62)<=(n:Int)/\(n:Int)<2 ^ 62:=by omega
theorem zV{t i:Nat}:decide (V.int (t:Int)=V.int (0+(i:Int)))=decide (t=i):=by
 apply decide_eq_decide.mpr
 constructor
 ·intro h;injection h with h;omega
 ·intro h;subst h;simp
section
variable {P:Program} {w:World} {K:W.Frag} {mg:Str->Option Value} {base:Heap} {f:Addr} {fd:FuncData}
abbrev xt:Stmt:=top 24
theorem Gs:bf ["count","pairs","pair"] ["count","pairs"] (aq xt):=⟨rfl,rfl,rfl,by decide +kernel,rfl,by decide +kernel,by decide +kernel⟩
noncomputable def r0(K:W.Frag):Sp:=Pu (λvs H=>∃(n a:Nat) (ps:List (Nat × Nat)),vs = [.int n,.ref a]/\kf K H a ps/\∀p∈ps,p.1<n/\p.2<n) λ_ _ v _=>v = .non
theorem Ej (F:aO K "need_pairs" "need_pairs" xt f fd) (T:Txt mg) (kA:aG P w K mg base "need_thing" ["count","number"] 3 r6):aL P w K mg base aW 4 f fd ["count","pairs"] (r0 K):=by
 refine F.ok Gs (λvs H Q E h=>?_) (λcdv A outer s H vs Q E hr h=>?_)
 ·obtain⟨⟨n,a,ps,rfl,_⟩,_⟩:=h
  rfl
 ·obtain⟨⟨n,a,ps,rfl,⟨vs,hl,hp⟩,hb⟩,k⟩:=h
  have nd:=Gs.nd;refine⟨_,(aA (dW d7 rfl (gG (K:=K) rfl (pv 1)) (bx (i:=2) nd rfl (Or.inl rfl))
   (aF (dU (bw kA hr rfl (ag (pv 0) (ag (aM (bV (K:=K) rfl) (pv 2) ak (λ_ _=>rfl)) ai))))
   (aA (dU (bw kA hr rfl (ag (pv 0) (ag (aM (bV (K:=K) rfl) (pv 2) ak (λ_ _=>rfl)) ai)))))))),?_⟩
  refine⟨_,rfl,a,rfl,⟨_,hl⟩,kL (K:=K) (a:=a) (xs:=vs) (λi σ H2=>∃v,σ = [some (.int n),some (.ref a),v]/\Same H H2) ⟨none,rfl,Same.refl _⟩ (λi σ H2 _ ⟨_,_,s2⟩=>s2.seq hl) ?_ ?_⟩
  ·rintro i y σ H2 hi ⟨v,rfl,s2⟩
   obtain⟨p,hp1,t,rfl,ht⟩:=nZ hp hi;obtain⟨b1,b2⟩:=hb p (cX hp1);refine⟨_,rfl,_,rfl,t,_,0,_,rfl,rfl,.inl (.inl (s2 _ _ ht)),rfl,⟨n,_,rfl,by omega,by omega⟩,λv3 H3 s3 _=>?_⟩;refine⟨_,rfl,_,rfl,t,_,1,_,rfl,rfl,.inl (.inl ((s2.trans s3) _ _ ht)),rfl,⟨n,_,rfl,by omega,by omega⟩,λv4 H4 s4 _=>?_⟩;exact⟨_,rfl,(s2.trans s3).trans s4⟩
  ·rintro σ H2 ⟨v,rfl,s2⟩
   exact k _ _ s2 rfl
abbrev rH:Stmt:=top 25
theorem Gw:bf ["count","thing"] ["count","thing"] (aq rH):=⟨rfl,rfl,rfl,by decide +kernel,rfl,by decide +kernel,by decide +kernel⟩
noncomputable def a_(n:Nat)(p:Nat->Bool):List V:=(List.range n).map λb=>V.bl (p b)
noncomputable def sd:Sp:=Pu (λvs H=>∃n t:Nat,vs = [.int n,.int t]/\n<=24) λvs H v H'=>∀n t:Nat,vs = [.int n,.int t]->∃a,v = .ref a/\H a=none/\H' a=some (.lst (a_ n λb=>decide (t=b)))
theorem El (F:aO K "own_row" "own_row" rH f fd) (T:Txt mg):aL P w K mg base aW 1 f fd ["count","thing"] sd:=by
 refine F.ok Gw (λvs H Q E h=>?_) (λcdv A outer s H vs Q E hr h=>?_)
 ·obtain⟨⟨n,t,rfl,_⟩,_⟩:=h
  rfl
 ·obtain⟨⟨n,t,rfl,hn⟩,k⟩:=h
  have nd:=Gw.nd;refine⟨_,(aA (bC (dS (own:=["other"]) (fr:=[("thing", 1)]) rfl (cM (aq rH) ["count","thing"] rfl rfl (by decide +kernel)) (fV rfl T.range (ag (pv 0) ai)) (λ_ _ _ _=>⟨(bx (i:=0) (by decide +kernel:(["other","thing"]:List Str).Nodup) rfl (Or.inl rfl)),eX,(wO fU (pv 1) (pv 0) (bN _))⟩)))),?_⟩;refine⟨_,rfl,n,rfl,(cT (by omega)).1,(cT (by omega)).2,λD hD=>iT (λi=>.bl (decide (t=i))) src_range hD (dY (by simpa using hn)) (λi H2 Kt hi hs hk=>?_) (λH' hs hl=>?_)⟩
  ·refine⟨_,rfl,_,rfl,rfl,?_⟩
   rw[zV];exact hk _ (Same.refl _)
  ·refine k _ _ hs ?_
   intro n' t' e;cases e;exact⟨D,rfl,hD,by rw[hl];simp[a_]⟩
end
theorem oq(n:Nat)(p:Nat->Bool):(a_ n p).length=n:=by simp[a_]
theorem om{n:Nat}{p:Nat->Bool}{i:Nat}(h:i<n):(a_ n p).getD i .non = .bl (p i):=by simp[a_,h]
theorem R7{n:Nat}{p:Nat->Bool}{j:Nat}:(a_ n p).set j (.bl true)=a_ n λb=>if b=j then true else p b:=by
 apply jg
 ·simp[a_]
 ·intro i h1 h2
  simp only[a_,List.getElem_set,oV,List.getElem_range]
  by_cases e:j=i
  ·simp[e]
  ·have:¬ i=j:=λz=>e z.symm
   simp[e,this]
theorem i_{n:Nat}{p q:Nat->Bool}(h:∀b,b<n->p b=q b):a_ n p=a_ n q:=by
 unfold a_;apply oX
 intro b hb;rw[h b (by simpa using hb)]
section
variable {P:Program} {w:World} {K:W.Frag} {mg:Str->Option Value} {base:Heap} {f:Addr} {fd:FuncData}
abbrev rB:Stmt:=top 26
theorem FW:bf ["one","other"] ["one","other"] (aq rB):=⟨rfl,rfl,rfl,by decide +kernel,rfl,by decide +kernel,by decide +kernel⟩
noncomputable def rP:Sp:=Pu (λvs H=>∃(x y n:Nat) (p q:Nat->Bool),vs = [.ref x,.ref y]/\H x=some (.lst (a_ n p))/\H y=some (.lst (a_ n q))/\n<=24)
 λvs H v H'=>∀(x y n:Nat) (p q:Nat->Bool),vs = [.ref x,.ref y]->H x=some (.lst (a_ n p))->H y=some (.lst (a_ n q))->∃a,v = .ref a/\H a=none/\H' a=some (.lst (a_ n λb=>p b||q b))
theorem q0{n m:Nat}{p q:Nat->Bool}(h:a_ n p=a_ m q):n=m/\∀b,b<n->p b=q b:=by
 have e:n=m:=by have:=congrArg List.length h;rwa [oq,oq]at this
 subst e;refine⟨rfl,λb hb=>?_⟩;have:=congrArg (λl=>l.getD b V.non) h;simp only[om hb]at this;injection this
theorem Ea (F:aO K "either" "either" rB f fd) (T:Txt mg):aL P w K mg base aW 1 f fd ["one","other"] rP:=by
 refine F.ok FW (λvs H Q E h=>?_) (λcdv A outer s H vs Q E hr h=>?_)
 ·obtain⟨⟨x,y,n,p,q,rfl,_⟩,_⟩:=h
  rfl
 ·obtain⟨⟨x,y,n,p,q,rfl,hx,hy,hn⟩,k⟩:=h
  have nd:=FW.nd;refine⟨_,(aA (bC (dS (own:=["a","b"]) (fr:=[]) rfl (cM (aq rB) ["one","other"] rfl rfl (by decide +kernel)) (Fj (K:=K) true true rfl rfl T.zip (ag (pv 0) (ag (pv 1) ai))) (λ_ _ _ _=>⟨(qR (K:=K) (i:=0) (j:=1) rfl rfl (by decide +kernel:(["a","b"]:List Str).Nodup) rfl rfl rfl rfl),eX,(QT (pv 0) (qQ (pv 1)))⟩)))),?_⟩;refine⟨_,rfl,_,rfl,x,y,_,_,rfl,ao.of hx,ao.of hy,λD hD=>iT (λi=>.bl (p i||q i)) (G3 (c1:=true) (c2:=true) (ao.of hx) (ao.of hy) (n:=n) (by simp[oq])) hD (dY hn) (λi H2 Kt hi hs hk=>?_) (λH' hs hl=>?_)⟩
  ·refine⟨_,rfl,p i,om hi,cn (λh=>?_) (λh=>?_)⟩
   ·have:=hk _ (Same.refl _)
    simpa[h]using this
   ·refine⟨_,rfl,?_⟩
    have:=hk _ (Same.refl _);rw[om hi];simpa[h]using this
  ·refine k _ _ hs ?_
   intro x' y' n' p' q' e h1 h2;cases e;rw[hx]at h1;rw[hy]at h2;injection h1 with h1
   injection h1 with h1
   injection h2 with h2
   injection h2 with h2
   obtain⟨rfl,e1⟩:=q0 h1;obtain⟨_,e2⟩:=q0 h2;refine⟨D,rfl,hD,?_⟩;rw[hl];show some (HO.lst (a_ n λi=>p i||q i))=_;rw[i_ λb hb=>by rw[e1 b hb,e2 b hb]]
abbrev rK:Stmt:=top 27
theorem Gz:bf ["one","other"] ["one","other"] (aq rK):=⟨rfl,rfl,rfl,by decide +kernel,rfl,by decide +kernel,by decide +kernel⟩
noncomputable def si:Sp:=Pu (λvs H=>∃(x y n:Nat) (p q:Nat->Bool),vs = [.ref x,.ref y]/\H x=some (.tup (a_ n p))/\H y=some (.tup (a_ n q))/\n<=24)
 λvs H v H'=>∀(x y n:Nat) (p q:Nat->Bool),vs = [.ref x,.ref y]->H x=some (.tup (a_ n p))->H y=some (.tup (a_ n q))->∃a,v = .ref a/\H a=none/\H' a=some (.tup (a_ n λb=>p b&&q b))
theorem Eo (F:aO K "shared" "shared" rK f fd) (T:Txt mg):aL P w K mg base aW 1 f fd ["one","other"] si:=by
 refine F.ok Gz (λvs H Q E h=>?_) (λcdv A outer s H vs Q E hr h=>?_)
 ·obtain⟨⟨x,y,n,p,q,rfl,_⟩,_⟩:=h
  rfl
 ·obtain⟨⟨x,y,n,p,q,rfl,hx,hy,hn⟩,k⟩:=h
  have nd:=Gz.nd;refine⟨_,(aA (bC (eW (iS (K:=K) rfl) rfl T.tuple iQ (ag (dS (own:=["a","b"]) (fr:=[]) rfl (cM (aq rK) ["one","other"] rfl rfl (by decide +kernel)) (Fj (K:=K) false false rfl rfl T.zip (ag (pv 0) (ag (pv 1) ai))) (λ_ _ _ _=>⟨(qR (K:=K) (i:=0) (j:=1) rfl rfl (by decide +kernel:(["a","b"]:List Str).Nodup) rfl rfl rfl rfl),eX,(wM (pv 0) (qQ (pv 1)))⟩)) ai)))),?_⟩;refine⟨_,rfl,_,rfl,x,y,_,_,rfl,aJ.of hx,aJ.of hy,λD hD=>iT (λi=>.bl (p i&&q i)) (G3 (c1:=false) (c2:=false) (aJ.of hx) (aJ.of hy) (n:=n) (by simp[oq])) hD (dY hn) (λi H2 Kt hi hs hk=>?_) (λH' hs hl=>?_)⟩
  ·refine⟨_,rfl,p i,om hi,cn (λh=>?_) (λh=>?_)⟩
   ·refine⟨_,rfl,?_⟩
    have:=hk _ (Same.refl _);rw[om hi];simpa[h]using this
   ·have:=hk _ (Same.refl _)
    simpa[h]using this
  ·refine⟨D,_,rfl,.inl ⟨ao.of hl,λl hl'=>?_⟩⟩
   have hlH:H l=none:=hs.free hl';refine k _ _ (hs.trans (Same.put hl')) ?_;intro x' y' n' p' q' e h1 h2;cases e;rw[hx]at h1;rw[hy]at h2;injection h1 with h1
   injection h1 with h1
   injection h2 with h2
   injection h2 with h2
   obtain⟨rfl,e1⟩:=q0 h1;obtain⟨_,e2⟩:=q0 h2;refine⟨l,rfl,hlH,?_⟩;rw[av];show some (HO.tup (a_ n λi=>p i&&q i))=_;rw[i_ λb hb=>by rw[e1 b hb,e2 b hb]]
abbrev rq:Stmt:=top 28
theorem FQ:bf ["rows","place"] ["rows","place"] (aq rq):=⟨rfl,rfl,rfl,by decide +kernel,rfl,by decide +kernel,by decide +kernel⟩
noncomputable def rN:Sp:=Pu (λvs H=>∃(v:V) (n j:Nat) (g:Nat->Nat->V),vs = [v,.int j]/\TT H v n g/\j<n/\n<=24)
 λvs H v H'=>∀(u:V) (n j:Nat) (g:Nat->Nat->V),vs = [u,.int j]->TT H u n g->j<n->∃a,v = .ref a/\H a=none/\H' a=some (.tup ((List.range n).map λi=>g i j))
theorem TT.inj{H:Hp}{v:V}{n m:Nat}{g g':Nat->Nat->V}(h:TT H v n g)(h':TT H v m g'):n=m/\∀i j,i<n->j<n->g i j=g' i j:=by
 obtain⟨a,vs,e,q,r⟩:=id h;obtain⟨a',vs',e',q',r'⟩:=id h';rw[e]at e';injection e' with e'
 subst e';rw[q]at q';injection q' with q'
 injection q' with q'
 subst q';have en:n=m:=by
  have h1:=dF r;have h2:=dF r';simp at h1 h2;omega
 subst en;refine⟨rfl,λi j hi hj=>?_⟩;obtain⟨y,h1,b,rfl,h2⟩:=ll (i:=i) (x:=i) r (by simp[hi]);obtain⟨y',h1',b',rfl,h2'⟩:=ll (i:=i) (x:=i) r' (by simp[hi]);rw[h1]at h1';injection h1' with h1'
 injection h1' with h1'
 subst h1';rw[h2]at h2';injection h2' with h2'
 injection h2' with h2'
 have:=congrArg (λl=>l.getD j V.non) h2';simpa[hj]using this
theorem D_ (F:aO K "column" "column" rq f fd) (T:Txt mg):aL P w K mg base aW 1 f fd ["rows","place"] rN:=by
 refine F.ok FQ (λvs H Q E h=>?_) (λcdv A outer s H vs Q E hr h=>?_)
 ·obtain⟨⟨v,n,j,g,rfl,_⟩,_⟩:=h
  rfl
 ·obtain⟨⟨v,n,j,g,rfl,ht,hj,hn⟩,k⟩:=h
  have nd:=FQ.nd;obtain⟨a,us,rfl,hq,hr'⟩:=id ht;have hlen:us.length=n:=by simpa using(dF hr').symm
  refine⟨_,(aA (bC (eW (iS (K:=K) rfl) rfl T.tuple iQ (ag (dS (own:=["row"]) (fr:=[("place", 1)]) rfl (cM (aq rq) ["rows","place"] rfl rfl (by decide +kernel)) (qT (K:=K) rfl (pv 0)) (λ_ _ _ _=>⟨(bx (i:=0) (by decide +kernel:(["row","place"]:List Str).Nodup) rfl (Or.inl rfl)),eX,(aM (bV (K:=K) rfl) (pv 0) (pv 1) (λ_ _=>rfl))⟩)) ai)))),?_⟩;refine⟨_,rfl,a,rfl,⟨_,aJ.of hq⟩,λD hD=>iT (λi=>g i j) (sj (aJ.of hq)) hD (dY (by omega)) (λi H2 Kt hi hs hk=>?_) (λH' hs hl=>?_)⟩
  ·obtain⟨y,h1,b,rfl,h2⟩:=ll (i:=i) (x:=i) hr' (yv (by omega))
   refine⟨_,rfl,_,rfl,b,_,j,_,(by rw[aQ,h1];rfl),rfl,aJ.of (hs _ _ h2),mG hj,hk _ (Same.refl _)⟩
  ·refine⟨D,_,rfl,.inl ⟨ao.of hl,λl hl'=>?_⟩⟩
   refine k _ _ (hs.trans (Same.put hl')) ?_;intro u' n' j' g' e h1 h2;injection e with e1 e2
   injection e2 with e2 _
   injection e2 with e2
   have ej:j=j':=by omega
   subst ej;rw[<- e1]at h1;obtain⟨rfl,eg⟩:=ht.inj h1;refine⟨l,rfl,hs.free hl',?_⟩;rw[av,hlen]
   congr 2
   exact oX λi hi=>eg i j (by simpa using hi) hj
end
theorem PL{N:List Addr}(hN:N.Nodup){i j:Nat}{x:Addr}(a:N[i]?=some x)(b:N[j]?=some x):i=j:=by
 obtain⟨h1,e1⟩:=cw.mp a;obtain⟨h2,e2⟩:=cw.mp b;exact(yy hN).mp (e1.trans e2.symm)
theorem DP:∀{as:List Addr} {t b:Nat},as.Nodup->b ∉ as->(as.set t b).Nodup
 | [],_,_,_,_=>by simp
 |a::r,0,b,nd,hb=>gO.mpr ⟨λh=>hb (bI _ h),(gO.mp nd).2⟩
 |a::r,t+1,b,nd,hb=>by
  rw[List.set_cons_succ];refine gO.mpr ⟨λh=>?_,DP (gO.mp nd).2 λh=>hb (bI _ h)⟩
  rcases Ik h with h|h
  ·exact(gO.mp nd).1 h
  ·subst h;exact hb bO
structure dh (H0 H:Hp) (r n:Nat) (as:List Addr) (R:Nat->Nat->Bool):Prop where
 same:Same H0 H
 lst:H r=some (.lst (as.map V.ref))
 len:as.length=n
 nd:as.Nodup
 Dy:H0 r=none
 new:∀a∈as,H0 a=none/\a≠r
 row:∀(i:Nat) a,as[i]?=some a->H a=some (.lst (a_ n (R i)))
theorem dh.congr{H0 H:Hp}{r n:Nat}{as:List Addr}{R R':Nat->Nat->Bool}(W:dh H0 H r n as R)(h:∀a b,a<n->b<n->R a b=R' a b):dh H0 H r n as R':=
 {W with row:=λi a e=>(W.row i a e).trans (by rw[i_ λb hb=>h i b (by rw[<- W.len];exact(cw.mp e).1) hb])}
theorem dh.get{H0 H:Hp}{r n:Nat}{as:List Addr}{R:Nat->Nat->Bool}(W:dh H0 H r n as R){i:Nat}(hi:i<n):∃a,as[i]?=some a/\(as.map V.ref)[i]?=some (.ref a)/\a∈as/\H a=some (.lst (a_ n (R i))):=by
 have h:i<as.length:=by rw[W.len];exact hi
 exact⟨as[i],aK h,by simp[h],j7 h,W.row i _ (aK h)⟩
theorem dh.grow{H0 H H':Hp}{r n:Nat}{as:List Addr}{R:Nat->Nat->Bool}(W:dh H0 H r n as R)(s:Same H H'):dh H0 H' r n as R:=
 {W with same:=W.same.trans s,lst:=s _ _ W.lst,row:=λi a e=>s _ _ (W.row i a e)}
theorem dh.put{H0 H:Hp}{r n:Nat}{as:List Addr}{R:Nat->Nat->Bool}(W:dh H0 H r n as R){i j a:Nat}(ha:as[i]?=some a):
  dh H0 (upd H a (.lst ((a_ n (R i)).set j (.bl true)))) r n as (λx y=>if x=i/\y=j then true else R x y):=by
 have am:a∈as:=cX ha;refine{W with same:=λb o e=>?_,lst:=?_,row:=λk b e=>?_}
 ·rw[ax (λz=>by rw[z,(W.new a am).1]at e;cases e)]
  exact W.same _ _ e
 ·rw[ax (bK (W.new a am).2)]
  exact W.lst
 ·by_cases hk:k=i
  ·subst hk
   rw[ha]at e;cases e;rw[av,R7]
   congr 2
   apply i_
   intro b hb;simp
  ·have hba:b≠a:=by
    rintro rfl;exact hk (PL W.nd e ha)
   rw[ax hba,W.row k b e]
   congr 2
   apply i_
   intro c hc;rw[if_neg (λz=>hk z.1)]
theorem dh.swap{H0 H:Hp}{r n:Nat}{as:List Addr}{R:Nat->Nat->Bool}(W:dh H0 H r n as R){t b:Nat}{p:Nat->Bool}(ht:t<n)(hb:H0 b=none)(hbr:b≠r)(hba:b ∉ as)(hp:H b=some (.lst (a_ n p))):
  dh H0 (upd H r (.lst ((as.map V.ref).set t (.ref b)))) r n (as.set t b) (λx y=>if x=t then p y else R x y):=by
 refine⟨λc o e=>?_,?_,by rw[yA];exact W.len,?_,W.Dy,λc hc=>?_,λk c e=>?_⟩
 ·rw[ax (λz=>by rw[z,W.Dy]at e;cases e)]
  exact W.same _ _ e
 ·rw[av,List.map_set]
 ·exact DP W.nd hba
 ·rcases Ik hc with h|h
  ·exact W.new c h
  ·subst h;exact⟨hb,hbr⟩
 ·by_cases hk:t=k
  ·subst hk
   have hlt:t<as.length:=by rw[W.len];exact ht
   rw[tI hlt]at e;cases e;rw[ax hbr,hp]
   congr 2
   apply i_
   intro y _;rw[if_pos rfl]
  ·rw[oU hk]at e
   rw[ax (W.new c (cX e)).2,W.row k c e]
   congr 2
   apply i_
   intro y _;rw[if_neg (λz=>hk z.symm)]
theorem Jk(a b:Nat):Ev.base [] a b=decide (a=b):=by rw[dw,Ev.ku];simp
theorem Jl(ps:List (Nat × Nat))(p:Nat × Nat)(a b:Nat):Ev.base (ps++[p]) a b=if a=p.1/\b=p.2 then true else Ev.base ps a b:=by
 rw[dw,Ev.ku]
 by_cases h:a=p.1/\b=p.2
 ·rw[if_pos h]
  obtain⟨rfl,rfl⟩:=h;simp
 ·rw[if_neg h,Ev.ku]
  simp only[iJ,bJ]
  constructor
  ·rintro(h1|h1|h1)
   ·exact .inl h1
   ·exact .inr h1
   ·subst h1;exact absurd ⟨rfl,rfl⟩ h
  ·rintro(h1|h1)
   ·exact .inl h1
   ·exact .inr (.inl h1)
section
variable {P:Program} {w:World} {K:W.Frag} {mg:Str->Option Value} {base:Heap} {f:Addr} {fd:FuncData}
theorem Cm{n j:Nat}(h:j<n):gD n (j:Int)=some j:=by
 unfold gD;rw[if_pos (by omega),if_pos (by omega)];simp
abbrev mH (R:Nat->Nat->Bool):Nat->Nat->V:=λa b=>.bl (R a b)
abbrev ow:Stmt:=top 29
theorem Gy:bf ["count","pairs","rows","pair","middle","thing"] ["count","pairs"] (aq ow):=⟨rfl,rfl,rfl,by decide +kernel,rfl,by decide +kernel,by decide +kernel⟩
noncomputable def sf(K:W.Frag):Sp:=λvs H Q _=>∃(n a:Nat) (ps:List (Nat × Nat)),vs = [.int n,.ref a]/\kf K H a ps/\n<=24/\(∀p∈ps,p.1<n/\p.2<n) /\
 ∀v H' R,Same H H'->Ev.lK n ps R->TT H' v n (mH R)->Q v H'
theorem at0{α:Type}{xs:List α}{j:Nat}{v:α}(h:xs[j]?=some v):g_ xs (0+(j:Int))=some v:=by rw[oP];exact bp h
theorem NZ{n j:Nat}(h:j<n):gD n (0+(j:Int))=some j:=by rw[oP];exact Cm h
theorem R6{n:Nat}{p:Nat->Bool}{j:Nat}(h:j<n):(a_ n p)[j]?=some (.bl (p j)):=by simp[a_,h]
theorem En (F:aO K "reach_of" "reach_of" ow f fd) (T:Txt mg) (mS:aG P w K mg base "own_row" ["count","thing"] 1 sd) (mJ:aG P w K mg base "either" ["one","other"] 1 rP) :
  aL P w K mg base aW 2 f fd ["count","pairs"] (sf K):=by
 refine F.ok Gy (λvs H Q E h=>?_) (λcdv A outer s H vs Q E hr h=>?_)
 ·obtain⟨n,a,ps,rfl,_⟩:=h
  rfl
 ·obtain⟨n,a,ps,rfl,⟨us,nB,hup⟩,hn,hb,k⟩:=h
  have nd:=Gy.nd;have en:((n:Int)).toNat=n:=bX n;refine⟨_,(aF (wX (i:=2) nd rfl rfl (own:=["thing"]) (fr:=[("count", 0)]) rfl (cM (aq ow) ["count","pairs","rows","pair","middle","thing"] rfl rfl (by decide +kernel)) (fV rfl T.range (ag (pv 0) ai)) (λ_ _ _ _=>⟨(bx (i:=0) (by decide +kernel:(["thing","count"]:List Str).Nodup) rfl (Or.inl rfl)),eX,(bw mS hr rfl (ag (pv 1) (ag (pv 0) ai)))⟩))
   (aF (dW d7 rfl (gG (K:=K) rfl (pv 1)) (bx (i:=3) nd rfl (Or.inl rfl))
   (aA (Fp jN (Fg (aM (bG (K:=K) rfl) (pv 2) (aM (bV (K:=K) rfl) (pv 3) ak (λ_ _=>rfl)) (λ_ _=>rfl)) (aM (bV (K:=K) rfl) (pv 3) ak (λ_ _=>rfl)) set_list))))
   (aF (dW d7 rfl (fV rfl T.range (ag (pv 0) ai)) (bx (i:=4) nd rfl (Or.inl rfl))
   (aA (dW d7 rfl (fV rfl T.range (ag (pv 0) ai)) (bx (i:=5) nd rfl (Or.inl rfl))
   (aA (cp (fA (aM (bG (K:=K) rfl) (aM (bG (K:=K) rfl) (pv 2) (pv 5) (λ_ _=>rfl)) (pv 4) (λ_ _=>rfl))) (aA (Fp (bw mJ hr rfl (ag (aM (bG (K:=K) rfl) (pv 2) (pv 5) (λ_ _=>rfl)) (ag (aM (bG (K:=K) rfl) (pv 2) (pv 4) (λ_ _=>rfl)) ai))) (Fg (pv 2) (pv 5) set_list))) c7)))))
   (aA (bC (eW (iS (K:=K) rfl) rfl T.tuple iQ (ag (dS (own:=["row"]) (fr:=[]) rfl (cM (aq ow) ["count","pairs","rows","pair","middle","thing"] rfl rfl (by decide +kernel)) (gG (K:=K) rfl (pv 2)) (λ_ _ _ _=>⟨(bx (i:=0) (by decide +kernel:(["row"]:List Str).Nodup) rfl (Or.inl rfl)),eX,(eW (iS (K:=K) rfl) rfl T.tuple iQ (ag (pv 0) ai))⟩)) ai))))))),?_⟩
  refine⟨_,rfl,n,rfl,(cT (by omega)).1,(cT (by omega)).2,λD hD=>JZ (λi=>a_ n λb=>decide (i=b)) src_range hD (dY (by simpa using hn)) (λi H2 Kt hi hs hk=>?_) (λH1 as hs hl h1 h2 h3 h4=>?_)⟩
  ·refine⟨_,rfl,_,rfl,⟨n,i,by simp,hn⟩,λv H3 s3 hv=>?_⟩
   obtain⟨b,rfl,hb1,hb2⟩:=hv n i (by simp);exact hk b H3 s3 hb1 hb2
  have W0:dh H H1 D n as (Ev.base []):=⟨hs,hl,h1.trans en,h2,hD,h3,λi b e=>(h4 i b e).trans (by rw[i_ λc hc=>(Jk i c).symm])⟩;refine⟨_,rfl,a,rfl,⟨_,hs.seq nB⟩,kL (K:=K) (a:=a) (xs:=us) (λi σ H2=>∃v3,σ = [some (.int n),some (.ref a),some (.ref D),v3,none,none]/\dh H H2 D n as (Ev.base (ps.take i)))
   ⟨none,rfl,by simpa using W0⟩ (λi σ H2 _ ⟨_,_,W⟩=>W.same.seq nB) ?_ ?_⟩
  ·rintro i y σ H2 hi ⟨v3,rfl,W⟩
   obtain⟨p,hp1,t,rfl,ht⟩:=nZ hup hi;obtain⟨b1,b2⟩:=hb p (cX hp1);obtain⟨r,r1,r2,r3,r4⟩:=W.get b1;refine⟨_,rfl,_,rfl,t,_,0,_,rfl,rfl,aJ.of (W.same _ _ ht),rfl,D,_,_,_,rfl,rfl,ao.of W.lst,bp r2,_,rfl,t,_,1,_,rfl,rfl,aJ.of (W.same _ _ ht),rfl,r,_,_,p.2,rfl,rfl,r4,?_,?_⟩
   ·rw[oq];exact Cm b2
   ·refine⟨_,rfl,(W.put r1).congr λx y _ _=>?_⟩
    have et:ps.take (i+1)=ps.take i++[p]:=by rw[List.take_add_one,hp1];rfl
    rw[et,Jl]
  ·rintro σ H2 ⟨v3,rfl,W⟩
   have el:us.length=ps.length:=(dF hup).symm;rw[el,List.take_length]at W;have hlen:us.length=ps.length:=(dF hup).symm;refine⟨_,rfl,n,rfl,(cT (by omega)).1,(cT (by omega)).2,jx (lo:=0) (n:=((n:Int)).toNat) (λm σ H2=>∃v3 v4 v5 as R,σ = [some (.int n),some (.ref a),some (.ref D),v3,v4,v5]/\dh H H2 D n as R/\Ev.g9 n ps m R)
    ⟨v3,none,none,as,_,rfl,W,Ev.g9.start hb⟩ ?_ ?_⟩
   ·rintro m σ H2 hm ⟨v3,v4,v5,as,R,rfl,W,WI⟩
    have hmn:m<n:=by omega
    refine⟨_,rfl,n,rfl,(cT (by omega)).1,(cT (by omega)).2,jx (lo:=0) (n:=((n:Int)).toNat) (λt σ H2=>∃v5 as,σ = [some (.int n),some (.ref a),some (.ref D),v3,some (.int (0+m)),v5] /\
     dh H H2 D n as (λx y=>if x<t then Ev.iE R m x y else R x y)) ⟨v5,as,rfl,W.congr λx y _ _=>by rw[if_neg (Nat.not_lt_zero x)]⟩ ?_ ?_⟩
    ·rintro t σ H3 ht ⟨v5,as,rfl,W⟩
     have htn:t<n:=by omega
     obtain⟨rt,t1,t2,t3,t4⟩:=W.get htn;obtain⟨rm,m1,m2,m3,m4⟩:=W.get hmn;refine⟨_,rfl,_,rfl,D,_,_,_,rfl,rfl,ao.of W.lst,at0 t2,_,rfl,rt,_,_,_,rfl,rfl,ao.of t4,at0 (R6 hmn),_,rfl,cn (λh=>?_) (λh=>?_)⟩
     ·rw[if_neg (dz t)]at h
      refine⟨_,rfl,_,rfl,D,_,_,_,rfl,rfl,ao.of W.lst,at0 t2,_,rfl,_,rfl,D,_,_,_,rfl,rfl,ao.of W.lst,at0 m2,⟨rt,rm,n,_,_,rfl,t4,m4,hn⟩,λv H4 s4 hv=>?_⟩;obtain⟨b,rfl,q1,q2⟩:=hv rt rm n _ _ rfl t4 m4;have W4:=W.grow s4;have hbD:b≠D:=λe=>by rw[e,W.lst]at q1;cases q1
      have hba:b ∉ as:=λhm=>by
       obtain⟨j,hj,e⟩:=j8 hm;have:=W.row j b (by rw[aK hj,e]);rw[q1]at this;cases this
      refine⟨_,rfl,_,rfl,D,_,_,t,rfl,rfl,W4.lst,?_,?_⟩
      ·rw[ay,W4.len];exact NZ htn
      ·refine⟨_,_,rfl,(W4.swap htn (W.same.free q1) hbD hba q2).congr λx y hx hy=>?_⟩
       by_cases e:x=t
       ·subst e
        rw[if_pos rfl,if_neg (dz x),if_pos (l0 x)];have em:(if m<x then Ev.iE R m m y else R m y)=R m y:=by
         split
         ·unfold Ev.iE
          cases R m y<;>simp
         ·rfl
        rw[em];unfold Ev.iE;rw[h,sZ]
       ·rw[if_neg e]
        by_cases nG:x<t
        ·rw[if_pos nG,if_pos (by omega)]
        ·rw[if_neg nG,if_neg (by omega)]
     ·rw[if_neg (dz t)]at h
      refine⟨_,as,rfl,W.congr λx y hx hy=>?_⟩
      by_cases e:x=t
      ·subst e
       rw[if_neg (dz x),if_pos (l0 x)];unfold Ev.iE;have h':R x m=false:=by simpa using h
       rw[h',sY,Bool.or_false]
      ·by_cases nG:x<t
       ·rw[if_pos nG,if_pos (by omega)]
       ·rw[if_neg nG,if_neg (by omega)]
    ·rintro σ H3 ⟨v5,as,rfl,W⟩
     exact⟨_,_,_,as,Ev.iE R m,rfl,W.congr λx y hx _=>by rw[if_pos (by omega)],WI.step hmn⟩
   ·rintro σ H2 ⟨v3,v4,v5,as,R,rfl,W,WI⟩
    rw[en]at WI;refine⟨_,rfl,D,rfl,⟨_,ao.of W.lst⟩,λD2 hD2=>pM (λi v H=>∃b,v = .ref b/\b≠D2/\H b=some (.tup (a_ n (R i)))) (src_list (ao.of W.lst)) hD2 (dY (by rw[ay,W.len];exact hn))
     (λi v H H' s ⟨b,e,hb,q⟩=>⟨b,e,hb,s _ _ hb q⟩) (λi H3 Kt hi hs hy hk=>?_) (λH3 ys hs hl hp=>?_)⟩
    ·rw[ay,W.len]at hi
     obtain⟨r,r1,r2,r3,r4⟩:=W.get hi;obtain⟨zs,hz⟩:=hy;refine⟨_,rfl,r,_,by rw[aQ,r2];rfl,.inl ⟨ao.of (hs _ _ r4),λl hl'=>?_⟩⟩;exact hk _ _ (Same.put hl') ⟨l,rfl,(λe=>by rw[e,hz]at hl';cases hl'),av⟩
    ·refine⟨D2,_,rfl,.inl ⟨ao.of hl,λl hl'=>?_⟩⟩
     have Kr:(as.map V.ref).length=n:=by rw[ay,W.len]
     rw[Kr]at hp;refine k _ _ R ((W.same.trans hs).trans (Same.put hl')) WI.done ⟨l,ys,rfl,av,Paired.di hp λi u ⟨b,e,_,q⟩=>⟨b,e,Same.put hl' _ _ q⟩⟩
end
theorem wK{H:Hp}{L:Addr}{xs ys:List V}(hL:H L=some (.lst xs)){ps:List (Nat × Nat)}{us:List V}(h:Paired (eV H) ps us):Paired (eV (upd H L (.lst ys))) ps us:=
 Paired.di h λ_ _ ⟨t,e,q⟩=>⟨t,e,by rw[ax (iq q hL (λz=>nomatch z))];exact q⟩
theorem qL{α β:Type}{F:α->β->Prop}:∀{a b:List α} {c d:List β},Paired F a c->Paired F b d->Paired F (a++b) (c++d)
 |_,_,_,_,.nil,h=>h
 |_,_,_,_,.cons r t,h=>.cons r (qL t h)
theorem qM{α β γ:Type}{F:γ->β->Prop}{g:α->γ}:∀{a:List α} {c:List β},Paired (λx y=>F (g x) y) a c->Paired F (a.map g) c
 |_,_,.nil=>.nil
 |_,_,.cons r t=>.cons r (qM t)
theorem w5{α:Type}(i:Nat)(h:Nat->List α):(List.range (i+1)).flatMap h=(List.range i).flatMap h++h i:=by
 rw[o5,List.flatMap_append];simp
noncomputable def xU(n:Nat):List (Nat × Nat):=(List.range n).flatMap λl=>(List.range (n - (l+1))).map λj=>(l,l+1+j)
theorem Dq{n:Nat}{p:Nat × Nat}(h:p∈xU n):p.1<p.2/\p.2<n:=by
 unfold xU at h;rw[List.mem_flatMap]at h;obtain⟨l,hl,h⟩:=h;rw[cx]at h;obtain⟨j,hj,rfl⟩:=h;simp at hl hj ⊢;omega
noncomputable def EY(n:Nat)(R:Nat->Nat->Bool):List (Nat × Nat):=(List.range n).flatMap λl=>((List.range n).filter λh=>!decide (l=h)&&R l h).map λh=>(l,h)
section
variable {P:Program} {w:World} {K:W.Frag} {mg:Str->Option Value} {base:Heap} {f:Addr} {fd:FuncData}
abbrev rL:Stmt:=top 30
theorem GD:bf ["count","told","low"] ["count"] (aq rL):=⟨rfl,rfl,rfl,by decide +kernel,rfl,by decide +kernel,by decide +kernel⟩
noncomputable def oz:Sp:=λvs H Q _=>∃n:Nat,vs = [.int n]/\n<=24/\∀l us H',Same H H'->H' l=some (.lst us)->Paired (eV H') (xU n) us->Q (.ref l) H'
theorem Ep (F:aO K "twos" "twos" rL f fd) (T:Txt mg):aL P w K mg base aW 1 f fd ["count"] oz:=by
 refine F.ok GD (λvs H Q E h=>?_) (λcdv A outer s H vs Q E hr h=>?_)
 ·obtain⟨n,rfl,_⟩:=h
  rfl
 ·obtain⟨n,rfl,hn,k⟩:=h
  have nd:=GD.nd;have en:((n:Int)).toNat=n:=bX n;refine⟨_,(aF (aS (i:=1) nd rfl (Or.inl rfl) (c6 ai))
   (aF (dW d7 rfl (fV rfl T.range (ag (pv 0) ai)) (bx (i:=2) nd rfl (Or.inr rfl))
   (aA (dU (lr (K:=K) rfl my t5 y8 v9 (pv 1) (ag (dS (own:=["high"]) (fr:=[("low", 2)]) rfl (cM (aq rL) ["count","told","low"] rfl rfl (by decide +kernel)) (wU rfl T.range (ag (aD dQ (pv 2) ak) (ag (pv 0) ai))) (λ_ _ _ _=>⟨(bx (i:=0) (by decide +kernel:(["high","low"]:List Str).Nodup) rfl (Or.inl rfl)),eX,(oa (ag (pv 1) (ag (pv 0) ai)))⟩)) ai)))))
   (aA (bC (pv 1))))),?_⟩
  refine⟨by show 0<=sizeLine;decide,λL hL=>?_⟩;refine⟨_,rfl,n,rfl,(cT (by omega)).1,(cT (by omega)).2,jx (lo:=0) (n:=((n:Int)).toNat) (λi σ H2=>∃v2 us,σ = [some (.int n),some (.ref L),v2]/\Same H H2/\H2 L=some (.lst us)/\us.length<=24*i /\
   Paired (eV H2) ((List.range i).flatMap λl=>(List.range (n - (l+1))).map λj=>(l,l+1+j)) us) ⟨none,[],rfl,Same.put hL,av,by simp,.nil⟩ ?_ ?_⟩
  ·rintro i σ H2 hi ⟨v2,us,rfl,s2,hl,hlen,hp⟩
   have hin:i<n:=by omega
   refine⟨_,rfl,.inl ⟨rfl,_,ao.of hl⟩,?_⟩;refine⟨_,rfl,_,_,rfl,rfl,_,rfl,(0+(i:Int)+1),n,rfl,⟨by omega,by omega,by omega,by omega⟩,λD hD=>?_⟩;refine pM (λj v H=>∃t,v = .ref t/\t≠D/\H t=some (.tup [.int i,.int ((i+1+j:Nat):Int)])) src_range hD (dY (by omega)) (λj v H H' s ⟨b,e,hb,q⟩=>⟨b,e,hb,s _ _ hb q⟩) (λj H3 Kt hj hs hy hk=>?_) (λH3 ys hs hl3 hp3=>?_)
   ·obtain⟨zs,hz⟩:=hy
    refine⟨_,rfl,_,rfl,by show 2<=sizeLine;decide,λt ht=>?_⟩;refine hk _ _ (Same.put ht) ⟨t,rfl,(λe=>by rw[e,hz]at ht;cases ht),?_⟩;rw[av]
    congr 4
    ·omega
    ·congr 1
     push_cast
     omega
   ·have hDL:D≠L:=λe=>by rw[e,hl]at hD;cases hD
    have Br:ys.length=n - (i+1):=by
     have:=dF hp3;simp at this;omega
    refine⟨L,D,us,ys,rfl,rfl,hs _ _ hl,hl3,by have:=@gH 100000 (by omega);omega,?_⟩;refine⟨_,us++ys,rfl,?_,av,by rw[dm];omega,?_⟩
    ·intro b o e
     rw[ax (λz=>by rw[z,hL]at e;cases e)];exact hs _ _ (s2 _ _ e)
    ·rw[w5]
     refine wK (hs _ _ hl) (qL (lq.same hs hp) (qM ?_));have ec:((n:Int) - (0+(i:Int)+1)).toNat=n - (i+1):=by omega
     rw[ec]at hp3;exact Paired.di hp3 λj v ⟨t,e,_,q⟩=>⟨t,e,q⟩
  ·rintro σ H2 ⟨v2,us,rfl,s2,hl,hlen,hp⟩
   rw[en]at hp;exact⟨_,rfl,k L us H2 s2 hl hp⟩
abbrev xq:Stmt:=top 31
theorem Gr:bf ["count","reach","two"] ["count","reach"] (aq xq):=⟨rfl,rfl,rfl,by decide +kernel,rfl,by decide +kernel,by decide +kernel⟩
noncomputable def rZ:Sp:=λvs H Q _=>∃(n:Nat) (v:V) (R:Nat->Nat->Bool),vs = [.int n,v]/\TT H v n (mH R)/\n<=24/\(∀a b,a<b->b<n->¬ (R a b=true/\R b a=true))/\∀H',Same H H'->Q .non H'
theorem Ei (F:aO K "need_one_way" "need_one_way" xq f fd) (T:Txt mg) (hJ:aG P w K mg base "twos" ["count"] 1 oz):aL P w K mg base aW 2 f fd ["count","reach"] rZ:=by
 refine F.ok Gr (λvs H Q E h=>?_) (λcdv A outer s H vs Q E hr h=>?_)
 ·obtain⟨n,v,R,rfl,_⟩:=h
  rfl
 ·obtain⟨n,v,R,rfl,ht,hn,ha,k⟩:=h
  have nd:=Gr.nd;refine⟨_,(aA (dW d7 rfl (gG (K:=K) rfl (bw hJ hr rfl (ag (pv 0) ai))) (bx (i:=2) nd rfl (Or.inl rfl))
   (aA (cp (PW.pt (qX (fA (aM (bV (K:=K) rfl) (aM (bV (K:=K) rfl) (pv 1) (aM (bV (K:=K) rfl) (pv 2) ak (λ_ _=>rfl)) (λ_ _=>rfl)) (aM (bV (K:=K) rfl) (pv 2) ak (λ_ _=>rfl)) (λ_ _=>rfl))) (qY (fA (aM (bV (K:=K) rfl) (aM (bV (K:=K) rfl) (pv 1) (aM (bV (K:=K) rfl) (pv 2) ak (λ_ _=>rfl)) (λ_ _=>rfl)) (aM (bV (K:=K) rfl) (pv 2) ak (λ_ _=>rfl)) (λ_ _=>rfl)))))) (aA qV) c7)))),?_⟩
  refine⟨_,rfl,n,rfl,hn,λl us H1 s1 hl hp=>⟨l,rfl,⟨_,ao.of hl⟩,kL (K:=K) (a:=l) (xs:=us) (λi σ H2=>∃v2,σ = [some (.int n),some v,v2]/\Same H1 H2) ⟨none,rfl,Same.refl _⟩ (λi σ H2 _ ⟨_,_,s2⟩=>ao.of (s2 _ _ hl)) ?_ ?_⟩⟩
  ·rintro i y σ H2 hi ⟨v2,rfl,s2⟩
   obtain⟨p,hp1,t,rfl,htt⟩:=nZ hp hi;obtain⟨b1,b2⟩:=Dq (cX hp1);obtain⟨a,vs,r1,rfl,q1,q2,q3,q4⟩:=(ht.same (s1.trans s2)).row (show p.1<n by omega);obtain⟨a',vs',r2,e',qZ,Rp,wY,wZ⟩:=(ht.same (s1.trans s2)).row b2;cases e';rw[q1]at qZ;cases qZ;have ie:=s2 _ _ htt;refine⟨_,rfl,_,rfl,t,_,0,_,rfl,rfl,aJ.of ie,rfl,a,_,_,_,rfl,rfl,aJ.of q1,bp q3,_,rfl,t,_,1,_,rfl,rfl,aJ.of ie,rfl,r1,_,_,_,rfl,rfl,aJ.of q4,mG b2,_,rfl,cn (λh=>?_) (λh=>?_)⟩
   ·refine⟨_,rfl,_,rfl,t,_,1,_,rfl,rfl,aJ.of ie,rfl,a,_,_,_,rfl,rfl,aJ.of q1,bp wY,_,rfl,t,_,0,_,rfl,rfl,aJ.of ie,rfl,r2,_,_,_,rfl,rfl,aJ.of wZ,mG (show p.1<n by omega),_,rfl,cn (λh'=>?_) (λh'=>?_)⟩
    ·exact absurd ⟨h,h'⟩ (ha _ _ b1 b2)
    ·exact⟨_,rfl,s2⟩
   ·refine bF ?_
    exact⟨_,rfl,s2⟩
  ·rintro σ H2 ⟨v2,rfl,s2⟩
   exact k _ (s1.trans s2)
end
noncomputable def dP(n:Nat)(p:Nat->Bool):List Key:=(List.range n).map λb=>Sum.inl (if p b then 1 else 0)
theorem vL{n:Nat}{p q:Nat->Bool}(h:dP n p=dP n q):∀b,b<n->p b=q b:=by
 intro b hb;have:=congrArg (λl=>l[b]?) h;simp only[dP,bT,yv hb,yP,tW,Sum.inl.injEq]at this;cases hp:p b<;>cases hq:q b<;>simp[hp,hq]at this ⊢
theorem Oc{n:Nat}{p q:Nat->Bool}(h:∀b,b<n->p b=q b):dP n p=dP n q:=by
 unfold dP;apply oX
 intro b hb;rw[h b (by simpa using hb)]
theorem Ct(p:Nat->Bool):∀l:List Nat,qp (l.map λb=>(Sum.inl (if p b then 1 else 0):Key)) (l.map λb=>V.bl (p b))
 | []=>.nil
 |b::r=>.cons (.inr ⟨p b,rfl,rfl⟩) (Ct p r)
theorem Hl{H:Hp}{b:Addr}{n:Nat}{p:Nat->Bool}(h:H b=some (.tup (a_ n p))):g6 H b (dP n p):=⟨_,Ct p _,h⟩
noncomputable def eS(n:Nat)(R:Nat->Nat->Bool):Nat->List (List Key × V)
 |0=>[]
 |i+1=>eS n R i++[(dP n (R i),.int i)]
theorem CK(n:Nat)(R:Nat->Nat->Bool):∀i,(eS n R i).length=i
 |0=>rfl
 |i+1=>by rw[eS,dm,CK n R i];rfl
theorem Pb(l:List (List Key × V)){k k':List Key}{v:V}(e:¬ k'=k)(h:cj l k=none):cj (l++[(k',v)]) k=none:=by
 induction l with
 |nil=>exact iC (p:=(k',v)) e
 |cons p r ih =>
  rw[List.cons_append]
  by_cases q:p.1=k
  ·rw[jc q]at h;cases h
  ·rw[iC q]at h ⊢;exact ih h
theorem vO{n:Nat}{R:Nat->Nat->Bool}{k:List Key}:∀{i:Nat},(∀c,c<i->dP n (R c)≠k)->cj (eS n R i) k=none
 |0,_=>rfl
 |i+1,h=>by
  have ih:=vO (n:=n) (R:=R) (k:=k) (i:=i) λc hc=>h c (by omega);have hk:cj (eS n R i) k=none:=ih;rw[eS];have e:¬ dP n (R i)=k:=h i (by omega);exact Pb (eS n R i) e hk
theorem CN{n:Nat}{R:Nat->Nat->Bool}(dis:∀i j,i<n->j<n->(∀b,b<n->R i b=R j b)->i=j){c:Nat}(hc:c<n):∀{i:Nat},i<=n->c<i->cj (eS n R i) (dP n (R c))=some (.int c)
 |0,_,h=>by omega
 |i+1,hi,h=>by
  rw[eS,Hv _ _ _ _ (vO λd hd e=>by have:=dis d i (by omega) (by omega) (vL e);omega)]
  by_cases e:c=i
  ·subst e;rw[if_pos rfl]
  ·rw[if_neg (λz=>e (dis c i hc (by omega) (vL z)))]
   exact CN dis hc (by omega) (by omega)
noncomputable def kH(n:Nat)(R:Nat->Nat->Bool)(a b:Nat):V:=(cj (eS n R n) (dP n λx=>R a x&&R b x)).getD .non
theorem Ag{n:Nat}{R:Nat->Nat->Bool}(dis:∀i j,i<n->j<n->(∀b,b<n->R i b=R j b)->i=j){a b c:Nat}(hc:c<n)(h:∀x,x<n->R c x=(R a x&&R b x)):kH n R a b = .int c:=by
 unfold kH;rw[<- Oc h,CN dis hc (aC _) hc];rfl
section
variable {P:Program} {w:World} {K:W.Frag} {mg:Str->Option Value} {base:Heap} {f:Addr} {fd:FuncData}
noncomputable def gA(H:Hp)(n:Nat)(R:Nat->Nat->Bool)(us:List V):Prop:=Paired (λi u=>∃b,u = .ref b/\H b=some (.tup (a_ n (R i)))) (List.range n) us
theorem gA.same{H H':Hp}{n:Nat}{R:Nat->Nat->Bool}{us:List V}(s:Same H H')(h:gA H n R us):gA H' n R us:=Paired.di h λ_ _ ⟨b,e,q⟩=>⟨b,e,s _ _ q⟩
theorem gA.len{H:Hp}{n:Nat}{R:Nat->Nat->Bool}{us:List V}(h:gA H n R us):us.length=n:=by simpa using(dF h).symm
theorem gA.get{H:Hp}{n:Nat}{R:Nat->Nat->Bool}{us:List V}(h:gA H n R us){i:Nat}(hi:i<n):∃b,us[i]?=some (.ref b)/\H b=some (.tup (a_ n (R i))):=by
 obtain⟨y,h1,b,rfl,h2⟩:=ll (i:=i) (x:=i) h (yv hi);exact⟨b,h1,h2⟩
abbrev rD:Stmt:=top 32
theorem FZ:bf ["rows","things","thing"] ["rows","things","thing"] (aq rD):=⟨rfl,rfl,rfl,by decide +kernel,rfl,by decide +kernel,by decide +kernel⟩
noncomputable def rR(K:W.Frag):Sp:=λvs H Q _=>∃(c:Bool) (a d t n:Nat) (us:List V) (R:Nat->Nat->Bool) (kvs:List (List Key × V)),vs = [.ref a,.ref d,.int t]/\Sq c K H a us/\gA H n R us/\H d=some (.dT kvs)/\t<n/\n<=24 /\
 ∀l H',Same H H'->H l=none->H' l=some (.tup ((List.range n).map λj=>(cj kvs (dP n λb=>R t b&&R j b)).getD .non))->Q (.ref l) H'
theorem Ec (F:aO K "ends_with" "ends_with" rD f fd) (T:Txt mg) (mW:aG P w K mg base "shared" ["one","other"] 1 si):aL P w K mg base aW 2 f fd ["rows","things","thing"] (rR K):=by
 refine F.ok FZ (λvs H Q E h=>?_) (λcdv A outer s H vs Q E hr h=>?_)
 ·obtain⟨c,a,d,t,n,us,R,kvs,rfl,_⟩:=h
  rfl
 ·obtain⟨c,a,d,t,n,us,R,kvs,rfl,hq,hrow,hd,ht,hn,k⟩:=h
  have nd:=FZ.nd;have hu:=BJ hr;refine⟨_,(aA (bC (eW (iS (K:=K) rfl) rfl T.tuple iQ (ag (dS (own:=["row"]) (fr:=[("things", 1),("rows", 0),("thing", 2)]) rfl (cM (aq rD) ["rows","things","thing"] rfl rfl (by decide +kernel)) (Q7 (K:=K) c rfl (pv 0)) (λ_ _ _ _=>⟨(bx (i:=0) (by decide +kernel:(["row","things","rows","thing"]:List Str).Nodup) rfl (Or.inl rfl)),eX,(QK hu (pv 1) (bw mW hr rfl (ag (aM (N1 (K:=K) c rfl) (pv 2) (pv 3) (λ_ _=>rfl)) (ag (pv 0) ai))) ⟨rfl,rfl,rfl,rfl⟩)⟩)) ai)))),?_⟩;refine⟨_,rfl,a,rfl,⟨_,hq⟩,λD hD=>iT (λj=>(cj kvs (dP n λb=>R t b&&R j b)).getD .non) (Tj hq) hD (dY (by rw[hrow.len];exact hn)) (λi H2 Kt hi hs hk=>?_) (λH' hs hl=>?_)⟩
  ·rw[hrow.len]at hi
   obtain⟨bt,t1,t2⟩:=hrow.get ht;obtain⟨bi,i1,i2⟩:=hrow.get hi;refine⟨_,rfl,d,rfl,.inr ⟨kvs,.inl (hs _ _ hd)⟩,?_⟩;refine⟨_,rfl,_,rfl,a,us,_,_,rfl,rfl,hs.sq hq,bp t1,_,rfl,⟨bt,bi,n,R t,R i,by rw[aQ,i1];rfl,hs _ _ t2,hs _ _ i2,hn⟩,λv H3 s3 hv=>?_⟩;obtain⟨b,rfl,q1,q2⟩:=hv bt bi n (R t) (R i) (by rw[aQ,i1];rfl) (hs _ _ t2) (hs _ _ i2);exact⟨_,lL.t (s3 _ _ (hs _ _ hd)) (Hl q2),hk _ s3⟩
  ·refine⟨D,_,rfl,.inl ⟨ao.of hl,λl hl'=>?_⟩⟩
   rw[hrow.len];exact k l _ (hs.trans (Same.put hl')) (hs.free hl') av
abbrev rC:Stmt:=top 33
theorem FX:bf ["rows","things","thing","row"] ["rows"] (aq rC):=⟨rfl,rfl,rfl,by decide +kernel,rfl,by decide +kernel,by decide +kernel⟩
noncomputable def rQ(K:W.Frag):Sp:=λvs H Q _=>∃(c:Bool) (a n:Nat) (us:List V) (R:Nat->Nat->Bool),vs = [.ref a]/\Sq c K H a us/\gA H n R us/\n<=24/\(∀i j,i<n->j<n->(∀b,b<n->R i b=R j b)->i=j) /\
 ∀v H',Same H H'->TT H' v n (kH n R)->Q v H'
theorem Eb (F:aO K "ends_of" "ends_of" rC f fd) (T:Txt mg) (mK:aG P w K mg base "ends_with" ["rows","things","thing"] 2 (rR K)):aL P w K mg base aW 3 f fd ["rows"] (rQ K):=by
 refine F.ok FX (λvs H Q E h=>?_) (λcdv A outer s H vs Q E hr h=>?_)
 ·obtain⟨c,a,n,us,R,rfl,_⟩:=h
  rfl
 ·obtain⟨c,a,n,us,R,rfl,hq,hrow,hn,dis,k⟩:=h
  have nd:=FX.nd;have hu:=BJ hr;have hlen:=hrow.len;refine⟨_,(aF (aS (i:=1) nd rfl (Or.inr rfl) QM)
   (aF (dW d7 rfl (wR (K:=K) c rfl rfl T.enumerate (ag (pv 0) ai)) (qR (K:=K) (i:=2) (j:=3) rfl rfl nd rfl rfl rfl rfl)
   (aA (Rc hu (pv 1) (pv 3) (pv 2) rfl)))
   (aA (bC (eW (iS (K:=K) rfl) rfl T.tuple iQ (ag (dS (own:=["thing"]) (fr:=[("rows", 0),("things", 1)]) rfl (cM (aq rC) ["rows","things","thing","row"] rfl rfl (by decide +kernel)) (fV rfl T.range (ag (bB (iR (K:=K) rfl) rfl T.len jl (ag (pv 0) ai)) ai)) (λ_ _ _ _=>⟨(bx (i:=0) (by decide +kernel:(["thing","rows","things"]:List Str).Nodup) rfl (Or.inl rfl)),eX,(bw mK hr rfl (ag (pv 1) (ag (pv 2) (ag (pv 0) ai (bQ nofun)) (bQ nofun)) (bQ nofun)))⟩)) ai)))))),?_⟩
  intro d hd;refine⟨_,rfl,a,us,rfl,(Same.put hd).sq hq,As (K:=K) (c:=c) (l:=a) (xs:=us) (λi σ H2=>∃v2 v3,σ = [some (.ref a),some (.ref d),v2,v3]/\Same H H2/\H2 d=some (.dT (eS n R i))/\i<=n)
   ⟨none,none,rfl,Same.put hd,av,cA _⟩ (λi σ H2 ⟨_,_,_,s2,_⟩=>s2.sq hq) ?_ ?_⟩
  ·rintro i x σ H2 t hx ht ⟨v2,v3,rfl,s2,h2,hi⟩
   have hin:i<n:=by rw[<- hlen];exact(cw.mp hx).1
   obtain⟨bi,i1,i2⟩:=hrow.get hin;rw[i1]at hx;cases hx;refine⟨t,_,rfl,aJ.of av,rfl,_,_,rfl,_,_,rfl,rfl,?_⟩;have hdt:d≠t:=λe=>by rw[<- e,h2]at ht;cases ht
   have h2':(upd H2 t (.tup [.int i,.ref bi])) d=some (.dT (eS n R i)):=by rw[ax hdt];exact h2
   have i3:(upd H2 t (.tup [.int i,.ref bi])) bi=some (.tup (a_ n (R i))):=Same.put ht _ _ (s2 _ _ i2);have hnone:cj (eS n R i) (dP n (R i))=none:=vO λc' hc' e=>by have:=dis c' i (by omega) hin (vL e);omega
   refine⟨_,rfl,_,rfl,_,rfl,d,_,rfl,lM.t h2' (Hl i3) (by rw[CK];exact dY (by omega)),?_⟩;refine⟨_,_,rfl,?_,?_,hin⟩
   ·intro b o e
    rw[ax (λz=>by rw[z,hd]at e;cases e)];exact Same.put ht _ _ (s2 _ _ e)
   ·rw[av,Ri _ hnone]
    rfl
  ·rintro σ H2 ⟨v2,v3,rfl,s2,h2,hi⟩
   rw[hlen]at h2;have hq2:ao K H2 a us\/aJ K H2 a us:=by
    have:=s2.sq hq;cases c with
    |true=>exact .inl this
    |false=>exact .inr this
   refine⟨_,rfl,a,us,rfl,hq2,us.length,rfl,(cT (by omega)).1,(cT (by omega)).2,λD hD=>?_⟩;rw[hlen];refine pM (λi v H=>∃b,v = .ref b/\b≠D/\H b=some (.tup ((List.range n).map (kH n R i)))) src_range hD (dY (by simpa using hn)) (λi v H H' s ⟨b,e,hb,q⟩=>⟨b,e,hb,s _ _ hb q⟩) (λi H3 Kt hi hs hy hk=>?_) (λH3 ys hs hl hp=>?_)
   ·have hin:i<n:=by simpa using hi
    obtain⟨zs,hz⟩:=hy;refine⟨_,rfl,_,rfl,_,rfl,c,a,d,i,n,us,R,_,by simp,hs.sq (s2.sq hq),(hrow.same s2).same hs,hs _ _ h2,hin,hn,λl H4 s4 h4 q4=>?_⟩;exact hk _ H4 s4 ⟨l,rfl,(λe=>by rw[e,hz]at h4;cases h4),q4⟩
   ·refine⟨D,_,rfl,.inl ⟨ao.of hl,λl hl'=>?_⟩⟩
    have en:((n:Int)).toNat=n:=bX n;rw[en]at hp;exact k _ _ ((s2.trans hs).trans (Same.put hl')) ⟨l,ys,rfl,av,Paired.di hp λi u ⟨b,e,_,q⟩=>⟨b,e,Same.put hl' _ _ q⟩⟩
end
theorem O8{α:Type}{n:Nat}{g:Nat->α}{j:Nat}(h:j<n):((List.range n).map g)[j]?=some (g j):=by simp[h]
section
variable {P:Program} {w:World} {K:W.Frag} {mg:Str->Option Value} {base:Heap} {f:Addr} {fd:FuncData}
abbrev xo:Stmt:=top 34
theorem Gq:bf ["count","joins","meets","two"] ["count","joins","meets"] (aq xo):=⟨rfl,rfl,rfl,by decide +kernel,rfl,by decide +kernel,by decide +kernel⟩
noncomputable def rY:Sp:=λvs H Q _=>∃(n:Nat) (v u:V) (g g':Nat->Nat->V),vs = [.int n,v,u]/\TT H v n g/\TT H u n g'/\n<=24/\(∀a b,a<n->b<n->g a b≠.non/\g' a b≠.non)/\∀H',Same H H'->Q .non H'
theorem Eh (F:aO K "need_ends" "need_ends" xo f fd) (T:Txt mg) (hJ:aG P w K mg base "twos" ["count"] 1 oz):aL P w K mg base aW 2 f fd ["count","joins","meets"] rY:=by
 refine F.ok Gq (λvs H Q E h=>?_) (λcdv A outer s H vs Q E hr h=>?_)
 ·obtain⟨n,v,u,g,g',rfl,_⟩:=h
  rfl
 ·obtain⟨n,v,u,g,g',rfl,ht,ht',hn,ha,k⟩:=h
  have nd:=Gq.nd;refine⟨_,(aA (dW d7 rfl (gG (K:=K) rfl (bw hJ hr rfl (ag (pv 0) ai))) (bx (i:=3) nd rfl (Or.inl rfl))
   (aA (cp (PW.pt (iZ (bR wD (aM (bV (K:=K) rfl) (aM (bV (K:=K) rfl) (pv 1) (aM (bV (K:=K) rfl) (pv 3) ak (λ_ _=>rfl)) (λ_ _=>rfl)) (aM (bV (K:=K) rfl) (pv 3) ak (λ_ _=>rfl)) (λ_ _=>rfl)) qP (bN _)) (jP (bR wD (aM (bV (K:=K) rfl) (aM (bV (K:=K) rfl) (pv 2) (aM (bV (K:=K) rfl) (pv 3) ak (λ_ _=>rfl)) (λ_ _=>rfl)) (aM (bV (K:=K) rfl) (pv 3) ak (λ_ _=>rfl)) (λ_ _=>rfl)) qP (bN _))))) (aA qV) c7)))),?_⟩
  refine⟨_,rfl,n,rfl,hn,λl us H1 s1 hl hp=>⟨l,rfl,⟨_,ao.of hl⟩,kL (K:=K) (a:=l) (xs:=us) (λi σ H2=>∃v2,σ = [some (.int n),some v,some u,v2]/\Same H1 H2) ⟨none,rfl,Same.refl _⟩ (λi σ H2 _ ⟨_,_,s2⟩=>ao.of (s2 _ _ hl)) ?_ ?_⟩⟩
  ·rintro i y σ H2 hi ⟨v2,rfl,s2⟩
   obtain⟨p,hp1,t,rfl,htt⟩:=nZ hp hi;obtain⟨b1,b2⟩:=Dq (cX hp1);have hp0:p.1<n:=by omega
   obtain⟨a,vs,r1,rfl,q1,q2,q3,q4⟩:=(ht.same (s1.trans s2)).row hp0;obtain⟨a',vs',r2,rfl,qZ,Rp,wY,wZ⟩:=(ht'.same (s1.trans s2)).row hp0;have ie:=s2 _ _ htt;obtain⟨n1,n2⟩:=ha _ _ hp0 b2;refine⟨_,rfl,_,rfl,t,_,0,_,rfl,rfl,aJ.of ie,rfl,a,_,_,_,rfl,rfl,aJ.of q1,bp q3,_,rfl,t,_,1,_,rfl,rfl,aJ.of ie,rfl,r1,_,_,_,rfl,rfl,aJ.of q4,mG b2,rfl,_,rfl,?_⟩;rw[cI n1];refine bF ?_;refine⟨_,rfl,_,rfl,t,_,0,_,rfl,rfl,aJ.of ie,rfl,a',_,_,_,rfl,rfl,aJ.of qZ,bp wY,_,rfl,t,_,1,_,rfl,rfl,aJ.of ie,rfl,r2,_,_,_,rfl,rfl,aJ.of wZ,mG b2,rfl,_,rfl,?_⟩;rw[cI n2];refine bF ?_;exact⟨_,rfl,s2⟩
  ·rintro σ H2 ⟨v2,rfl,s2⟩
   exact k _ (s1.trans s2)
abbrev rJ:Stmt:=top 35
theorem Gx:bf ["count","reach","told","low"] ["count","reach"] (aq rJ):=⟨rfl,rfl,rfl,by decide +kernel,rfl,by decide +kernel,by decide +kernel⟩
noncomputable def mn(H:Hp)(v:V)(ps:List (Nat × Nat)):Prop:=∃a us,v = .ref a/\H a=some (.tup us)/\Paired (eV H) ps us
noncomputable def se:Sp:=λvs H Q _=>∃(n:Nat) (v:V) (R:Nat->Nat->Bool),vs = [.int n,v]/\TT H v n (mH R)/\n<=24/\∀u H',Same H H'->mn H' u (EY n R)->Q u H'
theorem Em (F:aO K "pairs_of" "pairs_of" rJ f fd) (T:Txt mg):aL P w K mg base aW 1 f fd ["count","reach"] se:=by
 refine F.ok Gx (λvs H Q E h=>?_) (λcdv A outer s H vs Q E hr h=>?_)
 ·obtain⟨n,v,R,rfl,_⟩:=h
  rfl
 ·obtain⟨n,v,R,rfl,ht,hn,k⟩:=h
  have nd:=Gx.nd;have en:((n:Int)).toNat=n:=bX n;refine⟨_,(aF (aS (i:=2) nd rfl (Or.inl rfl) (c6 ai))
   (aF (dW d7 rfl (fV rfl T.range (ag (pv 0) ai)) (bx (i:=3) nd rfl (Or.inr rfl))
   (aA (dU (lr (K:=K) rfl my t5 y8 v9 (pv 2) (ag (dS (own:=["high"]) (fr:=[("low", 3),("reach", 1)]) rfl (cM (aq rJ) ["count","reach","told","low"] rfl rfl (by decide +kernel)) (fV rfl T.range (ag (pv 0) ai)) (λ_ _ _ _=>⟨(bx (i:=0) (by decide +kernel:(["high","low","reach"]:List Str).Nodup) rfl (Or.inl rfl)),(og (PW.pt (qX (bR jM (pv 1) (pv 0) (bN _)) (qY (fA (aM (bV (K:=K) rfl) (aM (bV (K:=K) rfl) (pv 2) (pv 1) (λ_ _=>rfl)) (pv 0) (λ_ _=>rfl))))))),(oa (ag (pv 1) (ag (pv 0) ai)))⟩)) ai)))))
   (aA (bC (eW (iS (K:=K) rfl) rfl T.tuple iQ (ag (pv 2) ai)))))),?_⟩
  refine⟨by show 0<=sizeLine;decide,λL hL=>?_⟩;refine⟨_,rfl,n,rfl,(cT (by omega)).1,(cT (by omega)).2,jx (lo:=0) (n:=((n:Int)).toNat) (λi σ H2=>∃v3 us,σ = [some (.int n),some v,some (.ref L),v3]/\Same H H2/\H2 L=some (.lst us)/\us.length<=24*i /\
   Paired (eV H2) ((List.range i).flatMap λl=>((List.range n).filter λh=>!decide (l=h)&&R l h).map λh=>(l,h)) us) ⟨none,[],rfl,Same.put hL,av,by simp,.nil⟩ ?_ ?_⟩
  ·rintro i σ H2 hi ⟨v3,us,rfl,s2,hl,hlen,hp⟩
   have hin:i<n:=by omega
   refine⟨_,rfl,.inl ⟨rfl,_,ao.of hl⟩,?_⟩;refine⟨_,rfl,n,rfl,(cT (by omega)).1,(cT (by omega)).2,λD hD=>?_⟩;refine pN (λj=>!decide (i=j)&&R i j) (λj v H=>∃t,v = .ref t/\t≠D/\H t=some (.tup [.int i,.int (j:Int)])) src_range hD (dY (by omega)) (λj v H H' s ⟨b,e,hb,q⟩=>⟨b,e,hb,s _ _ hb q⟩) (λj H3 Kt Kf hj hs hy hkt hkf=>?_) (λH3 ys hs hl3 hp3=>?_)
   ·have hjn:j<n:=by omega
    obtain⟨zs,hz⟩:=hy;obtain⟨a,vs,r1,rfl,q1,q2,q3,q4⟩:=(ht.same (s2.trans hs)).row hin;refine⟨_,rfl,_,rfl,rfl,_,rfl,?_⟩;have ed:(!decide (V.int (0+(i:Int))=V.int (0+(j:Int)))) = !decide (i=j):=by
     congr 1
     rw[oP];exact zV
    rw[ed];refine cn (λh=>?_) (λh=>?_)
    ·refine⟨_,rfl,_,rfl,a,_,_,_,rfl,rfl,aJ.of q1,at0 q3,_,rfl,r1,_,_,_,rfl,rfl,aJ.of q4,at0 (O8 hjn),_,rfl,cn (λh'=>?_) (λh'=>?_)⟩
     ·refine⟨_,rfl,_,rfl,by show 2<=sizeLine;decide,λt ht=>?_⟩
      refine hkt _ _ (by rw[h,h',sZ]) (Same.put ht) ⟨t,rfl,(λe=>by rw[e,hz]at ht;cases ht),?_⟩;rw[av,oP,oP]
     ·exact hkf _ (by rw[h,sZ];simpa using h') (Same.refl _)
    ·refine bF ?_
     have h2:(!decide (i=j))=false:=by simpa using h
     exact hkf _ (by rw[h2,sY]) (Same.refl _)
   ·have hDL:D≠L:=λe=>by rw[e,hl]at hD;cases hD
    rw[en]at hp3;have Br:ys.length<=n:=by
     have h1:=dF hp3;have h2:=lT (λj=>!decide (i=j)&&R i j) (List.range n);rw[lU]at h2;omega
    refine⟨L,D,us,ys,rfl,rfl,hs _ _ hl,hl3,by have:=@gH 100000 (by omega);omega,?_⟩;refine⟨_,us++ys,rfl,?_,av,by rw[dm];omega,?_⟩
    ·intro b o e
     rw[ax (λz=>by rw[z,hL]at e;cases e)];exact hs _ _ (s2 _ _ e)
    ·rw[w5]
     refine wK (hs _ _ hl) (qL (lq.same hs hp) (qM ?_));exact Paired.di hp3 λj v ⟨t,e,_,q⟩=>⟨t,e,q⟩
  ·rintro σ H2 ⟨v2,us,rfl,s2,hl,hlen,hp⟩
   rw[en]at hp;refine⟨_,rfl,L,us,rfl,.inl ⟨ao.of hl,λl hl'=>?_⟩⟩;exact k _ _ (s2.trans (Same.put hl')) ⟨l,us,rfl,av,lq.same (Same.put hl') hp⟩
end
structure Good (n:Nat) (R:Nat->Nat->Bool):Prop where
 refl:∀a,a<n->R a a=true
 anti:∀a b,a<n->b<n->R a b=true->R b a=true->a=b
 join:∀a b,a<n->b<n->∃c,c<n/\∀x,x<n->R c x=(R a x&&R b x)
 meet:∀a b,a<n->b<n->∃c,c<n/\∀x,x<n->R x c=(R x a&&R x b)
theorem Good.dis{n:Nat}{R:Nat->Nat->Bool}(G:Good n R):∀i j,i<n->j<n->(∀b,b<n->R i b=R j b)->i=j:=λi j hi hj h =>
 G.anti i j hi hj (by rw[h j hj];exact G.refl j hj) (by rw[<- h i hi];exact G.refl i hi)
theorem Good.z0{n:Nat}{R:Nat->Nat->Bool}(G:Good n R):∀i j,i<n->j<n->(∀b,b<n->R b i=R b j)->i=j:=λi j hi hj h =>
 G.anti i j hi hj (by rw[<- h i hi];exact G.refl i hi) (by rw[h j hj];exact G.refl j hj)
noncomputable def bL (n:Nat) (vp vr vj vm:V):List (Str × V):=aR "meets" vm (aR "joins" vj (aR "reach" vr (aR "pairs" vp (aR "count" (.int n) []))))
noncomputable def yQ(C:Addr)(H:Hp)(p n:Nat)(R:Nat->Nat->Bool):Prop:=∃dx vp vr vj vm,H p=some (.ins C dx (bL n vp vr vj vm))/\mn H vp (EY n R)/\TT H vr n (mH R)/\TT H vj n (kH n R)/\TT H vm n (kH n λa b=>R b a)
structure oI (K:W.Frag) (C:Addr):Prop where
 cl:Cls K C
 nC:gQ K C "count"
 nP:gQ K C "pairs"
 nR:gQ K C "reach"
 nJ:gQ K C "joins"
 nM:gQ K C "meets"
theorem TT.ins{H:Hp}{p C dx:Addr}{fs:List (Str × V)}{o:HO}(hp:H p=some (.ins C dx fs)){v:V}{n:Nat}{g:Nat->Nat->V}(h:TT H v n g):TT (upd H p o) v n g:=
 let⟨a,vs,e,q,r⟩:=h
 ⟨a,vs,e,by rw[ax (iq q hp (λz=>nomatch z))];exact q,Paired.di r λ_ _ ⟨b,e,q⟩=>⟨b,e,by rw[ax (iq q hp (λz=>nomatch z))];exact q⟩⟩
theorem mn.ins{H:Hp}{p C dx:Addr}{fs:List (Str × V)}{o:HO}(hp:H p=some (.ins C dx fs)){v:V}{ps:List (Nat × Nat)}(h:mn H v ps):mn (upd H p o) v ps:=
 let⟨a,vs,e,q,r⟩:=h
 ⟨a,vs,e,by rw[ax (iq q hp (λz=>nomatch z))];exact q,Paired.di r λ_ _ ⟨b,e,q⟩=>⟨b,e,by rw[ax (iq q hp (λz=>nomatch z))];exact q⟩⟩
section
variable {P:Program} {w:World} {K:W.Frag} {mg:Str->Option Value} {base:Heap} {f:Addr} {fd:FuncData}
abbrev rn:Stmt:=inClass (top 36) 0
theorem FN:bf ["self","count","pairs","reach","joins","meets"] ["self","count","pairs"] (aq rn):=⟨rfl,rfl,rfl,by decide +kernel,rfl,by decide +kernel,by decide +kernel⟩
noncomputable def rT(K:W.Frag)(C:Addr):Sp:=λvs H Q _=>∃(p dx n a:Nat) (ps:List (Nat × Nat)),vs = [.ref p,.int n,.ref a]/\H p=some (.ins C dx [])/\kf K H a ps/\1<=n/\n<=24/\(∀p∈ps,p.1<n/\p.2<n)/\(∀R,Ev.lK n ps R->Good n R) /\
 ∀H' R,(∀b o,H b=some o->b≠p->H' b=some o)->Ev.lK n ps R->yQ C H' p n R->Q .non H'
theorem Ed {C:Addr} (F:aO K "__init__" "Order.__init__" rn f fd) (T:Txt mg) (TC:oI K C)
  (mM:aG P w K mg base "need_count" ["count"] 2 rX) (mQ:aG P w K mg base "need_pairs" ["count","pairs"] 4 (r0 K)) (mV:aG P w K mg base "reach_of" ["count","pairs"] 2 (sf K))
  (mP:aG P w K mg base "need_one_way" ["count","reach"] 2 rZ) (kx:aG P w K mg base "ends_of" ["rows"] 3 (rQ K)) (mI:aG P w K mg base "column" ["rows","place"] 1 rN)
  (mO:aG P w K mg base "need_ends" ["count","joins","meets"] 2 rY) (mU:aG P w K mg base "pairs_of" ["count","reach"] 1 se):aL P w K mg base aW 5 f fd ["self","count","pairs"] (rT K C):=by
 refine F.ok FN (λvs H Q E h=>?_) (λcdv A outer s H vs Q E hr h=>?_)
 ·obtain⟨p,dx,n,a,ps,rfl,_⟩:=h
  rfl
 ·obtain⟨p,dx,n,a,ps,rfl,hp,hps,h1,hn,hb,hg,k⟩:=h
  have nd:=FN.nd;have en:((n:Int)).toNat=n:=bX n;refine⟨_,(aF (dU (bw mM hr rfl (ag (pv 1) ai)))
   (aF (dU (bw mQ hr rfl (ag (pv 1) (ag (pv 2) ai))))
   (aF (aS (i:=3) nd rfl (Or.inr rfl) (bw mV hr rfl (ag (pv 1) (ag (pv 2) ai))))
   (aF (dU (bw mP hr rfl (ag (pv 1) (ag (pv 3) ai))))
   (aF (aS (i:=4) nd rfl (Or.inl rfl) (bw kx hr rfl (ag (pv 3) ai)))
   (aF (aS (i:=5) nd rfl (Or.inl rfl) (bw kx hr rfl (ag (dS (own:=["thing"]) (fr:=[("reach", 3)]) rfl (cM (aq rn) ["self","count","pairs","reach","joins","meets"] rfl rfl (by decide +kernel)) (fV rfl T.range (ag (pv 1) ai)) (λ_ _ _ _=>⟨(bx (i:=0) (by decide +kernel:(["thing","reach"]:List Str).Nodup) rfl (Or.inl rfl)),eX,(bw mI hr rfl (ag (pv 1) (ag (pv 0) ai)))⟩)) ai)))
   (aF (dU (bw mO hr rfl (ag (pv 1) (ag (pv 4) (ag (pv 5) ai (bQ nofun)) (bQ nofun)) (bQ nofun))))
   (aF (oj (K:=K) rfl (pv 0) (pv 1) rfl)
   (aF (oj (K:=K) rfl (pv 0) (bw mU hr rfl (ag (pv 1) (ag (pv 3) ai))) rfl)
   (aF (oj (K:=K) rfl (pv 0) (pv 3) rfl)
   (aF (oj (K:=K) rfl (pv 0) (pv 4) rfl)
   (aA (oj (K:=K) rfl (pv 0) (pv 5) rfl))))))))))))),?_⟩
  refine⟨_,rfl,⟨n,rfl,by omega,by omega⟩,λv1 H1 s1 _=>?_⟩;refine⟨_,rfl,_,rfl,⟨n,a,ps,rfl,hps.same s1,hb⟩,λv2 H2 s2 _=>?_⟩;have lA:=s1.trans s2;refine⟨_,rfl,_,rfl,n,a,ps,rfl,hps.same lA,hn,hb,λvr H3 R s3 hC ht=>?_⟩;have G:=hg R hC;refine⟨_,rfl,_,rfl,n,vr,R,rfl,ht,hn,λx y hx hy ⟨h1,h2⟩=>absurd (G.anti x y (by omega) hy h1 h2) (by omega),λH4 s4=>?_⟩;obtain⟨ra,us,rfl,q1,q2⟩:=id (ht.same s4);refine⟨_,rfl,false,ra,n,us,R,rfl,aJ.of q1,q2,hn,G.dis,λvj H5 s5 htj=>?_⟩;refine⟨_,rfl,n,rfl,(cT (by omega)).1,(cT (by omega)).2,λD hD=>?_⟩;refine pM (λi v H=>∃b,v = .ref b/\b≠D/\H b=some (.tup (a_ n λj=>R j i))) src_range hD (dY (by omega)) (λi v H H' s ⟨b,e,hb,q⟩=>⟨b,e,hb,s _ _ hb q⟩) (λi H6 Kt hi hs hy hk=>?_) (λH6 ys hs hl Bu=>?_)
  ·obtain⟨zs,hz⟩:=hy
   have hin:i<n:=by omega
   have Bx:=((ht.same s4).same s5).same hs;refine⟨_,rfl,_,rfl,⟨_,n,i,_,by simp,Bx,hin,hn⟩,λv H7 s7 hv=>?_⟩;obtain⟨b,rfl,b1,b2⟩:=hv _ n i _ (by simp) Bx hin;exact hk _ H7 s7 ⟨b,rfl,(λe=>by rw[e,hz]at b1;cases b1),b2⟩
  rw[en]at Bu;have R8:gA H6 n (λa b=>R b a) ys:=Paired.di Bu λi u ⟨b,e,_,q⟩=>⟨b,e,q⟩;refine⟨true,D,n,ys,_,rfl,ao.of hl,R8,hn,G.z0,λvm H7 s7 Bz=>?_⟩;have By:=(htj.same hs).same s7;have Sb:Same H H7:=((((lA.trans s3).trans s4).trans s5).trans hs).trans s7;refine⟨_,rfl,_,rfl,_,rfl,n,vj,vm,_,_,rfl,By,Bz,hn,λx y hx hy=>?_,λH8 s8=>?_⟩
  ·obtain⟨c,hc,hj⟩:=G.join x y hx hy
   obtain⟨d,hd,hm⟩:=G.meet x y hx hy;rw[Ag G.dis hc hj,Ag G.z0 hd hm];exact⟨(λz=>nomatch z),(λz=>nomatch z)⟩
  have FH:=Sb.trans s8;have hp8:H8 p=some (.ins C dx []):=FH _ _ hp;have BG:TT H8 (.ref ra) n (mH R):=((((ht.same s4).same s5).same hs).same s7).same s8;refine⟨_,rfl,_,rfl,p,C,dx,[],rfl,hp8,TC.cl,TC.nC,by show 0<1000;decide,?_⟩;refine⟨_,rfl,_,rfl,n,_,R,rfl,BG.ins hp8,hn,λvp H9 s9 hpp=>?_⟩;have hp9:=s9 _ _ (av (H:=H8) (a:=p) (o:=.ins C dx (aR "count" (.int n) [])));have Nj:=(BG.ins hp8 (o:=.ins C dx (aR "count" (.int n) []))).same s9;have Ng:=((By.same s8).ins hp8 (o:=.ins C dx (aR "count" (.int n) []))).same s9;have Nh:=((Bz.same s8).ins hp8 (o:=.ins C dx (aR "count" (.int n) []))).same s9;have l1:(aR "count" (V.int n) []).length<=1:=la _ _ _;have l2:(aR "pairs" vp (aR "count" (V.int n) [])).length<=2:=cy (la _ _ _) (by omega);have l3:(aR "reach" (V.ref ra) (aR "pairs" vp (aR "count" (V.int n) []))).length<=3:=cy (la _ _ _) (by omega);have l4:(aR "joins" vj (aR "reach" (V.ref ra) (aR "pairs" vp (aR "count" (V.int n) [])))).length<=4:=cy (la _ _ _) (by omega);refine⟨_,rfl,p,C,dx,_,rfl,hp9,TC.cl,TC.nP,by omega,?_⟩;refine⟨_,rfl,_,rfl,p,C,dx,_,rfl,av,TC.cl,TC.nR,by omega,?_⟩;refine⟨_,rfl,_,rfl,p,C,dx,_,rfl,av,TC.cl,TC.nJ,by omega,?_⟩;refine⟨_,rfl,_,rfl,p,C,dx,_,rfl,av,TC.cl,TC.nM,by omega,?_⟩;rw[xX,xX,xX];refine k _ R (λb o e Bi=>?_) hC ⟨dx,vp,_,vj,vm,av,hpp.ins hp9,Nj.ins hp9,Ng.ins hp9,Nh.ins hp9⟩;rw[ax Bi];refine s9 _ _ ?_;rw[ax Bi];exact FH _ _ e
end
structure lJ (P:Program) (w:World) (K:W.Frag) (mg:Str->Option Value) (base:Heap) (C:Addr) (x:Str) (ps:List Str) (k:Nat) (sp:Sp):Prop where
 ex:∃(f:Addr) (fd:FuncData),aL P w K mg base aW k f fd ps sp/\Mk K C f/\mg x=some (.ref C)/\Binds K fd ps []
section
variable {X:Cx} {C:Addr} {x:Str} {ps:List Str} {k k':Nat} {sp:Sp} {e:Expr} {es:List Expr} {t:TA} {p pos:Pos}
theorem QR (c:lJ X.prog X.w X.K X.mg X.base C x ps k sp) (hr:aV k' X.A) (hg:Gl X x) (ha:PA X (e::es) t) (hk:k+1<=k':=by decide) (hdb:(x==("__debug__" : Str))=false:=by decide)
  (he:starEach (e::es) X.env=(false,eval e X.env)::starEach es X.env:=by rfl) (hpl:(backTo pos (starEach es X.env)).any (·.1)=false:=by rfl):PE X (.Call (.Name x p) (e::es) [] pos) (Hf C sp [] E0 t):=by
 obtain⟨f,fd,F,M,hm,b⟩:=c.ex;exact QQ M F (hr.mono hk) hg hm b .nil qN ha hdb he hpl
end
structure aH (K:W.Frag) (x:Str) (st:Stmt):Prop where
 ex:∃(f:Addr) (fd:FuncData),W.nsIn K mainGlobals x=some (some (.ref f))/\aO K x x st f fd
theorem aH.mk'{K:W.Frag}{x:Str}{st:Stmt}{f:Addr}{oc:Value}{od an:Option Addr}{osl:Array (Option Value)}{kV doc pm cdv ct:Value}(a:W.nsIn K mainGlobals x=some (some (.ref f)))
  (l:K.lookup f=some ⟨oc,od,.func (W.fnOf x x (hV st) (dI st) (aq st) .none kV doc pm an cdv ct),osl⟩) (c:W.codeIn K cdv x=true) (k:W.keepIn K (.ref f)=true):aH K x st:=⟨f,_,a,Aw l c k⟩
abbrev sW (x:Str) (st:Stmt) (ps:List Str):Prop:=∀(kV doc pm:Value) (an:Option Addr) (cdv ct:Value) (us:List Value),us.length=ps.length->bindArgs (W.fnOf x x (hV st) (dI st) (aq st) .none kV doc pm an cdv ct) ⟨us,[]⟩=pure (ps.zip us)
theorem aH.cal{P:Program}{w:World}{K:W.Frag}{mg:Str->Option Value}{base h:Heap}{x:Str}{st:Stmt}{ps:List Str}{k:Nat}{sp:Sp}(A:aH K x st)(X:K.In h)(G:h.Ns mainGlobals mg)(hb:sW x st ps)(ok:∀{f:Addr} {fd:FuncData},aO K x x st f fd->aL P w K mg base aW k f fd ps sp):aG P w K mg base x ps k sp:=by
 obtain⟨f,fd,a,F⟩:=A.ex;exact⟨f,fd,ok F,W.mg_of X G a,F.kp,F.binds hb⟩
structure ClsAt (K:W.Frag) (x qual:Str) (st:Stmt) (C:Addr):Prop where
 ns:W.nsIn K mainGlobals x=some (some (.ref C))
 cl:Cls K C
 ex:∃(f:Addr) (fd:FuncData),aO K "__init__" qual st f fd/\Mk K C f
theorem ClsAt.mk'{K:W.Frag}{x qual:Str}{st:Stmt}{C f:Addr}{oc:Value}{od an:Option Addr}{osl:Array (Option Value)}{kV doc pm cdv ct:Value}(ns:W.nsIn K mainGlobals x=some (some (.ref C)))
  (pg:W.plainGet K C Str.empty=true) (hd:W.hasDictIn K C=true) (po:W.plainOver K C=true) (sa:W.findIn K (.ref C) "__setattr__" = some (some (.builtin "object.__setattr__"))) (mk:W.makesIn K C=true) (kc:W.keepIn K (.ref C)=true)
  (a:W.findIn K (.ref C) "__init__" = some (some (.ref f))) (i:W.isFn K (.ref f)=true)
  (l:K.lookup f=some ⟨oc,od,.func (W.fnOf "__init__" qual (hV st) (dI st) (aq st) .none kV doc pm an cdv ct),osl⟩) (c:W.codeIn K cdv qual=true) (k:W.keepIn K (.ref f)=true):ClsAt K x qual st C:=
 ⟨ns,⟨pg,hd,po,sa⟩,f,_,Aw l c k,⟨mk,a,i,kc⟩⟩
theorem ClsAt.cal{P:Program}{w:World}{K:W.Frag}{mg:Str->Option Value}{base h:Heap}{x qual:Str}{st:Stmt}{C:Addr}{ps:List Str}{k:Nat}{sp:Sp}(A:ClsAt K x qual st C)(X:K.In h)(G:h.Ns mainGlobals mg)
  (hb:∀(kV doc pm:Value) (an:Option Addr) (cdv ct:Value) (us:List Value),us.length=ps.length->bindArgs (W.fnOf "__init__" qual (hV st) (dI st) (aq st) .none kV doc pm an cdv ct) ⟨us,[]⟩=pure (ps.zip us))
  (ok:∀{f:Addr} {fd:FuncData},aO K "__init__" qual st f fd->aL P w K mg base aW k f fd ps sp):lJ P w K mg base C x ps k sp:=by
 obtain⟨f,fd,F,M⟩:=A.ex;exact⟨f,fd,ok F,M,W.mg_of X G A.ns,F.binds hb⟩
structure km (K:W.Frag):Prop where
 len:W.nsIn K mainGlobals "len" = some none
 range:W.nsIn K mainGlobals "range" = some none
 zip:W.nsIn K mainGlobals "zip" = some none
 enumerate:W.nsIn K mainGlobals "enumerate" = some none
 tuple:W.nsIn K mainGlobals "tuple" = some none
 list:W.nsIn K mainGlobals "list" = some none
 int:W.nsIn K mainGlobals "int" = some none
 bool:W.nsIn K mainGlobals "bool" = some none
 str:W.nsIn K mainGlobals "str" = some none
 isinstance:W.nsIn K mainGlobals "isinstance" = some none
 sum:W.nsIn K mainGlobals "sum" = some none
 any:W.nsIn K mainGlobals "any" = some none
 all:W.nsIn K mainGlobals "all" = some none
 sorted:W.nsIn K mainGlobals "sorted" = some none
 min:W.nsIn K mainGlobals "min" = some none
 max:W.nsIn K mainGlobals "max" = some none
 most:∃t,W.nsIn K mainGlobals "MOST_THINGS" = some (some (.int 24 t))
theorem km.txt{K:W.Frag}{mg:Str->Option Value}{h:Heap}(A:km K)(X:K.In h)(G:h.Ns mainGlobals mg):Txt mg:=
 ⟨W.mg_none_of X G A.len,W.mg_none_of X G A.range,W.mg_none_of X G A.zip,W.mg_none_of X G A.enumerate,W.mg_none_of X G A.tuple,W.mg_none_of X G A.list,W.mg_none_of X G A.int,W.mg_none_of X G A.bool,W.mg_none_of X G A.str,
  W.mg_none_of X G A.isinstance,W.mg_none_of X G A.sum,W.mg_none_of X G A.any,W.mg_none_of X G A.all,W.mg_none_of X G A.sorted,W.mg_none_of X G A.min,W.mg_none_of X G A.max,let⟨t,e⟩:=A.most;⟨t,W.mg_of X G e⟩⟩
theorem km.mk' {K:W.Frag} {t:Tok} (l1:W.nsIn K mainGlobals "len" = some none) (l2:W.nsIn K mainGlobals "range" = some none) (l3:W.nsIn K mainGlobals "zip" = some none) (l4:W.nsIn K mainGlobals "enumerate" = some none)
  (l5:W.nsIn K mainGlobals "tuple" = some none) (l6:W.nsIn K mainGlobals "list" = some none) (l7:W.nsIn K mainGlobals "int" = some none) (l8:W.nsIn K mainGlobals "bool" = some none) (l9:W.nsIn K mainGlobals "str" = some none)
  (l10:W.nsIn K mainGlobals "isinstance" = some none) (vP:W.nsIn K mainGlobals "sum" = some none) (vQ:W.nsIn K mainGlobals "any" = some none) (vR:W.nsIn K mainGlobals "all" = some none) (vS:W.nsIn K mainGlobals "sorted" = some none) (vT:W.nsIn K mainGlobals "min" = some none) (vU:W.nsIn K mainGlobals "max" = some none) (m:W.nsIn K mainGlobals "MOST_THINGS" = some (some (.int 24 t))):km K:=⟨l1,l2,l3,l4,l5,l6,l7,l8,l9,l10,vP,vQ,vR,vS,vT,vU,t,m⟩
theorem zz(x y:Nat):Builtin.bitAnd (x:Int) (y:Int)=((x&&& y:Nat):Int):=by rw[bitAnd_pp (by omega) (by omega)];simp
theorem Qx(x y:Nat):Builtin.bitOr (x:Int) (y:Int)=((x ||| y:Nat):Int):=by
 rw[bitOr_and,zz];have:=nat_or_add_and x y;omega
abbrev nV (x:Nat):V:=.int (x:Int)
section
variable {P:Program} {w:World} {K:W.Frag} {mg:Str->Option Value} {base:Heap} {f:Addr} {fd:FuncData}
abbrev xl:Stmt:=top 49
theorem Gk:bf ["_law_cell","_law_place","_law_number"] ["_law_cell","_law_place"] (aq xl):=⟨rfl,rfl,rfl,by decide +kernel,rfl,by decide +kernel,by decide +kernel⟩
noncomputable def xE:Sp:=λvs H Q _=>∃(c:Int) (p:Nat),vs = [.int c,.int p]/\p<=1000/\∀i H',0<=i->i<2147483648->Same H H'->Q (.int i) H'
theorem Qj (F:aO K "_law_mixed" "_law_mixed" xl f fd) (T:Txt mg):aL P w K mg base aW 1 f fd ["_law_cell","_law_place"] xE:=by
 refine F.ok Gk (λvs H Q E h=>?_) (λcdv A outer s H vs Q E hr h=>?_)
 ·obtain⟨c,p,rfl,_⟩:=h
  rfl
 ·obtain⟨c,p,rfl,hp,kk⟩:=h
  have nd:=Gk.nd;have m1:∀x:Int,0<=x % 2147483629/\x % 2147483629<2147483629:=λx=>⟨oM x (by decide),tu x (by decide)⟩;have m2:∀x:Int,0<=x % 2147483587/\x % 2147483587<2147483587:=λx=>⟨oM x (by decide),tu x (by decide)⟩;have cm:∀x y:Int,lI (x % 2147483629) y:=λx y=>.inl ⟨by have:=m1 x;omega,by have:=m1 x;omega⟩;refine⟨_,(aF (aS (i:=2) nd rfl (Or.inl rfl) (aD cL (aD dQ (aD dQ (aD dR (aD cL (pv 0) ak) ak) (aD dR ak (pv 1))) ak) ak))
   (aF (aS (i:=2) nd rfl (Or.inl rfl) (aD cL (aD dQ (aD dQ (aD dR (pv 2) (pv 2)) (aD dR ak (pv 1))) ak) ak))
   (aA (bC (aD cL (aD dQ (aD dR (pv 2) (pv 2)) ak) ak))))),?_⟩
  refine⟨_,rfl,_,_,rfl,rfl,(by show(0:Int)<2147483629;decide),_,_,rfl,rfl,cm _ _,_,rfl,_,_,rfl,rfl,.inl ⟨by decide,by decide⟩,_,_,rfl,rfl,_,_,rfl,rfl,_,_,rfl,rfl,(by show(0:Int)<2147483629;decide),?_⟩;refine⟨_,rfl,_,rfl,_,_,rfl,rfl,cm _ _,_,rfl,_,_,rfl,rfl,.inl ⟨by decide,by decide⟩,_,_,rfl,rfl,_,_,rfl,rfl,_,_,rfl,rfl,(by show(0:Int)<2147483629;decide),?_⟩;refine⟨_,rfl,_,rfl,_,_,rfl,rfl,cm _ _,_,_,rfl,rfl,_,_,rfl,rfl,(by show(0:Int)<2147483587;decide),?_⟩;exact kk _ _ (m2 _).1 (by have:=(m2 ((((c % 2147483629*16807+69621*(p:Int)+11) % 2147483629*((c % 2147483629*16807+69621*(p:Int)+11) % 2147483629)+48271*(p:Int)+7) % 2147483629)*(((c % 2147483629*16807+69621*(p:Int)+11) % 2147483629*((c % 2147483629*16807+69621*(p:Int)+11) % 2147483629)+48271*(p:Int)+7) % 2147483629)+69621)).2;omega) (Same.refl _)
abbrev xk:Stmt:=top 50
theorem Gi:bf ["_law_cell","_law_many","_law_found","_law_left","_law_k"] ["_law_cell","_law_many"] (aq xk):=⟨rfl,rfl,rfl,by decide +kernel,rfl,by decide +kernel,by decide +kernel⟩
noncomputable def Small(ns:List Int):Prop:=∀x∈ns,0<=x/\x<2147483648
noncomputable def xB:Sp:=λvs H Q _=>∃(c:Int) (m:Nat),vs = [.int c,.int m]/\m<=1000/\∀l ns H',Same H H'->H l=none->H' l=some (.lst (ns.map V.int))->ns.length=m->Small ns->Q (.ref l) H'
theorem Qe (F:aO K "_law_draws" "_law_draws" xk f fd) (T:Txt mg) (uF:aG P w K mg base "_law_mixed" ["_law_cell","_law_place"] 1 xE):aL P w K mg base aW 2 f fd ["_law_cell","_law_many"] xB:=by
 refine F.ok Gi (λvs H Q E h=>?_) (λcdv A outer s H vs Q E hr h=>?_)
 ·obtain⟨c,m,rfl,_⟩:=h
  rfl
 ·obtain⟨c,m,rfl,hm,kk⟩:=h
  have nd:=Gi.nd;have em:((m:Int)).toNat=m:=bX m;refine⟨_,(aF (aS (i:=2) nd rfl (Or.inl rfl) (c6 ai))
   (aF (aS (i:=3) nd rfl (Or.inl rfl) (aD wF (pv 0) (aD Et ak ak)))
   (aF (dW d7 rfl (fV rfl T.range (ag (pv 1) ai)) (bx (i:=4) nd rfl (Or.inl rfl))
   (aA (cp (bR Qt (pv 3) ak (bN _)) (aF (dU (lr (K:=K) rfl my y7 IW v8 (pv 2) (ag (aD cL (pv 3) ak) ai)))
   (aA (aS (i:=3) nd rfl (Or.inl rfl) (aD iY (pv 3) ak)))) (aA (dU (lr (K:=K) rfl my y7 IW v8 (pv 2) (ag (bw uF hr rfl (ag (pv 0) (ag (pv 4) ai))) ai)))))))
   (aA (bC (pv 2)))))),?_⟩
  refine⟨by show 0<=sizeLine;decide,λL hL=>?_⟩;refine⟨_,rfl,_,_,rfl,rfl,⟨by decide,by decide,by decide⟩,_,_,rfl,rfl,?_⟩;refine⟨_,rfl,m,rfl,(cT (by omega)).1,(cT (by omega)).2,jx (lo:=0) (n:=((m:Int)).toNat) (λi σ H2=>∃(v4:Option V) (x:Int) (ns:List Int),σ = [some (.int c),some (.int m),some (.ref L),some (.int x),v4]/\Same H H2/\H2 L=some (.lst (ns.map V.int))/\ns.length=i/\Small ns)
   ⟨none,_,[],rfl,Same.put hL,av,rfl,λ_ h=>nomatch h⟩ ?_ ?_⟩
  ·rintro i σ H2 hi ⟨v4,x,ns,rfl,s2,hl,hlen,hsm⟩
   have sn:∀y:Int,0<=y->y<2147483648->Small (ns++[y]):=λy h0 h1 z hz=>by
    rcases iJ.mp hz with hz|hz
    ·exact hsm z hz
    ·simp at hz;subst hz;exact⟨h0,h1⟩
   have sk:∀{H3:Hp} {o:HO},Same H2 H3->Same H (upd H3 L o):=λs3 b o e=>by
    rw[ax (λz=>by rw[z,hL]at e;cases e)];exact s3 _ _ (s2 _ _ e)
   have hz:(ns.map V.int).length<sizeLine:=by rw[ay];exact gH (by omega)
   refine⟨_,rfl,_,_,rfl,rfl,_,rfl,cn (λh=>?_) (λh=>?_)⟩
   ·have q:=oM x (show(1000003:Int)≠0 by decide)
    have q':=tu x (show(0:Int)<1000003 by decide);refine⟨_,rfl,.inl ⟨rfl,_,ao.of hl⟩,_,rfl,_,_,rfl,rfl,(by show(0:Int)<1000003;decide),L,_,_,rfl,rfl,hl,hz,?_⟩;refine⟨_,rfl,_,_,rfl,rfl,⟨by decide,by decide⟩,?_⟩;exact⟨_,_,ns++[x % 1000003],rfl,sk (Same.refl _),by rw[av];simp,by simp[hlen],sn _ q (by omega)⟩
   ·refine⟨_,rfl,.inl ⟨rfl,_,ao.of hl⟩,_,rfl,_,rfl,c,i,by simp,by omega,λy H3 y0 y1 s3=>?_⟩
    exact⟨L,_,_,rfl,rfl,s3 _ _ hl,hz,_,x,ns++[y],rfl,sk s3,by rw[av];simp,by simp[hlen],sn _ y0 y1⟩
  ·rintro σ H2 ⟨v4,x,ns,rfl,s2,hl,hlen,hsm⟩
   exact⟨_,rfl,kk L ns H2 s2 hL hl (hlen.trans em) hsm⟩
end
theorem kM{ns:List Int}{i:Nat}(h:i<ns.length):(ns.map V.int)[i]?=some (.int (ns.getD i 0)):=by
 rw[bT,aK h,aQ,aK h];rfl
theorem jr(x:Int)(k:Nat)(hk:0<k):∃r:Nat,r<k/\x % (k:Int)=(r:Int):=
 ⟨(x % (k:Int)).toNat,by have h1:=oM x (show(k:Int)≠0 by omega);have h2:=tu x (show(0:Int)<k by omega);omega,by have h1:=oM x (show(k:Int)≠0 by omega);omega⟩
theorem J7(ns:List Int)(lo hi:Option Int):∃ms:List Int,kC (ns.map V.int) lo hi=ms.map V.int/\ms.length<=ns.length:=by
 unfold kC;refine⟨_,by rw[<- List.map_drop,<- List.map_take],?_⟩;rw[oW,List.length_drop];omega
section
variable {P:Program} {w:World} {K:W.Frag} {mg:Str->Option Value} {base:Heap} {f:Addr} {fd:FuncData}
abbrev xm:Stmt:=top 52
theorem Gm:bf ["_law_draws_here","_law_found","_law_k","_law_more"] ["_law_draws_here"] (aq xm):=⟨rfl,rfl,rfl,by decide +kernel,rfl,by decide +kernel,by decide +kernel⟩
noncomputable def xF(K:W.Frag):Sp:=λvs H Q _=>∃(d:Nat) (ns:List Int),vs = [.ref d]/\ao K H d (ns.map V.int)/\Small ns/\ns.length=3/\∀(n:Nat) H',Same H H'->1<=n->n<=1000000->Q (.int (n:Int)) H'
theorem Qk (F:aO K "_law_number_of" "_law_number_of" xm f fd) (T:Txt mg):aL P w K mg base aW 1 f fd ["_law_draws_here"] (xF K):=by
 refine F.ok Gm (λvs H Q E h=>?_) (λcdv A outer s H vs Q E hr h=>?_)
 ·obtain⟨d,ns,rfl,_⟩:=h
  rfl
 ·obtain⟨d,ns,rfl,hd,hs,hl,kk⟩:=h
  have nd:=Gm.nd;have sm:∀i,i<3->0<=ns.getD i 0/\ns.getD i 0<2147483648:=λi hi=>by
   have:i<ns.length:=by omega
   rw[aQ,aK this];exact hs _ (j7 this)
  refine⟨_,(@aF _ _ _ _ _ (cp (bR fU (aD cL (aM (bG (K:=K) rfl) (pv 0) ak (λ_ _=>rfl)) ak) ak (bN _)) (aA (bC (aD dQ ak (aD cL (aM (bG (K:=K) rfl) (pv 0) ak (λ_ _=>rfl)) ak)))) c7)
   (@aF _ _ _ _ _ (cp (bR fU (aD cL (aM (bG (K:=K) rfl) (pv 0) ak (λ_ _=>rfl)) ak) ak (bN _)) (aA (bC (aD dQ ak (aD cL (aD dQ (aD dR (aM (bG (K:=K) rfl) (pv 0) ak (λ_ _=>rfl)) ak) (aM (bG (K:=K) rfl) (pv 0) ak (λ_ _=>rfl))) ak)))) c7)
   (@aF _ _ _ _ _ (aS (i:=1) nd rfl (Or.inl rfl) ak)
   (@aF _ _ _ _ _ (dW d7 rfl (fV rfl T.range (ag ak ai)) (bx (i:=2) nd rfl (Or.inl rfl))
   (@aF _ _ _ _ _ (@aS _ _ 3 _ _ _ _ nd rfl (Or.inl rfl) (@aM _ _ _ _ _ _ _ (bG (K:=K) rfl) (@c6 _ _ _ _ (@wH _ _ [2,3,2,5,7,11,13,997] rfl)) (aD cL (aD iY (aM (bG (K:=K) rfl) (pv 0) ak (λ_ _=>rfl)) (@aM _ _ _ _ _ _ _ (bG (K:=K) rfl) (@c6 _ _ _ _ (@wH _ _ [1,8,64,512,4096,32768] rfl)) (pv 2) (λ_ _=>rfl))) ak) (λ_ _=>rfl)) (by rfl) (by first|exact .inl rfl|exact .inr rfl))
   (aA (cp (bR eU (aD dR (pv 1) (pv 3)) ak (bN _)) (aA (aS (i:=1) nd rfl (Or.inl rfl) (aD dR (pv 1) (pv 3)))) c7))))
   (aA (bC (pv 1))))))),?_⟩
  refine⟨_,rfl,d,_,0,_,rfl,rfl,hd,bp (kM (i:=0) (by omega)),_,_,rfl,rfl,(by show(0:Int)<3;decide),rfl,_,rfl,cn (λh=>?_) (λh=>?_)⟩
  ·obtain⟨r,hr',er⟩:=jr (ns.getD 1 0) 1000 (by decide)
   refine⟨_,rfl,d,_,1,_,rfl,rfl,hd,bp (kM (i:=1) (by omega)),_,_,rfl,rfl,(by show(0:Int)<1000;decide),_,_,rfl,rfl,?_⟩;have e:(1:Int)+ns.getD 1 0 % 1000=((1+r:Nat):Int):=by rw[show ns.getD 1 0 % 1000=(r:Int)from er];push_cast;rfl
   dsimp only;rw[e];exact kk _ _ (Same.refl _) (by omega) (by omega)
  refine⟨_,rfl,d,_,0,_,rfl,rfl,hd,bp (kM (i:=0) (by omega)),_,_,rfl,rfl,(by show(0:Int)<3;decide),rfl,_,rfl,cn (λh=>?_) (λh=>?_)⟩
  ·obtain⟨r,hr',er⟩:=jr (ns.getD 1 0*1000003+ns.getD 2 0) 1000000 (by decide)
   have h1:=sm 1 (by decide);refine⟨_,rfl,d,_,1,_,rfl,rfl,hd,bp (kM (i:=1) (by omega)),_,_,rfl,rfl,.inr ⟨by decide,by decide⟩,_,rfl,d,_,2,_,rfl,rfl,hd,bp (kM (i:=2) (by omega)),_,_,rfl,rfl,_,_,rfl,rfl,(by show(0:Int)<1000000;decide),_,_,rfl,rfl,?_⟩;have e:(1:Int)+(ns.getD 1 0*1000003+ns.getD 2 0) % 1000000=((1+r:Nat):Int):=by rw[show(ns.getD 1 0*1000003+ns.getD 2 0) % 1000000=(r:Int)from er];push_cast;rfl
   dsimp only;rw[e];exact kk _ _ (Same.refl _) (by omega) (by omega)
  refine⟨6,rfl,by decide,by decide,jx (lo:=0) (n:=6) (λi σ H2=>∃(v2 v3:Option V) (n:Nat),σ = [some (.ref d),some (.int (n:Int)),v2,v3]/\Same H H2/\1<=n/\n<=1000000) ⟨none,none,1,rfl,Same.refl _,by decide,by decide⟩ ?_ ?_⟩
  ·rintro i σ H2 hi ⟨v2,v3,n,rfl,s2,hn1,hn2⟩
   dsimp only[bq];show cU _ _ _ [some (.ref d),some (.int (n:Int)),some (.int (0+(i:Int))),v3] _;obtain⟨c,hc,hc0⟩:∃c:Int,(([1,8,64,512,4096,32768]:List Int).map V.int)[i]?=some (.int c)/\0<c/\c<2 ^ 30:=by
    match i,hi with
    |0,_=>exact⟨_,rfl,by decide,by decide⟩
    |1,_=>exact⟨_,rfl,by decide,by decide⟩
    |2,_=>exact⟨_,rfl,by decide,by decide⟩
    |3,_=>exact⟨_,rfl,by decide,by decide⟩
    |4,_=>exact⟨_,rfl,by decide,by decide⟩
    |5,_=>exact⟨_,rfl,by decide,by decide⟩
   refine⟨by show 8<=sizeLine;decide,λp1 hp1=>?_⟩;have t1:=Same.put hp1 (o:=.lst (([2,3,2,5,7,11,13,997]:List Int).map V.int));refine⟨_,rfl,d,_,1,_,rfl,rfl,(s2.trans t1).seq hd,bp (kM (i:=1) (by omega)),by show 6<=sizeLine;decide,λp2 hp2=>?_⟩;have t2:=Same.put hp2 (o:=.lst (([1,8,64,512,4096,32768]:List Int).map V.int));obtain⟨r,hr',er⟩:=jr (ns.getD 1 0 / c) 8 (by decide);obtain⟨mo,hmo,M3,VH⟩:∃mo:Nat,(([2,3,2,5,7,11,13,997]:List Int).map V.int)[r]?=some (.int (mo:Int))/\1<=mo/\mo<=1000:=by
    match r,hr' with
    |0,_=>exact⟨2,rfl,by decide,by decide⟩
    |1,_=>exact⟨3,rfl,by decide,by decide⟩
    |2,_=>exact⟨2,rfl,by decide,by decide⟩
    |3,_=>exact⟨5,rfl,by decide,by decide⟩
    |4,_=>exact⟨7,rfl,by decide,by decide⟩
    |5,_=>exact⟨11,rfl,by decide,by decide⟩
    |6,_=>exact⟨13,rfl,by decide,by decide⟩
    |7,_=>exact⟨997,rfl,by decide,by decide⟩
   refine⟨_,rfl,p2,_,_,_,rfl,rfl,ao.of av,at0 hc,_,_,rfl,rfl,⟨by omega,by omega⟩,_,_,rfl,rfl,(by show(0:Int)<8;decide),p1,_,_,_,rfl,rfl,ao.of (t2 _ _ av),by rw[show ns.getD 1 0 / c % 8=(r:Int)from er];exact bp hmo,?_⟩;dsimp only[bq];show He _ _ _ _ [some (.ref d),some (.int (n:Int)),some (.int (0+(i:Int))),some (.int (mo:Int))] _;have s3:=s2.trans (t1.trans t2);refine⟨_,rfl,_,rfl,_,_,rfl,rfl,.inl ⟨by omega,by omega⟩,_,_,rfl,rfl,_,rfl,cn (λh=>?_) (λh=>⟨_,_,n,rfl,s3,hn1,hn2⟩)⟩;have hle:n*mo<=1000000:=by
    have:(n:Int)*(mo:Int)<=1000000:=nX h;rw[<- j2]at this;omega
   refine⟨_,rfl,_,rfl,_,_,rfl,rfl,.inl ⟨by omega,by omega⟩,some (.int (0+(i:Int))),some (.int (mo:Int)),n*mo,?_,s3,Nat.mul_pos hn1 M3,hle⟩;dsimp only;rw[<- j2];rfl
  ·rintro σ H2 ⟨v2,v3,n,rfl,s2,hn1,hn2⟩
   exact⟨_,rfl,kk n _ s2 hn1 hn2⟩
end
end My
namespace L2
open PySem PySem.Spec PyProof.Rows
section
variable {X:Cx} {pins:List (Addr × Obj)} {σ:St} {H:Hp} {s:Shared} {scope:Scope} {v:Str} {fr:List (Str × Nat)} {own:List Str} {fp:List Addr}
end
section
variable {X:Cx} {elt tg iter:Expr} {ifs:List Expr} {scope:Scope} {pos:Pos} {v:Str} {own:List Str} {fr:List (Str × Nat)} {wi:TI} {g:TG} {tc:TT} {te:TE}
end
section
variable {prog:Program} {w:World} {A:Around} {E:Value->Shared->Prop} {s:Shared} {l:Addr} {xs:Array (Int × Tok)}
end
theorem QZ{X:Cx}{K:W.Frag}{es:List Expr}{k:Nat}{t:iO}{n:Nat}{pos:Pos}(hK:X.K=K)(hc:X.calm=true)(h:ml X es t)(hn:(assignEach es X.env).length=n:=by rfl)(hst:(assignEach es X.env).findIdx? (·.1)=none:=by rfl):PG X (.Tuple es k pos) (m_ K n t):=hK▸Fh hc h hn hst
section
variable {prog:Program} {w:World} {A:Around} {E:Value->Shared->Prop} {s:Shared} {c1 c2:Bool} {z TI TO i1 i2 l1 l2 T0:Addr} {k1 k2:Nat} {xs ys:Array Value} {x y:Value} {b:Bool} {o0:Obj}
end
section
variable {X:Cx} {pins:List (Addr × Obj)} {σ:St} {H H':Hp} {s:Shared} {h':Heap}
end
structure Moved (fs ch:List Addr) (h h':Heap):Prop where
 keep:∀b o,h.get? b=some o->b ∉ fs->b ∉ ch->h'.get? b=some o
 slot:∀b o,h.get? b=some o->b∈fs->b ∉ ch->∃sl,h'.get? b=some {o with slots:=sl}
 there:∀b o,h.get? b=some o->∃o',h'.get? b=some o'
 size:h.objs.size<=h'.objs.size
theorem Moved.any{fs ch:List Addr}{h h':Heap}(m:Moved fs ch h h'){b:Addr}{o:Obj}(e:h.get? b=some o)(n:b ∉ ch):∃sl,h'.get? b=some {o with slots:=sl}:=by
 by_cases hb:b∈fs
 ·exact m.slot b o e hb n
 ·exact⟨o.slots,m.keep b o e hb n⟩
theorem Moved.trans{fs ch:List Addr}{h h1 h2:Heap}(a:Moved fs ch h h1)(b:Moved fs ch h1 h2):Moved fs ch h h2 where
 keep:=λc o e n1 n2=>b.keep c o (a.keep c o e n1 n2) n1 n2
 slot:=λc o e n1 n2=>by
  obtain⟨sl,e1⟩:=a.slot c o e n1 n2;obtain⟨sl',e2⟩:=b.slot c _ e1 n1 n2;exact⟨sl',e2⟩
 there:=λc o e=>by
  obtain⟨o',e1⟩:=a.there c o e;exact b.there c o' e1
 size:=cy a.size b.size
theorem Moved.mono{fs fs' ch zR:List Addr}{h h':Heap}(a:Moved fs ch h h')(h1:∀b∈fs,b∈fs')(h2:∀b∈ch,b∈zR):Moved fs' zR h h' where
 keep:=λc o e n1 n2=>a.keep c o e (λz=>n1 (h1 c z)) λz=>n2 (h2 c z)
 slot:=λc o e _ n2=>a.any e λz=>n2 (h2 c z)
 there:=a.there
 size:=a.size
structure dA (h:Heap) (e:Addr) (cls:Value) (dx:Option Addr) (T:Addr) (fl:Value):Prop where
 ex:∃oe vs,h.get? e=some oe/\oe.cls=cls/\oe.dict=dx/\oe.data = .fields vs/\vs[1]?=some (.ref T)
 ne:T≠e
 tb:∃oT ts,h.get? T=some oT/\oT.data = .fields ts/\ts[3]?=some fl
section
variable {M:Model} {A:Around} {E:Value->Shared->Prop} {s:Shared} {base:Heap} {env:Env} {outer:List Env} {L e T:Addr} {oe:Obj} {vs:Array Value} {cls head fl:Value} {dx:Option Addr} {Q:Unit->Shared->Prop}
theorem jz{h:Heap}{l:List Env}(hl:h.FunFrames base l)(he:h.get? e=some oe)(hd:oe.data = .fields vs):e ∉ frs l:=λhm=>by
 obtain⟨_,o,ho,hnf⟩:=hl.mem hm;rw[he]at ho;cases ho;exact hnf vs hd
theorem Pj(o:Obj)(f:Array Value->Array Value):(o.mapFields f).dict=o.dict:=by
 obtain⟨c,d,dt,sl⟩:=o;cases dt<;>rfl
theorem Ai{hadNext:Bool}(hfr:A.frames=some (env::outer))(hl:s.heap.FunFrames base (env::outer))(hf:env.frame=some L)(he:s.heap.get? e=some oe)(hd:oe.data = .fields vs)(hsz:1<vs.size)
  (h:∀h' T,Moved (frs (env::outer)) [e] s.heap h'->s.heap.objs.size<=T->dA h' e oe.cls oe.dict T (rawInt L)->Q () {s with heap:=h'}) :
  wpAny M A (do let a <- frameOf env;let pl <- entryPlaceOf L hadNext;let b <- EntryCells.newEntry head a .none (rawInt L) .none pl;setField (.ref e) 1 b) Q E s:=by
 have hene:=jz hl he hd;refine ae (wpAny_frameOf_fun hfr hl hf λh₁ hs₁=>?_);refine ae (wpAny_entryPlaceOf λpl hpl=>?_);unfold EntryCells.newEntry newFields;refine ae (gX ?_ (hpl.sizeOk5 _ _ _ _ _));have he₁:h₁.get? e=some oe:=(hs₁.2.1 e hene).trans he;generalize hob:({cls:=.type "traceback", dict:=none,data:=.fields ([head,.ref L,.none,rawInt L,.none]++(if pl.isEmpty then List.replicate 6 Value.none else pl)).toArray}:Obj)=ob;have he₂:=aB (h:=h₁) ob he₁;refine jn he₂ hd hsz (h _ h₁.objs.size ?_ (by rw[hs₁.1];exact aC _) ?_)
 ·have keep:∀b o,b≠e->h₁.get? b=some o->((h₁.push ob).update e (Obj.mapFields (·.setIfInBounds 1 (Value.ref h₁.objs.size)))).get? b=some o:=λb o hbe hb=>by
   rw[gT _ _ (bK hbe)];exact aB _ hb
  have hd₃:=gj hd (·.setIfInBounds 1 (Value.ref h₁.objs.size));refine⟨λb o hb n1 n2=>keep b o (λz=>n2 (by simp[z])) ((hs₁.2.1 b n1).trans hb),λb o hb n1 n2=>?_,λb o hb=>?_,by rw[pj,d6,hs₁.1];exact lY _⟩
  ·obtain⟨sl,hs⟩:=hs₁.2.2 b o hb
   exact⟨sl,keep b _ (λz=>n2 (by simp[z])) hs⟩
  ·by_cases hbe:b=e
   ·subst hbe
    exact⟨_,gf (Obj.mapFields (·.setIfInBounds 1 (Value.ref h₁.objs.size))) he₂ (kg hd₃)⟩
   ·obtain⟨sl,hs⟩:=hs₁.2.2 b o hb
    exact⟨_,keep b _ hbe hs⟩
 ·have hTe:h₁.objs.size≠e:=eK (aI he₁)
  have hd₃:=gj hd (·.setIfInBounds 1 (Value.ref h₁.objs.size));have he₃:=gf (Obj.mapFields (·.setIfInBounds 1 (Value.ref h₁.objs.size))) he₂ (kg hd₃);have hT₃:=(gT (h₁.push ob) (Obj.mapFields (·.setIfInBounds 1 (Value.ref h₁.objs.size))) (bK hTe)).trans (aX h₁ (by rw[<- hob];rfl));refine⟨⟨_,_,he₃,y9 _ _,Pj _ _,hd₃,by simp[hsz]⟩,hTe,⟨_,_,hT₃,by rw[<- hob],?_⟩⟩
  first | (simp;done) | (rcases hpl with rfl|⟨_,_,_,_,_,_,_,rfl⟩<;>simp)
theorem P5(hfr:A.frames=some (env::outer))(hl:s.heap.FunFrames base (env::outer))(hf:env.frame=some L)(he:s.heap.get? e=some oe)(hd:oe.data = .fields vs)(h1:vs[1]?=some .none)
  (h:∀h' T,Moved (frs (env::outer)) [e] s.heap h'->s.heap.objs.size<=T->dA h' e oe.cls oe.dict T (rawInt L)->Q () {s with heap:=h'}):wpAny M A (noteFrame (.ref e) env) Q E s:=by
 unfold noteFrame;simp only[hf];refine ae (df he hd h1 ?_);rw[if_neg (by decide)];exact Ai hfr hl hf he hd (oG.mp h1).1 h
theorem qd{h h':Heap}:∀{l:List Env},(∀b∈frs l,∀o,h.get? b=some o->∃sl,h'.get? b=some {o with slots:=sl})->h.FunFrames base l->h'.FunFrames base l
 | [],_,_=>trivial
 |env::r,k,⟨hk,⟨L,o,hf,hn,ho,hd⟩,hr⟩=>by
  have hL:L∈frs (env::r):=by unfold frs;rw[gN,hf];exact bO
  obtain⟨sl,e⟩:=k L hL o ho;exact⟨hk,⟨L,_,hf,hn,e,hd⟩,qd (λb hb=>k b (by unfold frs;rw[gN,hf];exact bI _ hb)) hr⟩
theorem Moved.bZ{fs ch:List Addr}{h h':Heap}{l:List Env}(m:Moved fs ch h h')(hn:∀b∈frs l,b ∉ ch)(hl:h.FunFrames base l):h'.FunFrames base l:=
 qd (λb hb o e=>m.any e (hn b hb)) hl
theorem wq(hfr:A.frames=some (env::outer))(hl:s.heap.FunFrames base (env::outer))(hf:env.frame=some L)(xr:dA s.heap e cls dx T .none)
  (h:∀h' T',Moved (frs (env::outer)) [e,T] s.heap h'->s.heap.objs.size<=T'->dA h' e cls dx T' (rawInt L)->Q () {s with heap:=h'}):wpAny M A (noteFrame (.ref e) env) Q E s:=by
 obtain⟨⟨oe,vs,he,hc,hdx,hd,h1⟩,hTe,oT,ts,hT,hdT,h3⟩:=xr;subst hc hdx;unfold noteFrame;simp only[hf];refine ae (df he hd h1 ?_);rw[if_pos (show(Value.ref T != Value.none)=true from by simp)];refine ae (df hT hdT h3 ?_);rw[if_neg (show ¬ ((Value.none==rawInt L)=true)from by simp[rawInt])];refine ae (jn hT hdT (oG.mp h3).1 ?_);have mv:Moved (frs (env::outer)) [e,T] s.heap (s.heap.update T (Obj.mapFields (·.setIfInBounds 3 Value.none))):=by
  have other:∀b,b≠T->(s.heap.update T (Obj.mapFields (·.setIfInBounds 3 Value.none))).get? b=s.heap.get? b:=λb hb=>gT _ _ (bK hb);refine⟨λb o hb _ n=>(other b (λz=>n (by simp[z]))).trans hb,λb o hb _ n=>⟨o.slots,(other b (λz=>n (by simp[z]))).trans hb⟩,λb o hb=>?_,by rw[pj];exact aC _⟩
  by_cases hbT:b=T
  ·subst hbT
   exact⟨_,gf _ hT (kg (gj hdT _))⟩
  ·exact⟨o,(other b hbT).trans hb⟩
 have hn1:=jz hl he hd;have hn2:=jz hl hT hdT;refine Ai (oe:=oe) (vs:=vs) hfr (mv.bZ (λb hb z=>?_) hl) hf ((gT _ _ hTe).trans he) hd (oG.mp h1).1 λh' T' m hT' x=>?_
 ·rcases aP.mp z with z|z
  ·exact hn1 (z▸hb)
  ·exact hn2 ((bJ.mp z)▸hb)
 ·exact h h' T' (mv.trans (m.mono (λ_ z=>z) λb z=>by simp at z;simp[z])) (by rw[pj]at hT';exact hT') x
theorem va(xr:dA s.heap e cls dx T fl)(h:∀h',Moved [] [T] s.heap h'->dA h' e cls dx T .none->Q () {s with heap:=h'}):wpAny M A (setFlight (.ref e) none) Q E s:=by
 obtain⟨⟨oe,vs,he,hc,hdx,hd,h1⟩,hTe,oT,ts,hT,hdT,h3⟩:=xr;have hsz3:3<ts.size:=(oG.mp h3).1;unfold setFlight;refine ae (df he hd h1 ?_);rw[if_pos (show(Value.ref T != Value.none)=true from by simp)];refine jn hT hdT hsz3 ?_;have other:∀b,b≠T->(s.heap.update T (Obj.mapFields (·.setIfInBounds 3 ((none:Option Addr).elim Value.none λf=>rawInt f)))).get? b=s.heap.get? b:=λb hb=>gT _ _ (bK hb);have hT':=gf (Obj.mapFields (·.setIfInBounds 3 ((none:Option Addr).elim Value.none λf=>rawInt f))) hT (kg (gj hdT _));refine h _ ⟨λb o hb _ n=>(other b (λz=>n (by simp[z]))).trans hb,λb o hb _ n=>⟨o.slots,(other b (λz=>n (by simp[z]))).trans hb⟩,λb o hb=>?_,by rw[pj];exact aC _⟩ ?_
 ·by_cases hbT:b=T
  ·subst hbT;exact⟨_,hT'⟩
  ·exact⟨o,(other b hbT).trans hb⟩
 ·exact⟨⟨oe,vs,(other e (bK hTe)).trans he,hc,hdx,hd,h1⟩,hTe,_,_,hT',gj hdT _,by simp[hsz3]⟩
theorem Moved.fresh{fs ch:List Addr}{h h1 h2:Heap}(m:Moved fs ch h h1)(m2:Moved [] [T] h1 h2)(hT:h.objs.size<=T):Moved fs ch h h2:=by
 have ne:∀b o,h.get? b=some o->b ∉ [T]:=λb o e z=>by
  have:=aI e;rw[bJ.mp z]at this;exact absurd (cz this hT) (dz _)
 refine⟨λb o hb n1 n2=>m2.keep b o (m.keep b o hb n1 n2) (λz=>nomatch z) (ne b o hb),λb o hb n1 n2=>?_,λb o hb=>?_,cy m.size m2.size⟩
 ·obtain⟨sl,e1⟩:=m.slot b o hb n1 n2
  exact⟨sl,m2.keep b _ e1 (λz=>nomatch z) (ne b o hb)⟩
 ·obtain⟨o',e1⟩:=m.there b o hb
  exact m2.there b o' e1
theorem Oq(hfr:A.frames=some (env::outer))(hl:s.heap.FunFrames base (env::outer))(hf:env.frame=some L)(xr:dA s.heap e cls dx T .none)
  (h:∀h' T',Moved (frs (env::outer)) [e,T] s.heap h'->s.heap.objs.size<=T'->dA h' e cls dx T' .none->Q () {s with heap:=h'}):wpAny M A (leaving env (.ref e)) Q E s:=by
 unfold leaving;exact ae (wq hfr hl hf xr λh1 T m hT x=>va x λh2 m2 x2=>h h2 T (m.fresh m2 hT) hT x2)
end
noncomputable def aZ(P:Program)(w:World):eD:=λouter H s E e s'=>∃ea C dx T H',e = .ref ea/\s'.os=s.os/\AllBare s'.gens/\Un (frs outer) [] H H' s.heap s'.heap/\aU P w H' s'.heap/\dA s'.heap ea (.ref C) dx T .none /\
 H' ea=none/\H' T=none/\s.heap.get? ea=none/\s.heap.get? T=none/\E (.ref C) dx H'
theorem jE{P:Program}{w:World}{H:Hp}{h h':Heap}{fs ch:List Addr}(x:aU P w H h)(m:Moved fs ch h h')(nf:∀b∈fs,H b=none)(nc:∀b∈ch,H b=none):aU P w H h':=λb o e=>by
 have no:∀c u,H c=some u->c ∉ fs/\c ∉ ch:=λc u q=>⟨(λz=>by rw[nf c z]at q;cases q),(λz=>by rw[nc c z]at q;cases q)⟩;refine(x b o e).stay (λc u hc q=>?_) (λ_ q=>q) (λ_ _ q=>q) λ_ _ _ q=>q
 rcases hc with z|z
 ·subst z;exact m.keep c u q (no c _ e).1 (no c _ e).2
 ·exact m.keep c u q (no c _ z).1 (no c _ z).2
section
variable {P:Program} {w:World} {K:W.Frag} {mg:Str->Option Value} {base:Heap} {N:List Str} {qual:Str} {scope:Scope} {f:Addr} {cd:Value} {A:Around} {outer:List Env} {s:Shared} {H:Hp} {E:XK}
theorem U3{pins:List (Addr × Obj)}{σ:St}{H1 H2:Hp}{s1:Shared}{h2 h3:Heap}{ch:List Addr}(I:Inv (bu (aZ P w) P w K mg base N qual scope f cd A outer s H E) pins σ H1 s1)(un:Un (frs (bu (aZ P w) P w K mg base N qual scope f cd A outer s H E).stack) [] H1 H2 s1.heap h2)(m:Moved (frs (bu (aZ P w) P w K mg base N qual scope f cd A outer s H E).stack) ch h2 h3)(hc:∀b∈ch,s1.heap.get? b=none):Un (frs outer) [] H H2 s.heap h3:=by
 have gB:Un (frs outer) [] H H1 s.heap s1.heap:=I.base;have sub:∀b o,s.heap.get? b=some o->b ∉ frs outer->b ∉ frs (bu (aZ P w) P w K mg base N qual scope f cd A outer s H E).stack:=λb o e n z=>by
  rcases aP.mp (I.sr b z)with q|q
  ·have h1:s.heap.objs.size<=(bu (aZ P w) P w K mg base N qual scope f cd A outer s H E).env.locals:=I.ok.above
   have h2:=aI e;rw[q]at h2;exact absurd (cz h2 h1) (dz _)
  ·exact n q
 have eu:∀b o,s1.heap.get? b=some o->b ∉ ch:=λb o e z=>by rw[hc b z]at e;cases e
 have nx:∀b:Addr,b ∉ ([]:List Addr):=λb z=>nomatch z;refine⟨λb o q n hb hx=>?_,λb o q n hb hx=>?_,λb o q n hx=>?_,λb o q hx=>?_,λb xs q=>un.tups b xs (gB.tups b xs q),λb o u q=>un.dM b o u (gB.dM b o u q),λb ps q=>?_⟩
 ·have e1:=gB.keep b o q n hb hx
  exact m.keep b o (un.keep b o e1 (gB.free b o q n hx) (sub b o q hb) (nx b)) (sub b o q hb) (eu b o e1)
 ·obtain⟨sl,e1⟩:=gB.slot b o q n hb hx
  obtain⟨sl2,e2⟩:=un.any e1 (gB.free b o q n hx) (nx b);obtain⟨oy,e3⟩:=m.any e2 (eu b _ e1);exact⟨oy,e3⟩
 ·obtain⟨o',e1⟩:=gB.there b o q hx
  exact un.free b o' e1 (gB.free b o q n hx) (nx b)
 ·obtain⟨o',e1⟩:=gB.there b o q hx
  obtain⟨o2,e2⟩:=un.there b o' e1 (nx b);exact m.there b o2 e2
 ·obtain⟨m1,e1⟩:=gB.eB b ps q
  obtain⟨m2,e2⟩:=un.eB b _ e1;exact⟨m1++m2,by rw[e2,Array.append_assoc]⟩
theorem wo{pins:List (Addr × Obj)}{σ:St}{H1:Hp}{s1:Shared}{b:Addr}(I:Inv (bu (aZ P w) P w K mg base N qual scope f cd A outer s H E) pins σ H1 s1)(e:s1.heap.get? b=none):s.heap.get? b=none:=by
 cases q:s.heap.get? b with
 |none=>rfl
 |some o =>
  obtain⟨o',e1⟩:=I.base.there b o q (λz=>nomatch z);rw[e]at e1;cases e1
theorem qF{fs:List Addr}{H1 H2:Hp}{h1 h2:Heap}{b:Addr}(un:Un fs [] H1 H2 h1 h2)(e:h2.objs.size<=b):h1.get? b=none:=by
 cases q:h1.get? b with
 |none=>rfl
 |some o =>
  obtain⟨o',e1⟩:=un.there b o q (λz=>nomatch z);exact absurd (cz (aI e1) e) (dz _)
theorem Tq{pins:List (Addr × Obj)}{σ:St}{H1 H2:Hp}{s1:Shared}{h2:Heap}(I:Inv (bu (aZ P w) P w K mg base N qual scope f cd A outer s H E) pins σ H1 s1)(un:Un (frs (bu (aZ P w) P w K mg base N qual scope f cd A outer s H E).stack) [] H1 H2 s1.heap h2):h2.FunFrames base (bu (aZ P w) P w K mg base N qual scope f cd A outer s H E).stack:=
 qd (λb hb o e=>un.any e (I.jT b hb) λz=>nomatch z) I.stack
theorem G5{pins:List (Addr × Obj)}{σ:St}{H1 H2:Hp}{s1:Shared}{h2:Heap}(I:Inv (bu (aZ P w) P w K mg base N qual scope f cd A outer s H E) pins σ H1 s1)(un:Un (frs (bu (aZ P w) P w K mg base N qual scope f cd A outer s H E).stack) [] H1 H2 s1.heap h2):∀b∈frs (bu (aZ P w) P w K mg base N qual scope f cd A outer s H E).stack,H2 b=none:=λb hb=>by
 obtain⟨_,o,ho,_⟩:=I.stack.mem hb;exact un.free b o ho (I.jT b hb) λz=>nomatch z
theorem E_:Passes (aZ P w) (bu (aZ P w) P w K mg base N qual scope f cd A outer s H E) E:=by
 intro pins σ H1 s1 e s2 I h;obtain⟨ea,C,dx,T,H2,rfl,os,bare,un,hok,xr,n1,n2,f1,f2,hE⟩:=h;refine Oq (base:=base) (A:=(bu (aZ P w) P w K mg base N qual scope f cd A outer s H E).A) I.ok.frames (Tq I un) rfl xr λh3 T' m hT x=>?_;have hc:∀b∈[ea,T],s1.heap.get? b=none:=λb z=>by
  rcases aP.mp z with z|z
  ·rw[z];exact f1
  ·rw[bJ.mp z];exact f2
 refine⟨ea,C,dx,T',H2,rfl,os.trans I.os,bare,U3 I un m hc,jE hok m (G5 I un) (λb z=>?_),x,n1,hok.fresh hT,wo I f1,wo I (qF un hT),hE⟩
 rcases aP.mp z with z|z
 ·rw[z];exact n1
 ·rw[bJ.mp z];exact n2
noncomputable def Raises(X:Cx)(E:XK):Prop:=∀(pins:List (Addr × Obj)) (σ:St) (H:Hp) (s:Shared) (ea C:Addr) (oe:Obj) (vs:Array Value),Inv X pins σ H s->s.heap.get? ea=some oe->oe.cls = .ref C->oe.data = .fields vs->vs[1]?=some .none ->
 H ea=none->X.s₀.heap.get? ea=none->E (.ref C) oe.dict H->X.xe (.ref ea) s
end
end L2
namespace L2
open PySem PySem.Spec PyProof.Rows PySem.W
section
variable {prog:Program} {w:World} {A:Around} {E:Value->Shared->Prop} {h:Heap} {g:Array GenState} {d:Drawn} {t:Nat} {os:OsState} {K:Frag} {e D:Addr} {oe:Obj} {od:Option Obj} {name:Str} {g0 a0:Value}
theorem Vk{tk:Tok}{Q:Fin->Shared->Prop}(X:K.In h)(I:InstAt h e oe D od)(hf:findObj K D od name=some (.bind g0 a0))(hk:wpAny (model prog w) A (call g0 [a0,.ref e,.ref D]) (λv s'=>Q (.done (.ret v)) s') E ⟨h,g,d,t,os⟩):wpAny (model prog w) A (Builtin.«object.__getattribute__» ⟨[.ref e,.str name tk],[]⟩) Q E ⟨h,g,d,t,os⟩:=by
 have L0:=I.type (M:=model prog w);have L1:=looks_find (M:=model prog w) X I hf;unfold Builtin.«object.__getattribute__»;refine ae (ah (ae (ah (ae (L0.at (ae (L1.at ?_)))))));show wpAny _ _ (holding [a0] (call g0 [a0,.ref e,.ref D])>>=ret) _ _ _;exact ae (dG (dg hk (λv s' z=>ah z) λ_ _ z=>z))
theorem Vj {M:Model} {nameV:Value} {Q:Unit->Shared->Prop} (X:K.In h) (I:InstAt h e oe D od) (hb:mroIn K D (.type "BaseException")=some true) (hq:Q () ⟨h,g,d,t,os⟩) :
  wpAny M A (checkBuiltinCall "BaseException.__getattribute__" ⟨[.ref e,nameV],[]⟩) Q E ⟨h,g,d,t,os⟩:=by
 have hk:builtinKind "BaseException.__getattribute__" = some .slot:=by decide +kernel
 have hsplit:splitId "BaseException.__getattribute__" = some ("BaseException","__getattribute__"):=by decide +kernel
 have ha:=F.args_bexc_ga (.ref e) nameV;have L0:=I.type (M:=M);have L1:=looks_mroIn (M:=M) X hb;simp only[checkBuiltinCall,hk,hsplit];refine ae ?_;unfold isInstance;refine ae (L0.at (L1.at ?_))
 repeat (first|wp_step)
 exact hq
theorem Vi {v:Value} {tk:Tok} {fill expr:Bool} {Q:Value->Shared->Prop} (X:K.In h) (I:InstAt h e oe D od) (hga:findIn K (.ref D) "__getattribute__" = some (some (.builtin "BaseException.__getattribute__")))
  (hgt:findIn K (.ref D) "__getattr__" = some none) (hb:mroIn K D (.type "BaseException")=some true)
  (hk:∀A':Around,wpAny (model prog w) A' (Builtin.«object.__getattribute__» ⟨[.ref e,.str name tk],[]⟩) (λfin s'=>match fin with | .done (.ret v)=>wpAny (model prog w) A (handedOut v) Q E s'|_=>False) (λ_ _=>False) ⟨h,g,d,t,os⟩) :
  wpAny (model prog w) A (getAttrBy (.ref e) (.str name tk) fill expr) Q E ⟨h,g,d,t,os⟩:=by
 have L0:=I.type (M:=model prog w);have L1:=looks_findIn (M:=model prog w) X hga;have L2:=looks_findIn (M:=model prog w) X hgt;have f3:=F.attrBase_ValueError.ga.bind (.ref e);have hx0:(expr&&onTheHeap (Value.builtin "BaseException.__getattribute__"))=false:=by cases expr<;>rfl
 have hx2:(Value.builtin "BaseException.__getattribute__" == Value.builtin "object.__getattribute__")=false:=by decide +kernel
 have hx1:(onTheHeap (Value.ref D)&&Value.builtin "BaseException.__getattribute__" == Value.builtin "object.__getattribute__")=false:=by rw[hx2];rfl
 unfold getAttrBy;refine dG (ae (L0.at (ae (L1.at ?_))));dsimp only;rw[if_neg (by rw[hx1];exact Bool.false_ne_true)];unfold getAttrByItsOwn hookBefore;rw[if_pos (show onTheHeap (Value.ref D)=true from rfl)];refine ae (L2.at ?_);refine ae (fL (dG ?_));unfold callGetattribute;rw[if_neg (by rw[hx0];exact Bool.false_ne_true)];unfold boundAndCalled;refine ae (pz f3 ?_);dsimp only;refine iL (codeAny_call_builtin F.attrBase_ValueError.ga.plain F.entry_bexc_ga (Vj X I hb (dg (hk _) (λfin s' z=>?_) λ_ _ z=>z.elim)))
 rcases fin with(_|_|_|_)|_<;>first|exact z|exact z.elim
theorem Vh {s:Shared} {Q:Option Value->Shared->Prop} (X:K.In s.heap) (I:InstAt s.heap e oe D od) (hga:findIn K (.ref D) "__getattribute__" = some (some (.builtin "BaseException.__getattribute__")))
  (hgt:findIn K (.ref D) "__getattr__" = some none) (hb:mroIn K D (.type "BaseException")=some true) (hf:findObj K D od "__class__" = some (.bind (.builtin "getset_descriptor.__get__") (.builtin "object.__class__"))) (hm:mroIn K D (.type "object")=some true)
  (hq:Q (some (.ref D)) {s with toks:=s.toks+1}):wpAny (model prog w) A (getAttr? (.ref e) "__class__") Q E s:=by
 obtain⟨h,g,d,t,os⟩:=s;unfold getAttr? getAttrBy?;refine ae (wpAny_mkText (ae (fL ?_)));refine Vi (v:=.none) X I hga hgt hb λA'=>Vk X I hf ?_;exact iL (class_get X I hm (handed_on rfl (ah hq)))
end
noncomputable def j1(e C:Addr)(dx:Option Addr):HO:=.ext λh=>∃oe vs,h.get? e=some oe/\oe.cls = .ref C/\oe.dict=dx/\oe.data = .fields vs
theorem KN{P:Program}{w:World}{H:Hp}{h:Heap}{e C:Addr}{dx:Option Addr}{oe:Obj}{vs:Array Value}(h1:h.get? e=some oe)(h2:oe.cls = .ref C)(h3:oe.dict=dx)(h4:oe.data = .fields vs):aN P w H h e (j1 e C dx):=
 ⟨⟨oe,vs,h1,h2,h3,h4⟩,⟨oe,h1⟩,λg1 g2 ⟨o,vs,a,b⟩ k=>⟨o,vs,k o a,b⟩⟩
theorem KJ{P:Program}{w:World}{H:Hp}{h:Heap}{e C:Addr}{dx:Option Addr}(ok:aU P w H h)(z:H e=some (j1 e C dx)):∃oe vs,h.get? e=some oe/\oe.cls = .ref C/\oe.dict=dx/\oe.data = .fields vs:=
 (show aN P w H h e (j1 e C dx)from ok e _ z).1
theorem P8{P:Program}{w:World}{H:Hp}{h:Heap}{a:Addr}{o:HO}(x:aN P w H h a o):∃ob,h.get? a=some ob:=by
 cases o with
 |lst xs=>obtain⟨_,_,_,_,e⟩:=x;exact⟨_,e⟩
 |tup xs=>obtain⟨_,_,_,⟨ob,e,_⟩,_⟩:=x;exact⟨_,e⟩
 |dK kvs=>obtain⟨_,_,_,_,o,_,_,e,_⟩:=x;exact⟨_,e⟩
 |dT kvs=>obtain⟨_,_,_,_,o,_,_,e,_⟩:=x;exact⟨_,e⟩
 |set S n=>obtain⟨o,_,_,_,e,_⟩:=x;exact⟨_,e⟩
 |ins C dx fs=>obtain⟨_,_,_,e,_⟩:=x;exact⟨_,e⟩
 |own y=>obtain⟨_,e⟩:=x;exact⟨_,e⟩
 |xd fs=>obtain⟨_,⟨_,_,_,e,_⟩,_⟩:=x;exact⟨_,e⟩
 |rng lo hi=>obtain⟨_,_,_,e⟩:=x;exact⟨_,e⟩
 |bY ob u=>obtain⟨e,_⟩:=x;exact⟨_,e⟩
 |jb ps=>exact⟨_,(show h.get? a=some _ from x)⟩
 |lam pos qual=>obtain⟨_,e,_⟩:=x;exact⟨_,e⟩
 |met f y=>exact⟨_,(show h.get? a=some _ from x)⟩
 |ext φ=>obtain⟨_,⟨_,e⟩,_⟩:=x;exact⟨_,e⟩
theorem DR{P:Program}{w:World}{H:Hp}{h:Heap}{a:Addr}(ok:aU P w H h)(e:h.get? a=none):H a=none:=by
 cases q:H a with
 |none=>rfl
 |some o =>
  obtain⟨ob,z⟩:=P8 (ok a o q);rw[e]at z;cases z
structure iP (K:W.Frag) (C:Addr):Prop where
 ga:W.findIn K (.ref C) "__getattribute__" = some (some (.builtin "BaseException.__getattribute__"))
 gt:W.findIn K (.ref C) "__getattr__" = some none
 be:W.mroIn K C (.type "BaseException")=some true
 ob:W.mroIn K C (.type "object")=some true
 kl:W.findIn K (.ref C) "__class__" = some (some (.builtin "object.__class__"))
 gs:W.specialIn K (.builtin "object.__class__") "__get__" = some (some (.builtin "getset_descriptor.__get__"))
 tk:W.takesIn K (.builtin "object.__class__")=some true
theorem iP.vG{K:W.Frag}{C:Addr}(x:iP K C):∃cd,W.clsIn K C=some cd:=by
 obtain⟨cd,a,_⟩:=Option.bind_eq_some_iff.mp x.ob;exact⟨cd,a⟩
theorem iP.find {K:W.Frag} {C:Addr} (x:iP K C) (od:Option Obj):W.findObj K C od "__class__" = some (.bind (.builtin "getset_descriptor.__get__") (.builtin "object.__class__")):=by
 obtain⟨cd,hc⟩:=x.vG;unfold W.findObj;rw[hc,mj,x.kl,mj];simp[x.gs,x.tk]
theorem Og{K:W.Frag}{e C:Addr}(cl:iP K C):W.KitX K (.ref e) (.ref C) (λh=>∃oe od,W.InstAt h e oe C od) where
 ty:=λ_ _ _ ⟨_,_,I⟩=>I.type
 it:=λ_ _ X _=>by
  obtain⟨cdD,hcD⟩:=cl.vG;unfold W.clsIn at hcD
  split at hcD
  ·rename_i c' d' cd' sl' ho
   intro A' Q' E' s' k q;unfold isType loadHead;exact ae (wpAny_loadPart (k _ _ (X _ _ ho)) (ah q))
  ·cases hcD
 ne:=λh tp dd its n sl X htp=>by
  obtain⟨cdD,hcD⟩:=cl.vG;refine Bool.eq_false_iff.mpr λq=>?_;have e:C=tp:=Value.ref.inj (eP.mp q);subst e;unfold W.clsIn at hcD
  split at hcD
  ·rename_i c' d' cd' sl' ho
   have z:=(X _ _ ho).symm.trans htp;cases z
  ·cases hcD
 ca:=λX ⟨_,od,I⟩ k=>Vh X I cl.ga cl.gt cl.be (cl.find od) cl.ob k
noncomputable def ko(H:Hp)(e C:Addr):Prop:=∃dx,H e=some (j1 e C dx)/\∀a,dx=some a->∃fs,H a=some (.xd fs)
theorem Vg{P:Program}{w:World}{H:Hp}{h:Heap}{e C:Addr}(ok:aU P w H h)(x:ko H e C):∃oe od,W.InstAt h e oe C od:=by
 obtain⟨dx,z,k⟩:=x;obtain⟨oe,vs,h1,h2,h3,h4⟩:=KJ ok z;have nc:W.notCls oe=true:=by unfold W.notCls;rw[h4]
 cases dx with
 |none=>exact⟨oe,none,h1,h2,nc,by rw[h3];trivial⟩
 |some a =>
  obtain⟨fs,q⟩:=k a rfl;obtain⟨_,⟨od,_,_,e1,_⟩,_⟩:=(show aN P w H h a (.xd fs)from ok a _ q);exact⟨oe,some od,h1,h2,nc,by rw[h3];exact e1⟩
noncomputable def Rx(K:W.Frag)(cv:V)(c:Value):List V->Hp->VK->Prop:=λxs H Q=>∃e C b,xs = [.ref e,cv]/\ko H e C/\iP K C/\W.kitOne K (.ref C) c=some b/\Q (.bl b) H
theorem dr {X:Cx} {K:W.Frag} (cv:V) (c:Value) (rc:∀u,RelV cv u->u=c) (hK:X.K=K):da X (.builtin "isinstance") (Rx K cv c):=by
 subst hK;intro pins s σ H xs us Q I r h;obtain⟨e,C,b,rfl,x,cl,k,q⟩:=h;obtain⟨u,v,rfl,ru,rv⟩:=Vals.two r;cases(show u=Value.ref e from ru);cases rc v rv;exact W.kia_one (Og cl) I.bM (Vg I.hok x) k (λz=>nomatch z) λtk=>⟨.bl b,H,I.tok _,rfl,q⟩
abbrev ye:List Value:=[.type "ValueError", .type "Exception", .type "BaseException", .type "object"]
theorem Qy{K:W.Frag}{h:Heap}{mg:Str->Option Value}{x:Str}{C:Addr}{bmB:List Value}{newId:String}(X:K.In h)(e:mg x=some (.ref C))(q:W.excIn K C bmB newId=true):OwnCls x C bmB newId mg h:=by
 refine⟨e,?_⟩;unfold W.excIn at q
 split at q
 ·rename_i dd cd sl ho
  split at q
  ·rename_i C' bm k0 k1 k2 k3 n k5 hm hs
   simp only[cq,eP,Bool.not_eq_true']at q;obtain⟨⟨⟨⟨⟨rfl,rfl⟩,hdel⟩,ht⟩,hok⟩,hni⟩:=q;obtain⟨nm,bs,mro,ns,qn,hd,sn,sub,ab,col,del⟩:=cd;dsimp only at hm hdel hok hni;subst hm hdel;have hsl:sl = #[k0,k1,k2,k3,some (.builtin n),k5]:=by
    obtain⟨l⟩:=sl;simp only at hs;rw[hs]
   subst hsl;exact⟨bm,ns,nm,qn,bs,hd,sn,sub,ab,col,dd,k0,k1,k2,k3,k5,_,X _ _ ho,.of_isNs (W.isNs_of_in X hok),W.nsMap_none_of_in X hok hni,W.tail_of_in X ht⟩
  ·cases q
 ·cases q
noncomputable def Ue(C:Addr)(E:XK)(ta:TA):TS:=λ_ σ H=>ta σ H λvs H1=>vs.length<=sizeLine/\E (.ref C) none H1
section
variable {X:Cx} {E:XK} {x:Str} {C:Addr} {bmB:List Value} {B newId initId:String} {np cpos pos:Pos} {e0:Expr} {es:List Expr} {ta:TA}
theorem wW(R:Raises X E)(hm:X.mg x=some (.ref C))(q:W.excIn X.K C bmB newId=true)(FB:ExcBaseFacts B newId initId bmB)(calm:X.calm=true)(hex:X.ex = [])(hg:Gl X x)(ha:PA X (e0::es) ta)
  (he:starEach (e0::es) X.env=(false,eval e0 X.env)::starEach es X.env:=by rfl) (hplain:(backTo cpos (starEach es X.env)).any (·.1)=false:=by rfl) (hd:(x==("__debug__" : Str))=false:=by decide) :
  PS X (.Raise (some (.Call (.Name x np) (e0::es) [] cpos)) none pos) (Ue C E ta):=by
 intro pins s σ H D I h;have O:OwnCls x C bmB newId X.mg X.base:=Qy I.mod.ik hm q;obtain⟨tl,N,nm,q,bs,hdct,sn,sub,ab,col,dd,k0,k1,k2,k3,k5,mN,hC,hN,hni,T⟩:=O.obj;refine wpAny_Raise_call_subT (C:=C) (nm:=nm) (q:=q) (N:=N) (bs:=bs) (bm:=tl) (hdct:=hdct) (sn:=sn) (sub:=sub) (ab:=ab) (col:=col) (dd:=dd) (k0:=k0) (k1:=k1) (k2:=k2) (k3:=k3) (k5:=k5)
  FB (mN:=mN) (T.hasType FB.hasBase) (I.ok.hd calm) (by rw[he];show(false||(backTo cpos (starEach es X.env)).any (·.1))=false;rw[hplain];rfl) hni (jG I hg O.bound ⟨rfl,?_⟩ hd)
 have h':=ha cpos pins s σ H _ I h;rw[he]at h' ⊢;refine yX (dg h' (λus s2 ⟨vs,H2,I2,r,hl,q2⟩=>?_) λ_ _ y=>y);refine⟨rfl,by rw[<- r.length];exact hl,I2.bk _ _ hC,hN.keeps I2.bk,T.keeps I2.bk,λh3 e hm=>?_⟩;obtain⟨t,ht,_,_⟩:=hm.there;have I3:Inv X pins σ H2 {s2 with heap:=h3}:=I2.kept (t':=s2.toks) hm.keeps;refine R pins σ H2 _ e C _ _ I3 ht rfl rfl rfl (DR I2.hok hm.new) ?_ q2;cases z:X.s₀.heap.get? e with
 |none=>rfl
 |some o =>
  obtain⟨o',z'⟩:=I2.base.there e o z (by rw[hex];exact λz=>nomatch z);rw[hm.new]at z';cases z'
end
section
variable {X:Cx} {pins jO:List (Addr × Obj)} {σ:St} {H H1 H2:Hp} {s:Shared} {XE:XK}
abbrev Cx.ly (X:Cx) (pins:List (Addr × Obj)):Cx:={X with pn:=X.pn++pins}
theorem Inv.ly(I:Inv X pins σ H s):Inv (X.ly pins) [] σ H s:=
 ⟨⟨I.ok.mod,I.ok.kind,I.ok.glob,I.ok.blt,I.ok.above,I.ok.inj,I.ok.has,I.ok.cab,I.ok.hd,I.ok.frames,I.ok.stk,I.ok.jw,I.ok.bs,I.ok.dB,I.ok.gE,I.ok.h_,I.ok.bZ,I.ok.eQ⟩,
  I.os,I.bare,I.base,I.loc,I.cell,I.free,I.cJ,λp hp=>I.pin p (by simpa using hp),I.hok,I.len⟩
theorem Inv.oF(I:Inv (X.ly pins) jO σ H s):Inv X pins σ H s:=
 ⟨⟨I.ok.mod,I.ok.kind,I.ok.glob,I.ok.blt,I.ok.above,I.ok.inj,I.ok.has,I.ok.cab,I.ok.hd,I.ok.frames,I.ok.stk,I.ok.jw,I.ok.bs,I.ok.dB,I.ok.gE,I.ok.h_,I.ok.bZ,I.ok.eQ⟩,
  I.os,I.bare,I.base,I.loc,I.cell,I.free,I.cJ,λp hp=>I.pin p (tL _ hp),I.hok,I.len⟩
noncomputable def TX(X:Cx)(XE:XK):Value->Shared->Prop:=λex s'=>∃pins σ H1 s1,Inv X pins σ H1 s1/\aZ X.prog X.w X.stack H1 s1 XE ex s'
abbrev Cx.xT (X:Cx) (pins:List (Addr × Obj)) (XE:XK):Cx:=(X.ly pins).wish (TX (X.ly pins) XE)
theorem qO:Passes (aZ X.prog X.w) (X.xT pins XE) XE:=λjO σ H s e s' I h=>⟨jO,σ,H,s,I.dZ,h⟩
abbrev Cx.marked (X:Cx) (e:Addr):Cx:={X with A:=X.A.mark (some (.ref e)),calm:=false,xe:=λ_ _=>False}
theorem Inv.marked{e:Addr}(I:Inv X pins σ H s):Inv (X.marked e) pins σ H s:=
 ⟨⟨I.ok.mod,I.ok.kind,I.ok.glob,I.ok.blt,I.ok.above,I.ok.inj,I.ok.has,I.ok.cab,(λz=>nomatch z),I.ok.frames,I.ok.stk,I.ok.jw,I.ok.bs,I.ok.dB,I.ok.gE,I.ok.h_,I.ok.bZ,I.ok.eQ⟩,
  I.os,I.bare,I.base,I.loc,I.cell,I.free,I.cJ,I.pin,I.hok,I.len⟩
theorem Inv.unmarked{e:Addr}(ok:X.Ok)(I:Inv (X.marked e) pins σ H s):Inv X pins σ H s:=
 ⟨ok,I.os,I.bare,I.base,I.loc,I.cell,I.free,I.cJ,I.pin,I.hok,I.len⟩
theorem Ht{fs ch:List Addr}{h1 h2 h3:Heap}(un:Un fs [] H1 H2 h1 h2)(m:Moved fs ch h2 h3)(hc:∀b∈ch,h1.get? b=none):Un fs [] H1 H2 h1 h3:=by
 have eu:∀b o,h1.get? b=some o->b ∉ ch:=λb o e z=>by rw[hc b z]at e;cases e
 have nx:∀b:Addr,b ∉ ([]:List Addr):=λb z=>nomatch z;refine⟨λb o q n hb hx=>m.keep b o (un.keep b o q n hb hx) hb (eu b o q),λb o q n hb hx=>?_,un.free,λb o q hx=>?_,un.tups,un.dM,un.eB⟩
 ·obtain⟨sl,e1⟩:=un.slot b o q n hb hx
  obtain⟨oy,e3⟩:=m.any e1 (eu b _ q);exact⟨oy,e3⟩
 ·obtain⟨o2,e2⟩:=un.there b o q hx
  exact m.there b o2 e2
theorem Inv.track{ea:Addr}{oe:Obj}{vs:Array Value}{o:HO}(I:Inv X pins σ H s)(he:s.heap.get? ea=some oe)(hd:oe.data = .fields vs)(hn:H ea=none)(h0:X.s₀.heap.get? ea=none)(hp:∀p∈X.pn++pins,p.1≠ea)(new:aN X.prog X.w (upd H ea o) s.heap ea o):Inv X pins σ (upd H ea o) s:=by
 have ne0:∀b ob,X.s₀.heap.get? b=some ob->b≠ea:=λb ob e z=>by rw[z,h0]at e;cases e
 have neT:∀b u,H b=some u->b≠ea:=λb u e z=>by rw[z,hn]at e;cases e
 refine⟨I.ok,I.os,I.bare,⟨I.base.keep,I.base.slot,λb ob e n hx=>?_,I.base.there,λb xs e=>?_,λb u xs e=>?_,λb ps e=>?_⟩,I.loc,I.cell,?_,λx c e=>?_,λp hpp=>?_,λb u e=>?_,I.len⟩
 ·rw[ax (ne0 b ob e)];exact I.base.free b ob e n hx
 ·have q:=I.base.tups b xs e
  rw[ax (neT b _ q)];exact q
 ·have q:=I.base.dM b u xs e
  rw[ax (neT b _ q)];exact q
 ·obtain⟨more,q⟩:=I.base.eB b ps e
  exact⟨more,by rw[ax (neT b _ q)];exact q⟩
 ·have ne:X.env.locals≠ea:=λz=>by
   obtain⟨m,⟨oL,es,ep,hL,hdL,_⟩,_⟩:=I.loc;rw[z,he]at hL;cases hL;rw[hd]at hdL;cases hdL
  rw[ax ne];exact I.free
 ·have ne:c≠ea:=λz=>by
   obtain⟨v,oc,hc,hdc⟩:=I.cell x c e;rw[z,he]at hc;cases hc;rw[hd]at hdc;cases hdc
  rw[ax ne];exact I.cJ x c e
 ·obtain⟨a,b,c⟩:=I.pin p hpp
  exact⟨a,by rw[ax (hp p hpp)];exact b,c⟩
 ·by_cases z:b=ea
  ·subst z
   rw[av]at e;cases e;exact new
  ·rw[ax z]at e
   exact(I.hok b u e).stay (λc v _ q=>q) (λc q=>by rw[ax (neT c _ q)];exact q) (λc xs q=>by rw[ax (neT c _ q)];exact q) λc ob u q=>by rw[ax (neT c _ q)];exact q
theorem Inv.gone{i:Nat}{n:Str}{h':Heap}{m':Str->Option Value}(I:Inv X pins σ H s)(hN:X.N.Nodup)(hi:X.N[i]?=some n)(hloc:X.env.scope.names.lookup n=some .local){m:Str->Option Value}(hm:s.heap.Ns X.env.locals m)
  (hn:h'.Ns X.env.locals m') (hm':∀x,x≠n->m' x=m x) (hs:Heap.SameBut X.env.locals s.heap h'):Inv X pins (σ.set i none) H {s with heap:=h',toks:=s.toks+1}:=by
 obtain⟨m0,hn0,hl⟩:=id I.loc;have em:m0=m:=by
  funext x
  obtain⟨o,es,ep,h1,h2,_,h3⟩:=hn0;obtain⟨o',es',ep',h1',h2',_,h3'⟩:=hm;rw[h1]at h1';cases h1';rw[h2]at h2';cases h2';rw[<- h3,<- h3']
 subst em;have hiσ:i<σ.length:=by rw[I.len];exact(cw.mp hi).1
 have fP:=I.fP;have lj:∀b o,X.s₀.heap.get? b=some o->b≠X.env.locals:=λb o e=>aY (cz (aI e) I.ok.above);refine⟨I.ok,I.os,I.bare,⟨λb o e n hb hx=>?_,λb o e n hb hx=>?_,I.base.free,λb o e hx=>?_,I.base.tups,I.base.dM,I.base.eB⟩,⟨_,hn,λj y v' e1 e2 e3=>?_⟩,λy c e=>?_,I.free,I.cJ,λp hp=>?_,λb ob e=>?_,by simpa using I.len⟩
 ·exact(hs.2 b (lj b o e)).trans (I.base.keep b o e n hb hx)
 ·obtain⟨sl,e1⟩:=I.base.slot b o e n hb hx
  exact⟨sl,(hs.2 b (lj b o e)).trans e1⟩
 ·obtain⟨o',e1⟩:=I.base.there b o e hx
  exact⟨o',(hs.2 b (lj b o e)).trans e1⟩
 ·by_cases hj:j=i
  ·subst hj
   rw[tI hiσ]at e2;cases e2
  ·rw[oU (bK hj)]at e2
   obtain⟨u',r',q⟩:=hl j y v' e1 e2 e3;refine⟨u',r',?_⟩
   rcases q with⟨k,e⟩|⟨k,c,e,z⟩
   ·refine .inl ⟨k,?_⟩
    have:y≠n:=λe=>hj (wm hN e1 (e▸hi));rw[hm' y this];exact e
   ·exact .inr ⟨k,c,e,z.sameBut hs (fP y c e)⟩
 ·obtain⟨w',z⟩:=I.cell y c e
  exact⟨w',z.sameBut hs (fP y c e)⟩
 ·obtain⟨e,n,ne,nf,d⟩:=I.pin p hp
  exact⟨(hs.2 p.1 ne).trans e,n,ne,nf,d⟩
 ·have hfree:=I.free
  refine(I.hok b ob e).stay (λc w' hc q=>(hs.2 c ?_).trans q) (λ_ q=>q) (λ_ _ q=>q) λ_ _ _ q=>q;rintro rfl
  rcases hc with rfl|hc
  ·rw[hfree]at e;cases e
  ·rw[hfree]at hc;cases hc
end
noncomputable def Uj(XE:XK)(K:W.Frag)(Dc:Addr)(i n:Nat)(tb ts:TS):TS:=λD σ H=>tb D σ H/\∀cls dx H',XE cls dx H'->∃C,cls = .ref C/\W.exmOne K (.ref C) (.ref Dc)=some true /\
 ∀e,H' e=none->ts {nx:=λσ' oK=>D.nx (σ'.set i none) oK,rt:=λ_ _=>False} ((List.replicate n none).set i (some (.ref e))) (upd H' e (j1 e C dx))
section
variable {X:Cx} {XE:XK} {body suite:List Stmt} {b0:Stmt} {c n:Str} {np hpos pos:Pos} {i:Nat} {Dc:Addr} {tb ts:TS}
theorem SP.sI{pins:List (Addr × Obj)}{D:Ends}{f:Flow}{s':Shared}(h:SP (X.xT pins XE) [] D f s'):SP X pins D f s':=by
 cases f with
 |next=>obtain⟨σ',H',I,q⟩:=h;exact⟨σ',H',I.dZ.oF,q⟩
 |brk=>obtain⟨σ',H',I,q⟩:=h;exact⟨σ',H',I.dZ.oF,q⟩
 |cont=>obtain⟨σ',H',I,q⟩:=h;exact⟨σ',H',I.dZ.oF,q⟩
 |ret u=>obtain⟨v,σ',H',I,r,q⟩:=h;exact⟨v,σ',H',I.dZ.oF,r,q⟩
theorem Rh(hN:X.N.Nodup)(hi:X.N[i]?=some n)(hloc:X.env.scope.names.lookup n=some .local)(hg:Gl X c)(hm:X.mg c=some (.ref Dc))(hst:X.stack=X.env::X.outer)(hf:X.env.frame=some X.env.locals)(Mt:X.ex = [])
  (hb:∀pins,cB (X.xT pins XE) body tb) (hs:∀e,cB (X.marked e) (b0::suite) ts) (hd:(c==("__debug__" : Str))=false:=by decide) :
  PS X (.Try body [.ExceptHandler (some (.Name c np)) (some n) (b0::suite) hpos] [] [] pos) (Uj XE X.K Dc i X.N.length tb ts):=by
 intro pins s σ H D I h;refine wpAny_Try_except (dg (hb pins [] s σ H D (I.ly.wish _) h.1) (λf s1 q=>?_) λex s2 hx=>?_)
 ·cases f with
  |next=>exact pk q.sI
  |brk=>exact q.sI
  |cont=>exact q.sI
  |ret u=>exact q.sI
 obtain⟨jO,σ',H1,s1,I1,ea,C,dx,T,H2,rfl,os,bare,un,hok,xr,n1,n2,f1,f2,hE⟩:=hx;obtain⟨C',hC',hex,hs'⟩:=h.2 _ _ _ hE;cases hC';have hfr:X.A.frames=some (X.env::X.outer):=by rw[<- hst];exact I1.ok.frames
 have nx:∀b:Addr,b ∉ ([]:List Addr):=λb z=>nomatch z;have hl:s2.heap.FunFrames X.base (X.env::X.outer):=by
  rw[<- hst];exact qd (λb hb o e=>un.any e (I1.jT b hb) (nx b)) I1.stack
 have nf:∀b∈frs X.stack,H2 b=none:=λb hb=>by
  obtain⟨_,o,ho,_⟩:=I1.stack.mem hb;exact un.free b o ho (I1.jT b hb) (nx b)
 have hc:∀b∈[ea,T],s1.heap.get? b=none:=λb z=>by
  rcases aP.mp z with z|z
  ·rw[z];exact f1
  ·rw[bJ.mp z];exact f2
 have nc:∀b∈[ea,T],H2 b=none:=λb z=>by
  rcases aP.mp z with z|z
  ·rw[z];exact n1
  ·rw[bJ.mp z];exact n2
 have h0:X.s₀.heap.get? ea=none:=by
  cases z:X.s₀.heap.get? ea with
  |none=>rfl
  |some o =>
   obtain⟨o',z'⟩:=I1.base.there ea o z (by show ea ∉ X.ex;rw[Mt];exact nx ea);rw[f1]at z';cases z'
 have hpn:∀p∈X.pn++pins,p.1≠ea:=λp hp z=>by
  have:=(I1.pin p (tL _ hp)).1;rw[z,f1]at this;cases this
 have at_:∀{h5:Heap} {T5:Addr} {fl:Value},Un (frs X.stack) [] H1 H2 s1.heap h5->aU X.prog X.w H2 h5->dA h5 ea (.ref C) dx T5 fl->Inv X pins (List.replicate X.N.length none) (upd H2 ea (j1 ea C dx)) {s2 with heap:=h5}:=by
  intro h5 T5 fl U0 M8 x5;obtain⟨hh,gg,dd,tt,oo⟩:=s2;obtain rfl:oo=s1.os:=os;have J:Inv X pins σ' H2 {s1 with heap:=h5,gens:=gg,drawn:=dd,toks:=tt}:=(I1.call (h':=h5) (g':=gg) (d':=dd) (t':=tt) (ch:=[]) U0 M8 bare (λb z=>absurd z (nx b))).oF;obtain⟨oe,vs,e1,e2,e3,e4,_⟩:=x5.ex;exact(J.weak (σ':=List.replicate X.N.length none) (by rw[yz];exact J.len.symm) (λj v q=>by rw[yw]at q;split at q<;>cases q)).track e1 e4 n1 h0 hpn (KN e1 e2 e3 e4)
 refine wq hfr hl hf xr λh3 T' m hT x=>?_;refine va x λh4 m4 x4=>?_;have M4:Moved (frs X.stack) [ea,T] s2.heap h4:=by rw[hst];exact m.fresh m4 hT
 have Hr:=Ht un M4 hc;have Bt:=jE hok M4 nf nc;have J4:=at_ Hr Bt x4;obtain⟨oe,vs,e1,e2,e3,e4,_⟩:=x4.ex;refine wpAny_handleBy_cons (codeAny_handlers_test (jG (X:=X.marked ea) J4.marked hg hm ?_ hd)) (by intro q;cases q);have LT:W.Looks (model X.prog X.w) h4 (typeOf (.ref ea)) (.ref C):=e2▸(W.Looks.ld e1).andThen .now;refine W.exm_one (K:=X.K) J4.bM LT hex _ _ _ _ (λ_ _ z=>z) ?_;refine codeAny_handlers_suite_as (va x4 λh5 m5 x5=>?_);have M5:Moved (frs X.stack) [T'] h4 h5:=m5.mono (λ_ z=>nomatch z) λ_ z=>z;have fT:∀b∈[T'],s1.heap.get? b=none:=λb z=>by rw[bJ.mp z];exact qF un hT
 have J5:=at_ (Ht Hr M5 fT) (jE Bt M5 nf λb z=>by rw[bJ.mp z];exact hok.fresh hT) x5;refine xM J5 hN hi (.inl hloc) (show RelV (.ref ea) (Value.ref ea)from rfl) (λs6 I6 _=>?_) (.inr hloc);refine dg (hs ea pins s6 _ _ _ I6.marked (hs' ea n1)) (λf s7 q7=>?_) λ_ _ z=>False.elim z;cases f with
 |next =>
  obtain⟨σ7,H7,I7,q⟩:=q7;have I7:=I7.unmarked I.ok;obtain⟨m7,Bs,_⟩:=id I7.loc;refine wpAny_nameGoes_keeps hloc Bs (by rw[I7.ok.kind];rfl) λh8 v M6 Nc=>?_;exact⟨_,_,I7.gone hN hi hloc Bs M6 (λx hx=>if_neg hx) Nc,q⟩
 |brk=>obtain⟨_,_,_,q⟩:=q7;exact False.elim q
 |cont=>obtain⟨_,_,_,q⟩:=q7;exact False.elim q
 |ret u=>obtain⟨_,_,_,_,_,q⟩:=q7;exact False.elim q
end
structure eE (P:Program) (w:World) (K:W.Frag) (mg:Str->Option Value) (base:Heap) (x:Str) (ps:List Str) (k:Nat) (sp:Sp):Prop where
 ex:∃(f:Addr) (fd:FuncData),aL P w K mg base (aZ P w) k f fd ps sp/\mg x=some (.ref f)/\W.keepIn K (.ref f)=true/\Binds K fd ps []
section
variable {X:Cx} {x:Str} {ps:List Str} {k k':Nat} {sp:Sp} {e:Expr} {es:List Expr} {t:TA} {p pos:Pos} {E:XK}
theorem lu (c:eE X.prog X.w X.K X.mg X.base x ps k sp) (px:Passes (aZ X.prog X.w) X E) (hr:aV k' X.A) (hg:Gl X x) (ha:PA X (e::es) t) (hk:k<=k':=by decide) (hdb:(x==("__debug__" : Str))=false:=by decide)
  (he:starEach (e::es) X.env=(false,eval e X.env)::starEach es X.env:=by rfl) (hpl:(backTo pos (starEach es X.env)).any (·.1)=false:=by rfl):PE X (.Call (.Name x p) (e::es) [] pos) (xP sp [] E t):=by
 obtain⟨f,fd,F,hm,kp,b⟩:=c.ex;exact Fc F (hr.mono hk) hg hm kp b .nil px ha hdb he hpl
end
theorem aO.Qb{P:Program}{w:World}{K:W.Frag}{mg:Str->Option Value}{base:Heap}{x qual:Str}{st:Stmt}{f:Addr}{fd:FuncData}{N ps:List Str}{k:Nat}{sp:Sp}(F:aO K x qual st f fd)(S:bf N ps (aq st))(len:∀vs H Q E,sp vs H Q E->vs.length=ps.length)(hbody:∀(cdv:Value) (A:Around) (outer:List Env) (s:Shared) (H:Hp) (vs:List V) (Q:VK) (E:XK),aV k (A.deeper (envOfC qual (aq st) s.heap.objs.size f cdv))->sp vs H Q E->∃t,cB (bu (aZ P w) P w K mg base N qual (aq st) f cdv A outer s H E) (dI st) t/\t {nx:=λ_ H'=>Q .non H',rt:=Q} (start N vs) H):aL P w K mg base (aZ P w) (k+1) f fd ps sp:=by
 obtain⟨oc,od,kV,doc,pm,an,cdv,ct,osl,rfl,lk,hcd⟩:=F.ex;exact vb lk hcd S len λA outer s H vs Q E hr hsp=>hbody cdv A outer s H vs Q E hr hsp
noncomputable def qo:Value->Bool
 |.bool b=>b
 |_=>false
theorem zL:∀{bs:List Bool} {us:List Value},Vals (bs.map V.bl) us->us=bs.map Value.bool
 | [],_,h=>by cases h;rfl
 |b::bs,_,h=>by
  cases h with
  |cons h t=>rw[show _=Value.bool b from h,zL t];rfl
noncomputable def Rv(K:W.Frag):V->List V->Hp->VK->Prop:=λx vs H Q=>∃(l:Addr) (bs:List Bool),x = .ref l/\vs = [.bl true]/\ao K H l (bs.map V.bl)/\true∈bs/\Q (.int (bs.idxOf true:Nat)) H
theorem Pn {X:Cx} {K:W.Frag} (hK:X.K=K):tP X "list.index" (Rv K):=by
 subst hK;intro pins s σ H x vs v us Q I rx rv h;obtain⟨l,bs,rfl,rfl,hq,hk,q⟩:=h;cases rx;obtain⟨u,rfl,ru⟩:=rv.one;cases(show u=Value.bool true from ru);obtain⟨its,r,⟨⟨cls,dd,data,sl⟩,n,ho,hc,hdd,hd⟩,hz⟩:=I.list hq;simp only at hc hdd hd;subst hc hdd hd;have hi:=zL r;subst hi;have hj:bs.idxOf true<bs.length:=List.idxOf_lt_length_iff.mpr hk;have hb:sizeLine<2 ^ 62:=by decide
 rw[ay]at hz;refine call_meets IV ⟨_,ho,rfl⟩ PySem.F.entry_list_index (PySem.F.args_list_index_2 _ _)
  (SeqAt.list_indexAt l (bs.map Value.bool).toArray n none sl (.bool true) qo (bs.idxOf true) (by simpa using hj) (by omega) ?_ ?_) ⟨ho,λy hy=>?_,?_⟩
 ·show qo ((bs.map Value.bool)[bs.idxOf true]'(by simpa using hj))=true
  rw[oV,List.getElem_idxOf hj];rfl
 ·intro j hjs hlt
  have hj2:j<bs.length:=by simpa using hjs
  show qo ((bs.map Value.bool)[j]'(by simpa using hj2))=false;rw[oV];show bs[j]=false;have:=List.not_of_lt_findIdx (p:=(· == true)) (xs:=bs) (i:=j) hlt;simpa using this
 ·obtain⟨b,_,rfl⟩:=cx.mp (show y∈bs.map Value.bool by simpa using hy)
  have e:qo (.bool b)=(b==true):=by cases b<;>rfl
  rw[e];exact y_ b true
 ·exact⟨.int (bs.idxOf true:Nat),H,I.tok _,⟨_,rfl⟩,q⟩
noncomputable def strOf:Expr->Option Str
 |.Constant (.str i) _ _=>some i
 |_=>none
noncomputable def strsOf:List Expr->Option (List Str)
 | []=>some []
 |e::r=>(strOf e).bind λi=>(strsOf r).map (i::·)
theorem Ts{e:Expr}{i:Str}(h:strOf e=some i):∃k p,e = .Constant (.str i) k p:=by
 cases e with
 |Constant c k p =>
  cases c with
  |str j=>cases h;exact⟨k,p,rfl⟩
  |_=>cases h
 |_=>cases h
theorem Ew{X:Cx}:∀{es:List Expr} (is:List Str),strsOf es=some is->PA X es (λ_ H Q=>Q (is.map V.str) H):=by
 intro es
 induction es with
 |nil =>
  intro is h;cases h;exact ai
 |cons e r ih =>
  intro is h;have h':(strOf e).bind (λi=>(strsOf r).map (i::·))=some is:=h;cases q1:strOf e with
  |none=>rw[q1]at h';cases h'
  |some i =>
   obtain⟨k,p,rfl⟩:=Ts q1;rw[q1]at h';cases q:strsOf r with
   |none=>rw[mj,q]at h';cases h'
   |some l =>
    rw[mj,q]at h';cases h';exact ag gF (ih l q)
theorem Js:bootBuiltins "ValueError" = some (.type "ValueError"):=by decide +kernel
structure lN (mg:Str->Option Value) (a0 a1 a2 a3 a4 a5 a6 a7 a8 a9 a10 a11 a12 a13 a14 aE:Addr):Prop where
 NoChain:mg "NoChain" = some (.ref a0)
 NoClimb:mg "NoClimb" = some (.ref a1)
 NoCount:mg "NoCount" = some (.ref a2)
 NoEnds:mg "NoEnds" = some (.ref a3)
 NoExchange:mg "NoExchange" = some (.ref a4)
 NoJoin:mg "NoJoin" = some (.ref a5)
 NoLine:mg "NoLine" = some (.ref a6)
 NoName:mg "NoName" = some (.ref a7)
 NoNumber:mg "NoNumber" = some (.ref a8)
 NoOrder:mg "NoOrder" = some (.ref a9)
 NoPart:mg "NoPart" = some (.ref a10)
 NoText:mg "NoText" = some (.ref a11)
 NoThing:mg "NoThing" = some (.ref a12)
 NoWord:mg "NoWord" = some (.ref a13)
 NotEven:mg "NotEven" = some (.ref a14)
 ClimbError:mg "ClimbError" = some (.ref aE)
 ve:mg "ValueError" = none
structure oJ (K:W.Frag) (a0 a1 a2 a3 a4 a5 a6 a7 a8 a9 a10 a11 a12 a13 a14 aE:Addr):Prop where
 NoChain:W.nsIn K mainGlobals "NoChain" = some (some (.ref a0))
 NoClimb:W.nsIn K mainGlobals "NoClimb" = some (some (.ref a1))
 NoCount:W.nsIn K mainGlobals "NoCount" = some (some (.ref a2))
 NoEnds:W.nsIn K mainGlobals "NoEnds" = some (some (.ref a3))
 NoExchange:W.nsIn K mainGlobals "NoExchange" = some (some (.ref a4))
 NoJoin:W.nsIn K mainGlobals "NoJoin" = some (some (.ref a5))
 NoLine:W.nsIn K mainGlobals "NoLine" = some (some (.ref a6))
 NoName:W.nsIn K mainGlobals "NoName" = some (some (.ref a7))
 NoNumber:W.nsIn K mainGlobals "NoNumber" = some (some (.ref a8))
 NoOrder:W.nsIn K mainGlobals "NoOrder" = some (some (.ref a9))
 NoPart:W.nsIn K mainGlobals "NoPart" = some (some (.ref a10))
 NoText:W.nsIn K mainGlobals "NoText" = some (some (.ref a11))
 NoThing:W.nsIn K mainGlobals "NoThing" = some (some (.ref a12))
 NoWord:W.nsIn K mainGlobals "NoWord" = some (some (.ref a13))
 NotEven:W.nsIn K mainGlobals "NotEven" = some (some (.ref a14))
 ClimbError:W.nsIn K mainGlobals "ClimbError" = some (some (.ref aE))
 ve:W.nsIn K mainGlobals "ValueError" = some none
theorem oJ.errs{K:W.Frag}{mg:Str->Option Value}{h:Heap}{a0 a1 a2 a3 a4 a5 a6 a7 a8 a9 a10 a11 a12 a13 a14 aE:Addr}(A:oJ K a0 a1 a2 a3 a4 a5 a6 a7 a8 a9 a10 a11 a12 a13 a14 aE)(X:K.In h)(G:h.Ns mainGlobals mg):lN mg a0 a1 a2 a3 a4 a5 a6 a7 a8 a9 a10 a11 a12 a13 a14 aE:=
 ⟨W.mg_of X G A.NoChain,W.mg_of X G A.NoClimb,W.mg_of X G A.NoCount,W.mg_of X G A.NoEnds,W.mg_of X G A.NoExchange,W.mg_of X G A.NoJoin,W.mg_of X G A.NoLine,W.mg_of X G A.NoName,W.mg_of X G A.NoNumber,W.mg_of X G A.NoOrder,W.mg_of X G A.NoPart,W.mg_of X G A.NoText,W.mg_of X G A.NoThing,W.mg_of X G A.NoWord,W.mg_of X G A.NotEven,W.mg_of X G A.ClimbError,W.mg_none_of X G A.ve⟩
structure ki (K:W.Frag) (a0 a1 a2 a3 a4 a5 a6 a7 a8 a9 a10 a11 a12 a13 a14 aE C:Addr) (j:Nat):Prop where
 xc:iP K C
 KQ:W.exmOne K (.ref C) (.ref aE)=some true
 ke:W.kitOne K (.ref C) (.ref aE)=some true
 kv:W.kitOne K (.ref C) (.type "ValueError")=some true
 k0:W.kitOne K (.ref C) (.ref a0)=some (decide (0=j))
 k1:W.kitOne K (.ref C) (.ref a1)=some (decide (1=j))
 k2:W.kitOne K (.ref C) (.ref a2)=some (decide (2=j))
 k3:W.kitOne K (.ref C) (.ref a3)=some (decide (3=j))
 k4:W.kitOne K (.ref C) (.ref a4)=some (decide (4=j))
 k5:W.kitOne K (.ref C) (.ref a5)=some (decide (5=j))
 k6:W.kitOne K (.ref C) (.ref a6)=some (decide (6=j))
 k7:W.kitOne K (.ref C) (.ref a7)=some (decide (7=j))
 k8:W.kitOne K (.ref C) (.ref a8)=some (decide (8=j))
 k9:W.kitOne K (.ref C) (.ref a9)=some (decide (9=j))
 k10:W.kitOne K (.ref C) (.ref a10)=some (decide (10=j))
 k11:W.kitOne K (.ref C) (.ref a11)=some (decide (11=j))
 k12:W.kitOne K (.ref C) (.ref a12)=some (decide (12=j))
 k13:W.kitOne K (.ref C) (.ref a13)=some (decide (13=j))
 k14:W.kitOne K (.ref C) (.ref a14)=some (decide (14=j))
theorem ko.same{H H':Hp}{e C:Addr}(x:ko H e C)(s:∀b o,H b=some o->H' b=some o):ko H' e C:=by
 obtain⟨dx,h1,h2⟩:=x;exact⟨dx,s _ _ h1,λa q=>let⟨fs,z⟩:=h2 a q;⟨fs,s _ _ z⟩⟩
end L2
namespace My
open PySem PySem.Spec PyProof.Rows L2
noncomputable def uR:List Str:=["NoChain","NoClimb","NoCount","NoEnds","NoExchange","NoJoin","NoLine","NoName","NoNumber","NoOrder","NoPart","NoText","NoThing","NoWord","NotEven"]
section
variable {P:Program} {w:World} {K:W.Frag} {mg:Str->Option Value} {base:Heap} {f:Addr} {fd:FuncData} {a0 a1 a2 a3 a4 a5 a6 a7 a8 a9 a10 a11 a12 a13 a14 aE:Addr}
noncomputable def xx (Rz:Addr->Nat->Prop):Sp:=λvs H Q _=>∃(e C:Addr) (j:Nat),vs = [.ref e]/\ko H e C/\Rz C j/\j<15/\∀H',Same H H'->Q (.str (uR.getD j "")) H'
end
noncomputable def qq:List Str:=["NoChain","NoClimb","NoCount","NoEnds","NoExchange","NoJoin","NoLine","NoName","NoNumber","NoOrder","NoPart","NotEven","NoText","NoThing","NoWord"]
noncomputable def posK(j:Nat):Nat:=if j<11 then j else if j=14 then 11 else j+1
noncomputable def cR(j:Nat):List Bool:=[decide (0=j),decide (1=j),decide (2=j),decide (3=j),decide (4=j),decide (5=j),decide (6=j),decide (7=j),decide (8=j),decide (9=j),decide (10=j),decide (14=j),decide (11=j),decide (12=j),decide (13=j)]
theorem K0:∀j<15,((cR j).filter id).length=1/\(cR j).idxOf true=posK j/\true∈cR j:=by decide
theorem N6:∀j<15,(qq.map V.str)[posK j]?=some (.str (uR.getD j ""))
 |0,_|1,_|2,_|3,_|4,_|5,_|6,_|7,_|8,_|9,_|10,_|11,_|12,_|13,_|14,_=>rfl
 |n+15,h=>absurd h (by omega)
section
variable {P:Program} {w:World} {K:W.Frag} {mg:Str->Option Value} {base:Heap} {f:Addr} {fd:FuncData} {a0 a1 a2 a3 a4 a5 a6 a7 a8 a9 a10 a11 a12 a13 a14 aE:Addr}
abbrev cG:Stmt:=top 53
theorem Gj:bf ["_law_e","_law_found","_law_words"] ["_law_e"] (aq cG):=⟨rfl,rfl,rfl,by decide +kernel,rfl,by decide +kernel,by decide +kernel⟩
theorem Lb:(aq cG).names.lookup ("ClimbError" : Str)=some .globalImplicit:=by decide +kernel
theorem Lc:(aq cG).names.lookup ("NoChain" : Str)=some .globalImplicit:=by decide +kernel
theorem Le:(aq cG).names.lookup ("NoClimb" : Str)=some .globalImplicit:=by decide +kernel
theorem Lh:(aq cG).names.lookup ("NoCount" : Str)=some .globalImplicit:=by decide +kernel
theorem Li:(aq cG).names.lookup ("NoEnds" : Str)=some .globalImplicit:=by decide +kernel
theorem Lj:(aq cG).names.lookup ("NoExchange" : Str)=some .globalImplicit:=by decide +kernel
theorem Lk:(aq cG).names.lookup ("NoJoin" : Str)=some .globalImplicit:=by decide +kernel
theorem Ln:(aq cG).names.lookup ("NoLine" : Str)=some .globalImplicit:=by decide +kernel
theorem Lp:(aq cG).names.lookup ("NoName" : Str)=some .globalImplicit:=by decide +kernel
theorem Lq:(aq cG).names.lookup ("NoNumber" : Str)=some .globalImplicit:=by decide +kernel
theorem Ls:(aq cG).names.lookup ("NoOrder" : Str)=some .globalImplicit:=by decide +kernel
theorem Lv:(aq cG).names.lookup ("NoPart" : Str)=some .globalImplicit:=by decide +kernel
theorem Lw:(aq cG).names.lookup ("NoText" : Str)=some .globalImplicit:=by decide +kernel
theorem Lx:(aq cG).names.lookup ("NoThing" : Str)=some .globalImplicit:=by decide +kernel
theorem Ly:(aq cG).names.lookup ("NoWord" : Str)=some .globalImplicit:=by decide +kernel
theorem Lz:(aq cG).names.lookup ("NotEven" : Str)=some .globalImplicit:=by decide +kernel
theorem LC:(aq cG).names.lookup ("ValueError" : Str)=some .globalImplicit:=by decide +kernel
theorem du:(aq cG).names.lookup ("isinstance" : Str)=some .globalImplicit:=by decide +kernel
theorem Qg (F:aO K "_law_kind" "_law_kind" cG f fd) (T:Txt mg) (Er:lN mg a0 a1 a2 a3 a4 a5 a6 a7 a8 a9 a10 a11 a12 a13 a14 aE) :
  aL P w K mg base aW 1 f fd ["_law_e"] (xx λC j=>ki K a0 a1 a2 a3 a4 a5 a6 a7 a8 a9 a10 a11 a12 a13 a14 aE C j):=by
 refine F.ok Gj (λvs H Q E h=>?_) (λcdv A outer s H vs Q E hr h=>?_)
 ·obtain⟨e,C,j,rfl,_⟩:=h
  rfl
 ·obtain⟨e,C,j,rfl,hx,hR,hj,kk⟩:=h
  have nd:=Gj.nd;refine⟨_,(aF (aS (i:=1) nd rfl (Or.inl rfl) (c6 (ag (bB (dr (K:=K) (.ref a0) (.ref a0) (λ_ z=>z) rfl) du T.isinstance dc (ag (pv 0) (ag (cF (v:=.ref a0) Lc Er.NoChain rfl) ai))) (ag (bB (dr (K:=K) (.ref a1) (.ref a1) (λ_ z=>z) rfl) du T.isinstance dc (ag (pv 0) (ag (cF (v:=.ref a1) Le Er.NoClimb rfl) ai))) (ag (bB (dr (K:=K) (.ref a2) (.ref a2) (λ_ z=>z) rfl) du T.isinstance dc (ag (pv 0) (ag (cF (v:=.ref a2) Lh Er.NoCount rfl) ai))) (ag (bB (dr (K:=K) (.ref a3) (.ref a3) (λ_ z=>z) rfl) du T.isinstance dc (ag (pv 0) (ag (cF (v:=.ref a3) Li Er.NoEnds rfl) ai))) ai (bQ nofun)) (bQ nofun)) (bQ nofun)) (bQ nofun))))
   (aF (aS (i:=1) nd rfl (Or.inl rfl) (aD iX (pv 1) (c6 (ag (bB (dr (K:=K) (.ref a4) (.ref a4) (λ_ z=>z) rfl) du T.isinstance dc (ag (pv 0) (ag (cF (v:=.ref a4) Lj Er.NoExchange rfl) ai))) (ag (bB (dr (K:=K) (.ref a5) (.ref a5) (λ_ z=>z) rfl) du T.isinstance dc (ag (pv 0) (ag (cF (v:=.ref a5) Lk Er.NoJoin rfl) ai))) (ag (bB (dr (K:=K) (.ref a6) (.ref a6) (λ_ z=>z) rfl) du T.isinstance dc (ag (pv 0) (ag (cF (v:=.ref a6) Ln Er.NoLine rfl) ai))) (ag (bB (dr (K:=K) (.ref a7) (.ref a7) (λ_ z=>z) rfl) du T.isinstance dc (ag (pv 0) (ag (cF (v:=.ref a7) Lp Er.NoName rfl) ai))) ai (bQ nofun)) (bQ nofun)) (bQ nofun)) (bQ nofun)))))
   (aF (aS (i:=1) nd rfl (Or.inl rfl) (aD iX (pv 1) (c6 (ag (bB (dr (K:=K) (.ref a8) (.ref a8) (λ_ z=>z) rfl) du T.isinstance dc (ag (pv 0) (ag (cF (v:=.ref a8) Lq Er.NoNumber rfl) ai))) (ag (bB (dr (K:=K) (.ref a9) (.ref a9) (λ_ z=>z) rfl) du T.isinstance dc (ag (pv 0) (ag (cF (v:=.ref a9) Ls Er.NoOrder rfl) ai))) (ag (bB (dr (K:=K) (.ref a10) (.ref a10) (λ_ z=>z) rfl) du T.isinstance dc (ag (pv 0) (ag (cF (v:=.ref a10) Lv Er.NoPart rfl) ai))) (ag (bB (dr (K:=K) (.ref a14) (.ref a14) (λ_ z=>z) rfl) du T.isinstance dc (ag (pv 0) (ag (cF (v:=.ref a14) Lz Er.NotEven rfl) ai))) ai (bQ nofun)) (bQ nofun)) (bQ nofun)) (bQ nofun)))))
   (aF (aS (i:=1) nd rfl (Or.inl rfl) (aD iX (pv 1) (c6 (ag (bB (dr (K:=K) (.ref a11) (.ref a11) (λ_ z=>z) rfl) du T.isinstance dc (ag (pv 0) (ag (cF (v:=.ref a11) Lw Er.NoText rfl) ai))) (ag (bB (dr (K:=K) (.ref a12) (.ref a12) (λ_ z=>z) rfl) du T.isinstance dc (ag (pv 0) (ag (cF (v:=.ref a12) Lx Er.NoThing rfl) ai))) (ag (bB (dr (K:=K) (.ref a13) (.ref a13) (λ_ z=>z) rfl) du T.isinstance dc (ag (pv 0) (ag (cF (v:=.ref a13) Ly Er.NoWord rfl) ai))) ai (bQ nofun)) (bQ nofun)) (bQ nofun)))))
   (aF (cp (PW.pt (iZ (iz (fA (bB (dr (K:=K) (.ty "ValueError") (.type "ValueError") (λ_ z=>z) rfl) du T.isinstance dc (ag (pv 0) (ag (wN (v:=.ty "ValueError") LC Er.ve Js rfl) ai))))) (iZ (iz (fA (bB (dr (K:=K) (.ref aE) (.ref aE) (λ_ z=>z) rfl) du T.isinstance dc (ag (pv 0) (ag (cF (v:=.ref aE) Lb Er.ClimbError rfl) ai))))) (jP (bR jM (bB (iR (K:=K) rfl) rfl T.len jl (ag (dS (own:=["_law_one"]) (fr:=[]) rfl (cM (aq cG) ["_law_e","_law_found","_law_words"] rfl rfl (by decide +kernel)) (gG (K:=K) rfl (pv 1)) (λ_ _ _ _=>⟨(bx (i:=0) (by decide +kernel:(["_law_one"]:List Str).Nodup) rfl (Or.inl rfl)),(og (fA (pv 0))),(pv 0)⟩)) ai)) ak (bN _)))))) (aA (bC gF)) c7)
   (aF (aS (i:=2) nd rfl (Or.inl rfl) (c6 (Ew ["NoChain","NoClimb","NoCount","NoEnds","NoExchange","NoJoin","NoLine","NoName","NoNumber"] rfl)))
   (aF (aS (i:=2) nd rfl (Or.inl rfl) (aD iX (pv 2) (c6 (Ew ["NoOrder","NoPart","NotEven","NoText","NoThing","NoWord"] rfl))))
   (aA (bC (aM (bG (K:=K) rfl) (pv 2) (lr (K:=K) rfl my IV PySem.F.type_list_index (Pn (K:=K) rfl) (pv 1) (ag jN ai)) (λ_ _=>rfl))))))))))),?_⟩
  refine⟨_,rfl,e,C,_,rfl,hx,hR.xc,hR.k0,_,rfl,e,C,_,rfl,hx,hR.xc,hR.k1,_,rfl,e,C,_,rfl,hx,hR.xc,hR.k2,_,rfl,e,C,_,rfl,hx,hR.xc,hR.k3,by show 4<=sizeLine;decide,λl1 hl1=>?_⟩;have s1:Same H (upd H l1 (.lst [.bl (decide (0=j)),.bl (decide (1=j)),.bl (decide (2=j)),.bl (decide (3=j))])):=Same.put hl1;have q1:(upd H l1 (.lst [.bl (decide (0=j)),.bl (decide (1=j)),.bl (decide (2=j)),.bl (decide (3=j))])) l1=some (.lst [.bl (decide (0=j)),.bl (decide (1=j)),.bl (decide (2=j)),.bl (decide (3=j))]):=av;generalize upd H l1 (.lst [.bl (decide (0=j)),.bl (decide (1=j)),.bl (decide (2=j)),.bl (decide (3=j))])=H1 at s1 q1 ⊢;have hx1:=hx.same s1;refine⟨_,rfl,_,rfl,e,C,_,rfl,hx1,hR.xc,hR.k4,_,rfl,e,C,_,rfl,hx1,hR.xc,hR.k5,_,rfl,e,C,_,rfl,hx1,hR.xc,hR.k6,_,rfl,e,C,_,rfl,hx1,hR.xc,hR.k7,by show 4<=sizeLine;decide,λl2 hl2=>⟨l1,l2,_,_,rfl,rfl,Same.put hl2 _ _ q1,av,by show 8<=sizeLine;decide,λl3 hl3=>?_⟩⟩;obtain⟨H3,s3,q3,e3⟩:∃H3:Hp,Same H1 H3/\H3 l3=some (.lst (((cR j).take 8).map V.bl))/\H3=upd (upd H1 l2 (.lst [.bl (decide (4=j)),.bl (decide (5=j)),.bl (decide (6=j)),.bl (decide (7=j))])) l3 (.lst (((cR j).take 8).map V.bl)):=⟨_,(Same.put hl2).trans (Same.put hl3),av,rfl⟩;show cU _ _ _ [some (.ref e),some (.ref l3),none] (upd (upd H1 l2 (.lst [.bl (decide (4=j)),.bl (decide (5=j)),.bl (decide (6=j)),.bl (decide (7=j))])) l3 (.lst (((cR j).take 8).map V.bl)));rw[<- e3];have nD:=hx1.same s3;refine⟨_,rfl,_,rfl,e,C,_,rfl,nD,hR.xc,hR.k8,_,rfl,e,C,_,rfl,nD,hR.xc,hR.k9,_,rfl,e,C,_,rfl,nD,hR.xc,hR.k10,_,rfl,e,C,_,rfl,nD,hR.xc,hR.k14,by show 4<=sizeLine;decide,λl4 kQ=>⟨l3,l4,_,_,rfl,rfl,Same.put kQ _ _ q3,av,by show 12<=sizeLine;decide,λl5 kR=>?_⟩⟩;obtain⟨H5,s5,q5,e5⟩:∃H5:Hp,Same H3 H5/\H5 l5=some (.lst (((cR j).take 12).map V.bl))/\H5=upd (upd H3 l4 (.lst [.bl (decide (8=j)),.bl (decide (9=j)),.bl (decide (10=j)),.bl (decide (14=j))])) l5 (.lst (((cR j).take 12).map V.bl)):=⟨_,(Same.put kQ).trans (Same.put kR),av,rfl⟩;show cU _ _ _ [some (.ref e),some (.ref l5),none] (upd (upd H3 l4 (.lst [.bl (decide (8=j)),.bl (decide (9=j)),.bl (decide (10=j)),.bl (decide (14=j))])) l5 (.lst (((cR j).take 12).map V.bl)));rw[<- e5];have qk:=nD.same s5;refine⟨_,rfl,_,rfl,e,C,_,rfl,qk,hR.xc,hR.k11,_,rfl,e,C,_,rfl,qk,hR.xc,hR.k12,_,rfl,e,C,_,rfl,qk,hR.xc,hR.k13,by show 3<=sizeLine;decide,λl6 Bp=>⟨l5,l6,_,_,rfl,rfl,Same.put Bp _ _ q5,av,by show 15<=sizeLine;decide,λl7 MK=>?_⟩⟩;obtain⟨H7,s7,q7,e7⟩:∃H7:Hp,Same H5 H7/\H7 l7=some (.lst ((cR j).map V.bl))/\H7=upd (upd H5 l6 (.lst [.bl (decide (11=j)),.bl (decide (12=j)),.bl (decide (13=j))])) l7 (.lst ((cR j).map V.bl)):=⟨_,(Same.put Bp).trans (Same.put MK),av,rfl⟩;show cU _ _ _ [some (.ref e),some (.ref l7),none] (upd (upd H5 l6 (.lst [.bl (decide (11=j)),.bl (decide (12=j)),.bl (decide (13=j))])) l7 (.lst ((cR j).map V.bl)));rw[<- e7];have BK:=qk.same s7;obtain⟨f1,f2,f3⟩:=K0 j hj;refine⟨_,rfl,e,C,_,rfl,BK,hR.xc,hR.kv,_,rfl,bF ⟨_,rfl,e,C,_,rfl,BK,hR.xc,hR.ke,_,rfl,bF ?_⟩⟩;refine⟨_,rfl,l7,rfl,⟨_,ao.of q7⟩,λD hD=>pO (λi=>(cR j).getD i false) (λi=>.bl true) (src_list (ao.of q7)) hD (by show 15<sizeLine;decide) (λi H8 Kt Kf hi hs hkt hkf=>?_) (λH8 s8 MN=>?_)⟩
  ·have hi':i<15:=hi
   have eg:((cR j).map V.bl).getD i .non = .bl ((cR j).getD i false):=by
    rw[aQ,aQ,bT,aK (show i<(cR j).length from hi')];rfl
   refine⟨_,rfl,_,by rw[eg],cn (λh=>?_) (λh=>?_)⟩
   ·refine⟨_,rfl,?_⟩
    rw[eg,h];exact hkt _ h (Same.refl _)
   ·exact hkf _ (by simpa using h) (Same.refl _)
  ·have hlen:(((List.range 15).filter λi=>(cR j).getD i false).map λ_=>V.bl true).length=1:=by
    rw[ay];exact(show ∀j<15,((List.range 15).filter λi=>(cR j).getD i false).length=1 by decide) j hj
   refine⟨D,_,rfl,.inl (ao.of MN),rfl,_,rfl,?_⟩;rw[show((cR j).map V.bl).length=15 from rfl,hlen];refine bF ?_;refine⟨by show 9<=sizeLine;decide,λw1 hw1=>?_⟩;refine⟨_,rfl,by show 6<=sizeLine;decide,λw2 hw2=>⟨w1,w2,_,_,rfl,rfl,Same.put hw2 _ _ av,av,by show 15<=sizeLine;decide,λw3 Nm=>?_⟩⟩;have s9:=((Same.put (o:=.lst ((qq.take 9).map V.str)) hw1).trans (Same.put (o:=.lst ((qq.drop 9).map V.str)) hw2)).trans (Same.put (o:=.lst (qq.map V.str)) Nm);have q9:=s9 _ _ (s8 _ _ q7);refine⟨_,rfl,_,rfl,.inl ⟨rfl,_,ao.of q9⟩,l7,cR j,rfl,rfl,ao.of q9,f3,?_⟩;rw[f2];refine⟨w3,_,_,.str (uR.getD j ""),rfl,rfl,ao.of av,bp ?_,kk _ ((((s1.trans s3).trans s5).trans s7).trans (s8.trans s9))⟩;exact N6 j hj
end
theorem Good.trans{n:Nat}{R:Nat->Nat->Bool}(G:Good n R){a b c:Nat}(ha:a<n)(hb:b<n)(hc:c<n)(h1:R a b=true)(h2:R b c=true):R a c=true:=by
 obtain⟨m,hm,h⟩:=G.meet b c hb hc;have e1:=h b hb;rw[G.refl b hb,h2]at e1;have e2:=h m hm;rw[G.refl m hm]at e2;have e3:R m b=true:=by
  cases e:R m b with
  |true=>rfl
  |false=>rw[e]at e2;cases e2
 have:b=m:=G.anti b m hb hm (by rw[e1];rfl) e3;subst this;have e4:=h a ha;rw[h1]at e4;simpa using e4.symm
section
variable {n:Nat} {R:Nat->Nat->Bool} {a b c d:Nat}
end
noncomputable def yl(c:Bool)(H:Hp)(a:Addr)(xs:List V):Prop:=match c with
 |true=>H a=some (.lst xs)
 |false=>H a=some (.tup xs)
noncomputable def Leaf(x:V):Prop:=(∃i,x = .int i)\/x = .non\/(∃b,x = .bl b)\/∃t,x = .str t
noncomputable def Like(R:Hp->V->V->Prop)(H:Hp)(x y:V):Prop:=(Leaf x/\x=y)\/∃(c:Bool) (a b:Nat) (xs ys:List V),x = .ref a/\y = .ref b/\yl c H a xs/\yl c H b ys/\Paired (R H) xs ys/\xs.length<=1000
noncomputable def HY:Hp->V->V->Prop:=λ_ _ _=>False
abbrev R1:=Like HY
abbrev I_:=Like R1
abbrev R3:=Like I_
theorem Good.congr{n:Nat}{R R':Nat->Nat->Bool}(G:Good n R)(h:∀a b,a<n->b<n->R' a b=R a b):Good n R':=by
 refine⟨λa ha=>by rw[h a a ha ha];exact G.refl a ha,λa b ha hb h1 h2=>G.anti a b ha hb (by rw[<- h a b ha hb];exact h1) (by rw[<- h b a hb ha];exact h2),λa b ha hb=>?_,λa b ha hb=>?_⟩
 ·obtain⟨c,hc,hx⟩:=G.join a b ha hb
  exact⟨c,hc,λx hx'=>by rw[h c x hc hx',h a x ha hx',h b x hb hx'];exact hx x hx'⟩
 ·obtain⟨c,hc,hx⟩:=G.meet a b ha hb
  exact⟨c,hc,λx hx'=>by rw[h x c hx' hc,h x a hx' ha,h x b hx' hb];exact hx x hx'⟩
theorem zT{n:Nat}{R R':Nat->Nat->Bool}(G:Good n R){ps:List (Nat × Nat)}(h1:∀p∈ps,R p.1 p.2=true)(h2:∀a b,a<n->b<n->a≠b->R a b=true->(a,b)∈ps)(hC:Ev.lK n ps R'):∀a b,a<n->b<n->R' a b=R a b:=by
 intro a b ha hb;rw[dw]
 constructor
 ·exact hC.least R G.refl h1 (λa b c ha hb hc=>G.trans ha hb hc) a b ha hb
 ·intro h
  by_cases e:a=b
  ·subst e;exact hC.refl a ha
  ·exact hC.has _ (h2 a b ha hb e h)
noncomputable def tX(C:Addr)(H:Hp)(p n:Nat)(R:Nat->Nat->Bool):Prop:=∃R',yQ C H p n R'/\∀a b,a<n->b<n->R' a b=R a b
section
variable {X:Cx} {C:Addr} {m:Str} {ps:List Str} {k k':Nat} {sp:Sp} {e o:Expr} {es:List Expr} {ta:TE} {t:TA} {apos pos:Pos} {pl:Sem Bool}
end
section
variable {P:Program} {w:World} {K:W.Frag} {mg:Str->Option Value} {base:Heap} {f:Addr} {fd:FuncData}
end
end My
namespace L2
open PySem PySem.Spec PyProof.Rows
theorem Uv{x y:Int}{t u:Tok}{c:Value}:∀(l:List Value),TriplesOk l->TriplesOk (l++[.int x t,.int y u,c]):=by
 intro l h
 fun_induction TriplesOk l with
 |case1=>exact trivial
 |case2 a b d e f r ih=>exact ih h
 |case3 l h1 h2=>exact False.elim h
noncomputable def HW(o:Obj)(qual:Str):Prop:=∃vs t,o.data = .fields vs/\vs[1]?=some (.str qual t)
noncomputable def lO(p:Addr)(qual:Str)(params:Arguments)(body:Expr)(scope:Scope)(cl:List (Str × Addr))(c:Addr):HO:=
 .ext λh=>∃pm ctv,h.get? p=some (W.kla_obj "<lambda>" qual params body scope cl pm c ctv)
structure cW (H:Hp) (p:Addr) (qual:Str) (params:Arguments) (body:Expr) (scope:Scope) (cl:List (Str × Addr)):Prop where
 ex:∃c o u,H c=some (.bY o u)/\HW o qual/\H p=some (lO p qual params body scope cl c)
section
variable {P:Program} {w:World} {H H':Hp} {h:Heap} {p:Addr} {qual:Str} {params:Arguments} {body:Expr} {scope:Scope} {cl:List (Str × Addr)}
theorem CT {c:Addr} {pm ctv:Value} (e:h.get? p=some (W.kla_obj "<lambda>" qual params body scope cl pm c ctv)):aN P w H h p (lO p qual params body scope cl c):=
 ⟨⟨pm,ctv,e⟩,⟨_,e⟩,λ_ _ ⟨pm,ctv,e⟩ k=>⟨pm,ctv,k _ e⟩⟩
theorem cW.same(L:cW H p qual params body scope cl)(s:Same H H'):cW H' p qual params body scope cl:=
 let⟨c,o,u,h1,h2,h3⟩:=L.ex;⟨c,o,u,s _ _ h1,h2,s _ _ h3⟩
theorem cW.get (L:cW H p qual params body scope cl) (ok:aU P w H h):∃c pm ctv,h.get? p=some (W.kla_obj "<lambda>" qual params body scope cl pm c ctv)/\h.CodeRec (.ref c) qual:=by
 obtain⟨c,o,u,h1,⟨vs,t,d1,d2⟩,h3⟩:=L.ex;obtain⟨⟨pm,ctv,e⟩,_⟩:=(show aN P w H h p (lO p qual params body scope cl c)from ok p _ h3);obtain⟨e2,_⟩:=ok c _ h1;exact⟨c,pm,ctv,e,c,o,vs,t,rfl,e2,d1,d2⟩
end
structure TabAt (base:Heap) (mg:Str->Option Value) (c P:Addr):Prop where
 hd:W.CodeHd base c P
 bm:∃bm ob,mg "__builtins__" = some (.ref bm)/\bm≠builtinsNs/\base.get? bm=some ob/\ob.cls = .type "module" /\ ob.dict=some builtinsNs/\ob.data = .plain
noncomputable def oE(P:Addr)(pos:Pos)(qual:Str)(params:Arguments)(body:Expr)(scope:Scope)(cl:List (Str × Addr)):TE:=λ_ H Q =>
 H P=some (.lam pos qual)/\∀p H1,Same H H1->H p=none->cW H1 p qual params body scope cl->Q (.ref p) H1
section
variable {X:Cx} {c P:Addr} {params:Arguments} {body:Expr} {scope:Scope} {pos:Pos}
theorem wQ(T:TabAt X.base X.mg c P)(hcode:X.env.code = .ref c)(B:X.Ok->∀x∈scope.names,x.2 = .free->∃cc,X.env.cells.lookup x.1=some cc)(hdef:defaultsOf params X.env=([],[]):=by rfl):
  PE X (.Lambda params body scope pos) (oE P pos (X.env.qual ++ "<lambda>") params body scope (bh X.env.cells scope.names [])):=by
 intro pins s σ H Q I ⟨hP,q⟩;refine W.kla_eval hdef ?_;obtain⟨ps,Be,ht,hc⟩:=(show aN X.prog X.w H s.heap P (.lam pos (X.env.qual ++ "<lambda>"))from I.hok P _ hP);have hg:s.heap.Ns mainGlobals X.mg:=I.mod.glob.keeps I.bk;have C:=T.hd.keeps I.bk;obtain⟨bm,ob,b1,b2,b3,b4,b5,b6⟩:=T.bm;have Dx:∀b o,X.base.get? b=some o->b≠P:=λb o e z=>by
  have:=(I.bs b o e).2;rw[z,hP]at this;cases this
 have hgP:mainGlobals≠P:=by
  obtain⟨o,es,ep,e,_⟩:=I.mod.glob;exact Dx _ o e
 have hbG:bm≠mainGlobals:=λz=>by
  obtain⟨o,es,ep,e,hd,_⟩:=I.mod.glob;rw[z,e]at b3;cases b3;rw[hd]at b6;cases b6
 have hb:s.heap.BuiltinsAt X.mg P:=⟨bm,ob,b1,b2,hbG,Dx _ _ b3,I.bk _ _ b3,b4,b5,b6⟩;cases hf:codeAmong pos ps.toList with
 |some cv =>
  obtain⟨c',o,u,vs,t,rfl,hz,hd,hv⟩:=hc _ hf;refine W.kla_makeFunctionHit (pK (B I.ok)) I.ok.glob hg hcode C Be ht hf hb λctv h' tk hk hsz=>?_;have I1:Inv X pins σ (upd H h'.objs.size (lO h'.objs.size (X.env.qual ++ "<lambda>") params body scope (bh X.env.cells scope.names []) c')) _:=
   I.laid (t':=tk) (λb u e=>aB (W.kla_obj "<lambda>" (X.env.qual ++ "<lambda>") params body scope (bh X.env.cells scope.names []) ((X.mg "__name__").getD .none) c' ctv) (hk b u e)) hsz (CT (aX _ rfl))
  have hn:H h'.objs.size=none:=I.hok.fresh hsz;exact⟨.ref h'.objs.size,_,I1,rfl,q _ _ (Same.put hn) hn ⟨c',o,u,Same.put hn _ _ hz,⟨vs,t,hd,hv⟩,av⟩⟩
 |none =>
  refine W.kla_makeFunction (pK (B I.ok)) I.ok.glob hg hcode C Be ht hf hgP hb λc' ctv h' tk hx hge hlt hrec htb=>?_;obtain⟨c2,oc,vs,t,e2,hoc,hd,hv⟩:=hrec;cases e2;have hn:H c'=none:=I.hok.fresh hge;have cP:c'≠P:=λz=>by rw[z,hP]at hn;cases hn
  have nP:∀b,H b=none->b≠P:=λb e z=>by rw[z,hP]at e;cases e
  have sm:Same H (upd H c' (.bY oc (.own c'))):=Same.put hn;have I1:Inv X pins σ (upd H c' (.bY oc (.own c'))) {s with heap:=h',toks:=tk}:=by
   refine I.un ⟨λb o e n _ _=>hx b o (nP b n) e,λb o e n _ _=>⟨o.slots,hx b o (nP b n) e⟩,λb o e n _=>?_,λb o e _=>?_,λb xs e=>sm _ _ e,λb o u e=>sm _ _ e,λb ps e=>⟨#[],by rw[sm _ _ e];simp⟩⟩ ?_
   ·rw[ax (aY (cz (aI e) hge))];exact n
   ·by_cases hb:b=P
    ·exact⟨_,by rw[hb];exact htb⟩
    ·exact⟨o,hx b o hb e⟩
   ·intro b u e
    by_cases hb:b=c'
    ·subst hb
     rw[av]at e;cases e;exact⟨hoc,oc,hoc⟩
    ·rw[ax hb]at e
     by_cases hb2:b=P
     ·subst hb2
      rw[hP]at e;cases e;have ea:(ps++#[rawInt pos.line,rawInt pos.col,.ref c']).toList=ps.toList++[rawInt pos.line,rawInt pos.col,.ref c']:=by simp
      refine⟨_,htb,?_,λcv z=>?_⟩
      ·rw[ea];exact Uv _ ht
      ·rw[ea,codeAmong_snoc _ ht hf]at z
       cases z;exact⟨c',oc,.own c',vs,t,rfl,av,hd,hv⟩
     ·refine(I.hok b u e).stay (λd v hd' r=>hx d v ?_ r) (λd r=>sm _ _ r) (λd xs r=>sm _ _ r) λd ob' u' r=>sm _ _ r
      rcases hd' with rfl|hd'
      ·exact hb2
      ·intro z;rw[z,hP]at hd';cases hd'
  have hsz:({s with heap:=h',toks:=tk}:Shared).heap.objs.size<=h'.objs.size:=aC _;have I2:Inv X pins σ (upd (upd H c' (.bY oc (.own c'))) h'.objs.size (lO h'.objs.size (X.env.qual ++ "<lambda>") params body scope (bh X.env.cells scope.names []) c')) _:=
   I1.laid (t':=tk) (λb u e=>aB (W.kla_obj "<lambda>" (X.env.qual ++ "<lambda>") params body scope (bh X.env.cells scope.names []) ((X.mg "__name__").getD .none) c' ctv) e) hsz (CT (aX _ rfl))
  have hn2:upd H c' (.bY oc (.own c')) h'.objs.size=none:=I1.fresh;exact⟨.ref h'.objs.size,_,I2,rfl,q _ _ (sm.trans (Same.put hn2)) (sm.free hn2) ⟨c',oc,.own c',Same.put hn2 _ _ av,⟨vs,t,hd,hv⟩,av⟩⟩
end
theorem Dg{α:Type}{x:Str}{u:α}:∀{l:List (Str × α)},(l.map (·.1)).Nodup->(x,u)∈l->l.lookup x=some u
 | [],_,h=>nomatch h
 | (y,v)::r,nd,h=>by
  rw[cH,gO]at nd;rw[fj]
  rcases aP.mp h with e|h2
  ·cases e;simp
  ·have:(x==y)=false:=by
    rw[jo];rintro rfl;exact nd.1 (cx.mpr ⟨_,h2,rfl⟩)
   rw[this];exact Dg nd.2 h2
theorem HF{α β:Type}:∀(l:List α) (m:List β),((l.zip m).map (·.1)).Sublist l
 | [],_=>by simp
 |_::_,[]=>by simp
 |a::l,b::m=>by rw[lV,cH];exact(HF l m).cons_cons a
theorem Vt{ps:List Str}{us:List Value}{i:Nat}{x:Str}{u:Value}(nd:ps.Nodup)(h1:ps[i]?=some x)(h2:us[i]?=some u):(ps.zip us).reverse.lookup x=some u:=by
 refine Dg ?_ (oY.mpr (cX (i:=i) ?_))
 ·rw[List.map_reverse]
  refine(List.reverse_perm _).nodup_iff.mpr (nd.sublist ?_);exact HF _ _
 ·rw[yx];exact⟨h1,h2⟩
structure lQ (ps fr:List Str) (sc:Scope):Prop where
 kind:sc.kind = .function
 co:sc.isCoroutine=false
 gen:sc.isGenerator=false
 nd:(ps++fr).Nodup
 nQ:∀y∈sc.names,y.2≠.cell
 par:∀x∈ps,sc.names.lookup x=some .local
 K6:∀x∈fr,sc.names.lookup x=some .free
noncomputable def kD(P:Program)(w:World)(K:W.Frag)(mg:Str->Option Value)(base:Heap)(N:List Str)(qual:Str)(scope:Scope)(p:Addr)(cd:Value)(cl:List (Str × Addr))(A:Around)(outer:List Env)(s:Shared)(H:Hp):Cx where
 prog:=P
 w:=w
 K:=K
 mg:=mg
 base:=base
 A:=A.deeper (W.envX qual scope s.heap.objs.size p cd cl)
 N:=N
 s₀:=s
 H₀:=H
 env:=W.envX qual scope s.heap.objs.size p cd cl
 outer:=outer
 stack:=W.envX qual scope s.heap.objs.size p cd cl::outer
 ex:=[]
 calm:=true
 fn:=λ_=>false
 pn:=[]
 xe:=λ_ _=>False
section
variable {P:Program} {w:World} {K:W.Frag} {mg:Str->Option Value} {base:Heap} {A:Around} {outer:List Env} {s:Shared} {H:Hp} {p c:Addr} {qual:Str} {params:Arguments} {body:Expr} {scope:Scope} {cl:List (Str × Addr)}
 {ps fr:List Str} {vs:List V} {us:List Value} {zs:St} {pm ctv:Value} {Q:VK} {t:TE}
structure j4 (h:Heap) (H:Hp) (scope:Scope) (cl:List (Str × Addr)) (fr:List Str) (zs:St):Prop where
 cell:∀x cc,cl.lookup x=some cc->(∃v,h.IsCell cc v)/\H cc=none
 inj:∀x y cc,cl.lookup x=some cc->cl.lookup y=some cc->x=y
 has:∀x,scope.names.lookup x=some .free->∃cc,cl.lookup x=some cc
 len:zs.length=fr.length
 val:∀(i:Nat) x v,fr[i]?=some x->zs[i]?=some (some v)->∃cc u,cl.lookup x=some cc/\h.IsCell cc (some u)/\RelV v u
theorem Ol(S:lQ ps fr scope)(hd:A.handled=none)(e0:eG P w K mg base A outer s H)(hl:vs.length=ps.length)(r:Vals vs us)(L:j4 s.heap H scope cl fr zs){cd:Value}{h₁:Heap}{tk:Nat}(hns:h₁.Ns s.heap.objs.size λx=>(ps.zip us).reverse.lookup x)(hk:∀b o,s.heap.get? b=some o->h₁.get? b=some o):
  Inv (kD P w K mg base (ps++fr) qual scope p cd cl A outer s H) [] (vs.map some++zs) H {s with heap:=h₁,toks:=tk}:=by
 have iu:∀b:Addr,b ∉ (kD P w K mg base (ps++fr) qual scope p cd cl A outer s H).ex:=λb z=>absurd (show b∈([]:List Addr)from z) (by simp);refine⟨⟨e0.mod,S.kind,rfl,rfl,aC _,L.inj,λy hy=>?_,λy c h=>(nomatch h),λ_=>hd,Around.frames_deeper e0.frames,.inr ⟨rfl,rfl⟩,λb z=>absurd z (iu b),e0.bs,e0.dB,λb _ _=>iu b,λb z=>absurd z (iu b),e0.bZ,e0.eQ⟩,
  rfl,e0.bare,Un.kept hk,⟨_,hns,λi y v h1 h2 h3=>?_⟩,λy cc h=>?_,e0.hok.fresh (aC _),λy cc h=>(L.cell y cc h).2,λq hq=>absurd (show q∈([]:List (Addr × Obj))from hq) (by simp),e0.hok.kept hk,?_⟩
 ·have hy:scope.names.lookup y=some .cell\/scope.names.lookup y=some .free:=hy
  rcases hy with hy|hy
  ·exact absurd rfl (S.nQ _ (gq hy))
  ·exact L.has y hy
 ·have h1:(ps++fr)[i]?=some y:=h1
  by_cases hi:i<vs.length
  ·rw[j6 (by simpa using hi),bT]at h2
   rw[j6 (by omega)]at h1;cases e:vs[i]? with
   |none=>rw[e]at h2;cases h2
   |some a =>
    rw[e]at h2;cases h2;obtain⟨u,hu,rv⟩:=r.get e;exact⟨u,rv,.inl ⟨S.par y (cX h1),Vt (S.nd.sublist (List.sublist_append_left _ _)) h1 hu⟩⟩
  ·rw[jh (by simpa using hi),ay]at h2
   rw[jh (by omega)]at h1;rw[hl]at h2;obtain⟨cc,u,e1,e2,e3⟩:=L.val _ y v h1 h2;exact⟨u,e3,.inr ⟨.inr (S.K6 y (cX h1)),cc,e1,e2.keeps hk⟩⟩
 ·obtain⟨⟨v,z⟩,_⟩:=L.cell y cc h
  exact⟨v,z.keeps hk⟩
 ·show _=(ps++fr).length
  rw[dm,ay,dm,L.len,hl]
theorem CQ (S:lQ ps fr scope) (hr:A.depth<recursionLimit) (hd:A.handled=none) (e0:eG P w K mg base A outer s H) (ho:s.heap.get? p=some (W.kla_obj "<lambda>" qual params body scope cl pm c ctv)) (hcd:s.heap.CodeRec (.ref c) qual)
  (hb:bindArgs (W.kla_fn "<lambda>" qual params body scope cl pm (.ref c) ctv) ⟨us,[]⟩=pure (ps.zip us)) (hl:vs.length=ps.length) (r:Vals vs us) (L:j4 s.heap H scope cl fr zs)
  (hbody:PE (kD P w K mg base (ps++fr) qual scope p (.ref c) cl A outer s H) body t) (hq:t (vs.map some++zs) H Q) :
  codeAny (model P w) A (.call (.ref p) ⟨us,[]⟩) (λr s'=>∃u,r = .ok (.ret u)/\CE outer P w H s Q u s') s:=by
 have lim:s.heap.NoLimit:=e0.mod.nolimit.keeps λb o e=>(e0.bs b o e).1;refine W.kla_callFunE hr ho rfl S.co S.gen rfl hcd ?_;rw[hb];refine ah (wpAny_newFunctionEnv S.nQ (λx hx=>S.par _ (oZ hx).1) (λh₁ hns hsb=>?_) S.kind);have hk:∀b o,s.heap.get? b=some o->h₁.get? b=some o:=λb o e=>hsb.extBut b o (aY (aI e)) (aB _ e);refine⟨lim.keeps hk,?_⟩;show codeAny _ _ (.expr body (W.envX qual scope s.heap.objs.size p (.ref c) cl)) _ _;have I:=Ol (qual:=qual) (p:=p) (cd:=.ref c) (tk:=s.toks+(ps.zip us).length) S hd e0 hl r L hns hk;refine W.kla_codeExpr (dg (hbody [] _ _ H Q I hq) (λv s' ⟨x,H',J,rv,q⟩=>?_) λ_ _ z=>False.elim z);exact⟨v,rfl,x,H',J.os,J.bare,J.base,J.hok,rv,q⟩
end
section
variable {X:Cx} {pins:List (Addr × Obj)} {σ:St} {H:Hp} {s:Shared} {p:Addr} {qual:Str} {params:Arguments} {body:Expr} {scope:Scope} {ps:List Str} {fr:List (Str × Nat)} {A:Around} {t:TE} {Q:VK} {vs:List V} {us:List Value} {E:Value->Shared->Prop}
noncomputable def lamσ(fr:List (Str × Nat))(σ:St):St:=fr.map λq=>σ.getD q.2 none
theorem CP(B:d3 X scope fr)(I:Inv X pins σ H s):j4 s.heap H scope (bh X.env.cells scope.names []) (fr.map (·.1)) (lamσ fr σ) where
 cell:=λx cc h=>⟨I.cell x cc (B.sub I.ok h),I.cJ x cc (B.sub I.ok h)⟩
 inj:=λx y cc h1 h2=>I.ok.inj x y cc (B.sub I.ok h1) (B.sub I.ok h2)
 has:=λx h=>mY (gq h)
 len:=by unfold lamσ;simp
 val:=λi x v e1 e2=>by
  unfold lamσ at e2;rw[bT]at e1 e2;cases hp:fr[i]? with
  |none=>rw[hp]at e1;cases e1
  |some q =>
   rw[hp]at e1 e2;simp only[yP,tW]at e1 e2;obtain⟨i1,i2⟩:=B.ix q (cX hp);subst e1;have e2':σ[q.2]?=some (some v):=by
    rw[aQ]at e2;cases z:σ[q.2]? with
    |none=>rw[z]at e2;cases e2
    |some y=>rw[z]at e2;exact congrArg some e2
   have kX:X.env.kindOf q.1=some .cell\/X.env.kindOf q.1=some .free:=B.free (q.1,.free) (gq i2) rfl;obtain⟨m',hn',hl'⟩:=I.loc;obtain⟨u,r,l⟩:=hl' q.2 q.1 v i1 e2' (.inr kX)
   rcases l with⟨k,_⟩|⟨_,cc,hc,z⟩
   ·rcases kX with w|w<;>(rw[k]at w;cases w)
   ·obtain⟨c',hc'⟩:=mY (cells:=X.env.cells) (acc:=[]) (gq i2)
    have:=B.sub I.ok hc';rw[hc]at this;cases this;exact⟨cc,u,hc',z,r⟩
theorem Oi(B:d3 X scope fr)(S:lQ ps (fr.map (·.1)) scope)(I:Inv X pins σ H s)(L:cW H p qual params body scope (bh X.env.cells scope.names []))(hA:A.frames=X.A.frames)(hr:A.depth<recursionLimit)(hd:A.handled=none)
  (hb:∀(cl:List (Str × Addr)) (pm cd ctv:Value) (us:List Value),us.length=ps.length->bindArgs (W.kla_fn "<lambda>" qual params body scope cl pm cd ctv) ⟨us,[]⟩=pure (ps.zip us))
  (hbody:∀(c:Addr),PE (kD X.prog X.w X.K X.mg X.base (ps++fr.map (·.1)) qual scope p (.ref c) (bh X.env.cells scope.names []) A X.stack s H) body t)
  (hl:vs.length=ps.length) (r:Vals vs us) (hq:t (vs.map some++lamσ fr σ) H Q):wpAny (model X.prog X.w) A (call (.ref p) us) (EP X pins σ Q) E s:=by
 obtain⟨c,pm,ctv,ho,hcd⟩:=L.get I.hok;have e0:=I.env0;have e1:eG X.prog X.w X.K X.mg X.base A X.stack s H:=⟨hA.trans e0.frames,e0.mod,e0.bs,e0.dB,e0.bZ,e0.eQ,e0.hok,e0.bare⟩;refine iL (eL (CQ S hr hd e1 ho hcd (hb _ _ _ _ _ (by rw[<- r.length];exact hl)) hl r (CP B I) (hbody c) hq) λr s' ⟨u,e,hq⟩=>?_);subst e;exact I.after hq
end
theorem nL:∀{ns:List Int} {vs:List Value},Vals (ns.map V.int) vs->IntsAre vs ns
 | [],_,.nil=>.nil
 |n::ns,_,.cons r t=>by
  obtain⟨k,rfl⟩:=r;exact .cons n k (nL t)
theorem QB{α β:Type}{R:α->β->Prop}{l' m':List β}(h:m'.Perm l'):∀{l:List α},Paired R l l'->∃m,m.Perm l/\Paired R m m':=by
 induction h with
 |nil=>intro l p;exact⟨l,.refl _,p⟩
 |cons x _ ih =>
  intro l p;cases p with
  |cons r t =>
   obtain⟨m,h1,h2⟩:=ih t;exact⟨_::m,h1.cons _,.cons r h2⟩
 |swap x y l =>
  intro l p;cases p with
  |cons r t =>
   cases t with
   |cons r' t'=>exact⟨_,.swap _ _ _,.cons r' (.cons r t')⟩
 |trans _ _ ih1 ih2 =>
  intro l p;obtain⟨m1,h1,h2⟩:=ih2 p;obtain⟨m2,h3,h4⟩:=ih1 h2;exact⟨m2,h3.trans h1,h4⟩
noncomputable def mE(kz:List Int)(xs ys:List V):Prop:=∃ps:List (Int × V),ps.Perm (kz.zip xs)/\ys=ps.map Prod.snd/\ps.Pairwise λp q=>p.1<=q.1
theorem HJ:∀{kz:List Int} {xs:List V} {us:List Value},Vals xs us->Paired (λ(p:Int × V) (q:Int × Value)=>p.1=q.1/\RelV p.2 q.2) (kz.zip xs) (kz.zip us)
 | [],_,_,_=>by simp;exact .nil
 |_::_,_,_,.nil=>by simp;exact .nil
 |k::kz,_,_,.cons r t=>by rw[lV,lV];exact .cons ⟨rfl,r⟩ (HJ t)
theorem Ez:∀{l:List (Int × V)} {m:List (Int × Value)},Paired (λ(p:Int × V) (q:Int × Value)=>p.1=q.1/\RelV p.2 q.2) l m->Vals (l.map Prod.snd) (m.map Prod.snd)/\l.map Prod.fst=m.map Prod.fst
 |_,_,.nil=>⟨.nil,rfl⟩
 |_,_,.cons r t=>by
  obtain⟨h1,h2⟩:=Ez t;exact⟨.cons r.2 h1,by rw[cH,cH,h2,r.1]⟩
theorem Tf{kz:List Int}{xs:List V}{us out:List Value}(r:Vals xs us)(h:KskOut false kz us out):∃ys,Vals ys out/\mE kz xs ys:=by
 obtain⟨qs,h1,h2,h3⟩:=h;obtain⟨ps,g1,g2⟩:=QB h1 (HJ (kz:=kz) r);obtain⟨g3,g4⟩:=Ez g2;refine⟨ps.map Prod.snd,by rw[h2];exact g3,ps,g1,rfl,?_⟩;have h5:(qs.map Prod.fst).Pairwise (·<=·):=by
  rw[f7];exact h3.imp λ{a b} z=>z
 rw[<- g4,f7]at h5;exact h5
section
variable {prog:Program} {w:World} {A:Around} {E:Value->Shared->Prop} {s:Shared} {a kS:Addr} {e1:Nat} {keys:Array Value} {its:List Value} {kz:List Int}
end
noncomputable def Ja(K:W.Frag)(H:Hp)(v:V)(xs:List V):Prop:=
 (∃r n,v = .ref r/\H r=some (.rng 0 n)/\-(2 ^ 62)<=n/\n<2 ^ 62/\xs=(List.range n.toNat).map λ(i:Nat)=>V.int i)\/(∃r,v = .ref r/\ao K H r xs)
section
variable {X:Cx} {pins:List (Addr × Obj)} {σ:St} {H:Hp} {s:Shared} {A:Around} {E:Value->Shared->Prop}
theorem U5{its:Array Value}{n:Nat}(h:ItemsOf (λi v=>∃t,v=Value.int (0+(i:Nat)*1) t) its n):Vals ((List.range n).map λ(i:Nat)=>V.int i) its.toList:=by
 have go:∀(us:List Value) (k:Nat),(∀(j:Nat) v,us[j]?=some v->∃t,v=Value.int ((k+j:Nat):Int) t)->Vals ((List.range' k us.length).map λ(i:Nat)=>V.int i) us:=by
  intro us
  induction us with
  |nil=>intro k _;exact .nil
  |cons u us ih =>
   intro k hu;rw[fE,List.range'_succ,cH];refine .cons ?_ (ih (k+1) λj v e=>?_)
   ·obtain⟨t,e⟩:=hu 0 u rfl
    exact⟨t,by simpa using e⟩
   ·obtain⟨t,e⟩:=hu (j+1) v (by simpa using e)
    exact⟨t,by rw[e];congr 1;omega⟩
 have:=go its.toList 0 λj v e=>by
  obtain⟨t,q⟩:=h.2 j v (by simpa using e);exact⟨t,by rw[q];congr 1;simp⟩
 rw[fC,h.1]at this;rw[List.range_eq_range'];exact this
theorem JX{v:V}{u:Value}{xs:List V}{R:List Value->Shared->Prop}(hh:A.handled=none)(I:Inv X pins σ H s)(r:RelV v u)(h:Ja X.K H v xs)(hz:xs.length<=2 ^ 24)(q:∀its s',Vals xs its->Inv X pins σ H s'->R its s'):wpAny (model X.prog X.w) A (collect u) R E s:=by
 have VN:(2:Nat) ^ 24<=sizeLine:=by decide +kernel
 rcases h with⟨a,n,rfl,ha,b1,b2,rfl⟩|⟨a,rfl,ha⟩
 ·obtain rfl:u = .ref a:=r
  obtain⟨t,t',t'',ea⟩:=(show aN X.prog X.w H s.heap a (.rng 0 n)from I.hok a _ ha);have sz:n.toNat<=2 ^ 24:=by simpa using hz
  unfold collect;refine ae (uf (gU yU ?_));show wpAny _ _ (newList []>>=λl=>again (.builtin "list.__iadd__" ⟨[l,.ref a],[]⟩)) _ _ s;have old:∀b o,s.heap.get? b=some o->(s.heap.push (seqObj "list" #[] 0)).get? b=some o:=λb o e=>aB _ e;have add:codeAny (model X.prog X.w) A (.builtin "list.__iadd__" ⟨[.ref s.heap.objs.size,.ref a],[]⟩) (λr s'=>r = .ok (.ret (.ref s.heap.objs.size))/\∃h' tk acc c',s' = {s with heap:=h',toks:=tk}/\(∀b o,s.heap.get? b=some o->h'.get? b=some o) /\
    h'.get? s.heap.objs.size=some {cls:=.type "list", dict:=none,data:=.seq acc c',slots:=#[]}/\Vals ((List.range n.toNat).map λ(i:Nat)=>V.int i) acc.toList) {s with heap:=s.heap.push (seqObj "list" #[] 0)}:=by
   refine gU entry_list_iadd' ?_;show wpAny _ A.in1 (Builtin.List.listExtendWith (.ref s.heap.objs.size) (.ref a) (.ref s.heap.objs.size)) _ _ _;exact wpAny_extend_range (s:={s with heap:=s.heap.push (seqObj "list" #[] 0)}) (R:=λr s'=>r = .ok (.ret (.ref s.heap.objs.size))/\∃h' tk acc c',s' = {s with heap:=h',toks:=tk}/\(∀b o,s.heap.get? b=some o->h'.get? b=some o) /\
    h'.get? s.heap.objs.size=some {cls:=.type "list", dict:=none,data:=.seq acc c',slots:=#[]}/\Vals ((List.range n.toNat).map λ(i:Nat)=>V.int i) acc.toList)
    (n:=n.toNat) hh (old _ _ ea) (small_one (by omega) (by omega) b1 b2) (by rw[rangeSize_one];split<;>omega) sz s.heap.objs.size (.ref s.heap.objs.size) 0 (aX _ rfl) λh' tk acc c' hk hS hacc =>
     ⟨rfl,h',tk,acc,c',rfl,λb o e=>hk b o (aY (aI e)) (old b o e),hS,U5 hacc⟩
  refine ae (jm (ah ⟨tY _ (by decide +kernel),eL add λr s' hr=>?_⟩));obtain⟨rfl,h',tk,acc,c',rfl,hk,hS,hv⟩:=hr;show wpAny _ A (load s.heap.objs.size>>=λo=>match o.data with | .seq xs _=>pure xs.toList|_=>unsupported "internal:collect") _ _ _;refine ae (wpAny_load hS ?_);exact ah (q _ _ hv (I.kept hk))
 ·obtain rfl:u = .ref a:=r
  obtain⟨its,hl,rv⟩:∃its:List Value,s.heap.IsList a its.toArray/\Vals xs its:=by
   rcases ha with ha|⟨o,its,n,e1,e2,e0,e3,e4,e6⟩
   ·obtain⟨_,its,n,rv,e⟩:=ha.ok I.hok
    exact⟨its,⟨_,e,rfl,n,rfl⟩,rv⟩
   ·exact⟨its.toList,⟨o,I.bM _ _ e1,e2,n,by simpa using e3⟩,e6⟩
  refine collect_list hl (q _ _ rv (I.kept λb o e=>?_)) (by rw[<- rv.length];omega);rw[mB _ _ _ _ (aY (aI e))];exact aB _ e
end
section
variable {X:Cx} {pins:List (Addr × Obj)} {σ:St} {G0:Hp} {s:Shared} {A:Around} {E:Value->Shared->Prop} {a kS p:Addr} {e1:Nat} {qual x:Str} {params:Arguments} {body:Expr} {scope:Scope} {fr:List (Str × Nat)} {tb:TE}
 {xs:List V} {its:List Value} {R:PySem.Fin->Shared->Prop} {Kp:Nat->V->Hp->Prop}
structure oR (X:Cx) (qual x:Str) (params:Arguments) (body:Expr) (scope:Scope) (fr:List (Str × Nat)) (tb:TE):Prop where
 blk:d3 X scope fr
 sc:lQ [x] (fr.map (·.1)) scope
 bind:∀(cl:List (Str × Addr)) (pm cd ctv:Value) (us:List Value),us.length=1->bindArgs (W.kla_fn "<lambda>" qual params body scope cl pm cd ctv) ⟨us,[]⟩=pure ([x].zip us)
 run:∀(A:Around) (s:Shared) (H:Hp) (p c:Addr),A.guards=X.A.guards->A.units<=X.A.units+2->A.depth=X.A.depth->PE (kD X.prog X.w X.K X.mg X.base ([x]++fr.map (·.1)) qual scope p (.ref c) (bh X.env.cells scope.names []) A X.stack s H) body tb
theorem sort_keys(hA:A.frames=X.A.frames)(hd:A.handled=none)(hr:A.depth<recursionLimit)(kN:A.guards=X.A.guards/\A.units<=X.A.units+2/\A.depth=X.A.depth)(KL:oR X qual x params body scope fr tb)(hlen:its.length<1000)
  (I:Inv X ((a,seqObj "list" #[] e1)::pins) σ G0 s) (hkS:G0 kS=some (.lst [])) (L:cW G0 p qual params body scope (bh X.env.cells scope.names [])) (rv:Vals xs its)
  (mono:∀i z H H',Kp i z H->ck kS H H'->Kp i z H') (turn:∀(i:Nat) y,xs[i]?=some y->∀H3,ck kS G0 H3->(∃kv,H3 kS=some (.lst kv))->tb (some y::lamσ fr σ) H3 λz H4=>Kp i z H4/\Same H3 H4)
  (fin:∀(kv:List V) (G:Hp) (s':Shared) (keys:List Value) (n:Nat),kv.length=xs.length->(∀(i:Nat) z,kv[i]?=some z->Kp i z G)->Inv X ((a,seqObj "list" #[] e1)::pins) σ G s'->G kS=some (.lst kv)->ck kS G0 G ->
   s'.heap.get? kS=some (seqObj "list" keys.toArray n)->Vals kv keys->wpAny (model X.prog X.w) A (ksk_end a false its.toArray e1 (.ref kS) keys.toArray) R E s') :
  wpAny (model X.prog X.w) A (ksk_rest a (.ref p) false its.toArray e1 (.ref kS)) R E s:=by
 have big:(1000:Nat)<=sizeLine:=by decide +kernel
 unfold ksk_rest;refine ae (iM (ae ?_))
 first
  |rw[List.forIn_toArray]
  |rw[<- Array.forIn_toList]
 refine ksk_fold (λi s'=>∃(kv:List V) (G:Hp),kv.length=i/\(∀(j:Nat) z,kv[j]?=some z->Kp j z G)/\Inv X ((a,seqObj "list" #[] e1)::pins) σ G s'/\G kS=some (.lst kv)/\ck kS G0 G) its 0 s
  ⟨[],G0,rfl,λj z e=>by simp at e,I,hkS,λb o _ e=>e⟩ ?_ ?_
 ·rintro j v s' hv ⟨kv,G,hl,hK,J,hG,sm⟩
  rw[Nat.zero_add]at hl ⊢;obtain⟨y,hy,ry⟩:∃y,xs[j]?=some y/\RelV y v:=by
   have hj:j<xs.length:=by rw[rv.length];exact(cw.mp hv).1
   obtain⟨u,e1,e2⟩:=rv.get (aK hj);rw[hv]at e1;cases e1;exact⟨_,aK hj,e2⟩
  have hj:j<its.length:=(cw.mp hv).1;have LG:cW G p qual params body scope (bh X.env.cells scope.names []):=by
   obtain⟨c,o,u,h1,h2,h3⟩:=L.ex;exact⟨c,o,u,sm _ _ (iq h1 hkS (by intro z;cases z)) h1,h2,sm _ _ (iq h3 hkS (by intro z;cases z)) h3⟩
  refine ae (fL (dg (Oi (E:=λ_ _=>False) KL.blk KL.sc J LG hA hr hd KL.bind (λc=>KL.run A s' G p c kN.1 kN.2.1 kN.2.2) (vs:=[y]) (us:=[v]) rfl (.cons ry .nil) (turn j y hy G sm ⟨_,hG⟩)) (λk s2 ⟨z,H4,J4,rz,hz,s4⟩=>?_) λ_ _ z=>z.elim));have g4:=s4 _ _ hG;obtain⟨_,ks,n,rk,lk,ek⟩:=J4.jH g4;refine ae (mx ek rfl ?_ (by show(ks.toArray).size<=sizeLine;rw[bz];omega) (by show(ks.toArray.push k).size<=sizeLine+1;rw[Array.size_push,bz];omega));have J5:=J4.qw (f:=(·.push k)) (its':=ks++[k]) (ys:=kv++[z]) (t':=s2.toks) g4 ek (by simp) (rk.append (.cons rz .nil)) (by rw[dm,tK];omega);have sx:ck kS H4 (upd H4 kS (.lst (kv++[z]))):=λb o hb e=>by rw[ax hb];exact e
  refine ah ⟨rfl,kv++[z],_,by rw[dm,tK,hl],λi q e=>?_,J5,av,λb o hb e=>sx b o hb (s4 b o (sm b o hb e))⟩
  by_cases hi:i<kv.length
  ·rw[j6 hi]at e
   exact mono _ _ _ _ (mono _ _ _ _ (hK i q e) λb o _ e=>s4 b o e) sx
  ·rw[jh (ji hi)]at e
   have hi2:i - kv.length=0:=by
    have:=(cw.mp e).1;rw[tK]at this;omega
   rw[hi2]at e;cases e;obtain rfl:i=j:=by omega
   exact mono _ _ _ _ hz sx
 ·rintro s' ⟨kv,G,hl,hK,J,hG,sm⟩
  obtain⟨_,ks,n,rk,lk,ek⟩:=J.jH hG;refine ae (mw ek rfl ?_);exact fin kv G s' ks n (by rw[hl,rv.length];omega) hK J hG sm ek rk
theorem Tc {keys:List Value} {n:Nat} {G:Hp} {kv:List V} {st:SortSt} {ys:List V} {out:List Value} (I:Inv X ((a,seqObj "list" #[] e1)::pins) σ G s) (hkS:G kS=some (.lst kv)) (ek:s.heap.get? kS=some (seqObj "list" keys.toArray n))
  (hz:keys.length<=sizeLine) (fa:cu X pins G a) (hf:failedOf st=none) (ho:((arrOf st).map (·.2)).toList=out) (rv:Vals ys out) (Nq:out.length<=sizeLine)
  (q:∀s',Inv X pins σ (upd (upd G kS (.lst [])) a (.lst ys)) s'->R (.done (.ret .none)) s'):wpAny (model X.prog X.w) A (ksk_tail a false e1 (.ref kS) st) R E s:=by
 have ea:=(I.pin (a,seqObj "list" #[] e1) (eI _ (bO ..))).1;have DN:a≠kS:=λz=>by rw[<- z,fa.1]at hkS;cases hkS
 have ho':(arrOf st).map (·.2)=out.toArray:=by rw[<- ho]
 unfold ksk_tail;dsimp only;refine ae (mx ek rfl ?_ (by show(keys.toArray).size<=sizeLine;rw[bz];exact hz) (cA _));have J1:=I.qw (f:=λ_=>#[]) (its':=[]) (ys:=[]) (t':=s.toks) hkS ek rfl .nil (cA _);have kG:(s.heap.update kS (Obj.mapSeq λ_=>(#[]:Array Value))).get? a=some (seqObj "list" #[] e1):=by rw[mB _ _ _ _ DN];exact ea
 refine ae (ua (ae (seqEpoch_at kG rfl (ae (mx kG rfl ?_ (cA _) (by show((arrOf st).map (·.2)).size<=sizeLine+1;rw[ho',bz];omega))))));rw[hf];simp only[bne_self_eq_false,fc,dC];refine ah (q _ ?_);have K1:Inv X pins σ (upd G kS (.lst [])) {s with heap:=s.heap.update kS (Obj.mapSeq λ_=>(#[]:Array Value)),toks:=s.toks}:=J1.qU λp hp=>(J1.pin p (eI _ (bI _ hp)));have gn:upd G kS (.lst []) a=none:=by rw[ax DN];exact fa.1
 have keep:∀b o,b≠a->(s.heap.update kS (Obj.mapSeq λ_=>(#[]:Array Value))).get? b=some o->((s.heap.update kS (Obj.mapSeq λ_=>(#[]:Array Value))).update a (Obj.mapSeq λ_=>(arrOf st).map (·.2))).get? b=some o:=λb o hb e=>by
  rw[mB _ _ _ _ hb];exact e
 have hit:∃c,((s.heap.update kS (Obj.mapSeq λ_=>(#[]:Array Value))).update a (Obj.mapSeq λ_=>(arrOf st).map (·.2))).get? a=some (seqObj "list" out.toArray c):=by
  rw[ho'];exact⟨_,pe kG λ_=>out.toArray⟩
 obtain⟨c,hit⟩:=hit;have jL:∀b u,upd G kS (.lst []) b=some u->b≠a:=λb u e z=>by rw[z,gn]at e;cases e
 refine Inv.step (s:={s with heap:=s.heap.update kS (Obj.mapSeq λ_=>(#[]:Array Value)),toks:=s.toks}) (g':=s.gens) (d':=s.drawn) (t':=s.toks) (ch:=[a]) K1 (λb hb=>?_) (λb o _ _ hc e _=>keep b o (λz=>hc (by simp[z])) e) (λb o _ _ hc e _=>⟨o.slots,keep b o (λz=>hc (by simp[z])) e⟩) (λb o hc _ n=>?_) (λb o hc e=>⟨o,keep b o (λz=>hc (by simp[z])) e⟩)
  (λb zs e=>?_) (λb o u e=>?_) (λb ps e=>?_) (λm hm=>?_) (λb u e=>?_) K1.bare
 ·obtain rfl:b=a:=by simpa using hb
  exact⟨fa.2.2.2.1,fa.2.1,fa.2.2.2.2.1,fa.2.2.2.2.2⟩
 ·rw[ax (λz=>hc (by simp[z]))];exact n
 ·rw[ax (jL b _ e)];exact e
 ·rw[ax (jL b _ e)];exact e
 ·exact⟨#[],by rw[ax (jL b _ e),e];simp⟩
 ·obtain⟨o,es,ep,h1,h2⟩:=hm
  exact⟨o,es,ep,keep _ o fa.2.1.symm h1,h2⟩
 ·by_cases hb:b=a
  ·subst hb
   rw[av]at e;cases e;exact⟨by rw[rv.length];exact Nq,out,c,rv,hit⟩
  ·rw[ax hb]at e
   refine(K1.hok b u e).stay (λd v hd' r=>keep d v ?_ r) (λd r=>by rw[ax (jL d _ r)];exact r) (λd xs r=>by rw[ax (jL d _ r)];exact r) λd ob u r=>by rw[ax (jL d _ r)];exact r
   rcases hd' with rfl|hd'
   ·exact hb
   ·exact jL d _ hd'
end
section
variable {X:Cx} {pins:List (Addr × Obj)} {σ:St} {H:Hp} {s:Shared} {qual x:Str} {params:Arguments} {body:Expr} {scope:Scope} {fr:List (Str × Nat)} {tb:TE} {p:Addr} {v:V} {u:Value} {xs:List V} {kz:List Int} {Q:VK} {E:Value->Shared->Prop}
end
section
variable {X:Cx} {x:Str} {params:Arguments} {body e:Expr} {scope:Scope} {fr:List (Str × Nat)} {tb ti:TE} {c P:Addr} {p0 bW kpos pos:Pos}
noncomputable def qI(B:V->Hp->Prop):List V->Hp->Prop:=λvs H=>match vs with
 | [v]=>B v H
 |_=>False
theorem qI.get{B:V->Hp->Prop}{vs:List V}{H:Hp}(h:qI B vs H):∃v,vs = [v]/\B v H:=by
 unfold qI at h
 split at h
 ·exact⟨_,rfl,h⟩
 ·exact h.elim
end
section
variable {P:Program} {w:World} {K:W.Frag} {mg:Str->Option Value} {base:Heap}
end
theorem Mod.ext{K:W.Frag}{mg:Str->Option Value}{base base':Heap}(M:Mod K mg base)(h:∀b o,base.get? b=some o->base'.get? b=some o):Mod K mg base':=
 ⟨M.ik.keeps h,M.glob.keeps h,let⟨mb,h1,h2⟩:=M.blt;⟨mb,h1.keeps h,h2⟩,M.nolimit.keeps h⟩
theorem frames_at{h base:Heap}:∀{l:List Env},h.FunFrames base l->∀b∈frs l,∃o,h.get? b=some o/\base.get? b=none
 | [],_,b,hb=>by simp[frs]at hb
 |env::rest,⟨_,⟨L,o,e1,e2,e3,_⟩,r⟩,b,hb=>by
  unfold frs at hb;rw[gN,e1]at hb
  rcases aP.mp hb with rfl|hb
  ·exact⟨o,e3,e2⟩
  ·exact frames_at r b hb
theorem Au{h base base':Heap}:∀{l:List Env},h.FunFrames base l->(∀b∈frs l,base'.get? b=none)->h.FunFrames base' l
 | [],_,_=>trivial
 |env::rest,⟨k,⟨L,o,e1,e2,e3,e4⟩,r⟩,hb=>by
  have e5:frs (env::rest)=L::frs rest:=by unfold frs;rw[gN,e1]
  exact⟨k,⟨L,o,e1,hb L (by rw[e5];exact bO),e3,e4⟩,Au r λb h'=>hb b (by rw[e5];exact bI _ h')⟩
section
variable {X:Cx} {pins:List (Addr × Obj)} {σ:St} {H:Hp} {s:Shared}
theorem Inv.grow(I:Inv X pins σ H s)(hfn:∀x,X.fn x=true):∃base':Heap,(∀b o,X.base.get? b=some o->base'.get? b=some o)/\(∀x cc v,X.env.cells.lookup x=some cc->s.heap.IsCell cc v->base'.IsCell cc v)/\eG X.prog X.w X.K X.mg base' X.A X.stack s H:=by
 classical
 let Hs:Hp:=λb=>if(∃o,X.base.get? b=some o)\/∃x,X.env.cells.lookup x=some b then none else some (.own b)
 have h1:∀b,Hs b=none->(∃o,X.base.get? b=some o)\/∃x,X.env.cells.lookup x=some b:=λb e=>by
  show(∃o,X.base.get? b=some o)\/∃x,X.env.cells.lookup x=some b
  by_cases h:(∃o,X.base.get? b=some o)\/∃x,X.env.cells.lookup x=some b
  ·exact h
  ·have:Hs b=some (.own b):=if_neg h
   rw[this]at e;cases e
 have h2:∀b,((∃o,X.base.get? b=some o)\/∃x,X.env.cells.lookup x=some b)->Hs b=none:=λb h=>if_pos h;have keep:∀b o,X.base.get? b=some o->(eh s.heap Hs).get? b=some o:=λb o e=>vv (I.bk b o e) (h2 b (.inl ⟨o,e⟩));refine⟨eh s.heap Hs,keep,λx cc v e ⟨o,e1,e2⟩=>⟨o,vv e1 (h2 cc (.inr ⟨x,e⟩)),e2⟩,?_⟩;have bs:∀b o,(eh s.heap Hs).get? b=some o->s.heap.get? b=some o/\H b=none:=λb o e=>by
  obtain⟨e1,e2⟩:=wy e;refine⟨e1,?_⟩
  rcases h1 b e2 with⟨o',q⟩|⟨x,q⟩
  ·exact(I.bs b o' q).2
  ·exact I.cJ x b q
 refine⟨I.ok.frames,I.ok.mod.ext keep,bs,lX (Bm _ _),?_,I.jT,I.hok,I.bare⟩;refine Au I.stack λb hb=>?_;cases q:(eh s.heap Hs).get? b with
 |none=>rfl
 |some o =>
  exfalso
  obtain⟨e1,e2⟩:=wy q;obtain⟨_,_,nb⟩:=frames_at I.stack b hb
  rcases h1 b e2 with⟨o',z⟩|⟨x,z⟩
  ·rw[nb]at z;cases z
  ·have lo:=I.ok.cab x b (hfn x) z
   have old:∀b∈X.fs,b<X.s₀.heap.objs.size:=λb hb=>by
    obtain⟨o,e,_⟩:=frames_at I.ok.bZ b hb;exact aI e
   have JR:=I.cell x b z
   rcases I.ok.stk with e|⟨e,ef⟩
   ·rw[e]at hb
    exact absurd (old b hb) (Nat.not_lt.mpr lo)
   ·rw[e]at hb
    have e5:frs (X.env::X.outer)=X.env.locals::frs X.outer:=by unfold frs;rw[gN,ef]
    rw[e5]at hb
    rcases aP.mp hb with rfl|hb
    ·obtain⟨m,⟨o1,es,ep,g1,g2,_⟩,_⟩:=I.loc
     obtain⟨v,o2,g3,g4⟩:=JR;rw[g1]at g3;cases g3;rw[g2]at g4;cases g4
    ·exact absurd (old b hb) (Nat.not_lt.mpr lo)
end
structure lP (P:Program) (w:World) (K:W.Frag) (mg:Str->Option Value) (base:Heap) (k:Nat) (p:Addr) (m:Nat) (sp:Sp):Prop where
 run:∀(A:Around) (outer:List Env) (s:Shared) (H:Hp) (us:List Value) (vs:List V) (Q:VK),aV k A->eG P w K mg base A outer s H->Vals vs us->vs.length=m->sp vs H Q E0 ->
  codeAny (model P w) A (.call (.ref p) ⟨us,[]⟩) (λr s'=>∃u,r = .ok (.ret u)/\CE outer P w H s Q u s') s
noncomputable def iI(H:Hp)(p:Addr):Prop:=∃qual params body scope cl,cW H p qual params body scope cl
theorem iI.same{H H':Hp}{p:Addr}(h:iI H p)(s:Same H H'):iI H' p:=let⟨a,b,c,d,e,L⟩:=h;⟨a,b,c,d,e,L.same s⟩
theorem iI.fn{P:Program}{w:World}{H:Hp}{h:Heap}{p:Addr}(L:iI H p)(ok:aU P w H h):W.FnAt p h:=by
 obtain⟨a,b,c,d,e,L⟩:=L;obtain⟨c',pm,ctv,e1,_⟩:=L.get ok;exact⟨_,_,_,_,e1⟩
noncomputable def TJ(i:Nat)(p:Addr)(m:Nat)(sp:Sp)(t:TA):TE:=λσ H Q=>∃v,σ[i]?=some (some v)/\v = .ref p/\iI H p/\t σ H λvs H1=>iI H1 p/\vs.length=m/\sp vs H1 Q E0
section
variable {X:Cx} {x:Str} {k k' m:Nat} {p:Addr} {sp:Sp} {i:Nat} {e:Expr} {es:List Expr} {t:TA} {p0 pos:Pos}
theorem QF(L:lP X.prog X.w X.K X.mg X.base k p m sp)(hr:aV k' X.A)(hv:PE X (.Name x p0) (xQ i))(ha:PA X (e::es) t)(hk:k<=k':=by decide)
  (he:starEach (e::es) X.env=(false,eval e X.env)::starEach es X.env:=by rfl) (hpl:(backTo pos (starEach es X.env)).any (·.1)=false:=by rfl):PE X (.Call (.Name x p0) (e::es) [] pos) (TJ i p m sp t):=by
 intro pins s σ H Q I h;obtain⟨v,e1,rfl,hF,h⟩:=h;refine iK (au (hv pins s σ H (λv H1=>v = .ref p/\H1=H) I ⟨_,e1,rfl,rfl⟩) λu s0 ⟨v,H0,I0,rv,ev,eH⟩=>?_);subst ev eH;obtain rfl:u = .ref p:=rv;refine W.callWith_F (hF.fn I0.hok) (au (ha pos pins s0 σ _ _ I0 h) λus s1 ⟨vs,H1,I1,r,Ma,hl,q⟩=>⟨Ma.fn I1.hok,?_⟩) he hpl;refine iL (eL (L.run X.A X.stack s1 H1 us vs Q (hr.mono hk) I1.env0 r hl q) λr s' ⟨u,e,hq⟩=>?_);subst e;exact I1.after hq
end
theorem j4.move{h h' base:Heap}{H H':Hp}{scope:Scope}{cl:List (Str × Addr)}{fr:List Str}{zs:St}(L:j4 h H scope cl fr zs)(hb:∀x cc v,cl.lookup x=some cc->h.IsCell cc v->base.IsCell cc v)(bs:∀b o,base.get? b=some o->h'.get? b=some o/\H' b=none):j4 h' H' scope cl fr zs where
 cell:=λx cc e=>by
  obtain⟨⟨v,z⟩,_⟩:=L.cell x cc e;obtain⟨o,e1,e2⟩:=hb x cc v e z;exact⟨⟨v,o,(bs cc o e1).1,e2⟩,(bs cc o e1).2⟩
 inj:=L.inj
 has:=L.has
 len:=L.len
 val:=λi x v e1 e2=>by
  obtain⟨cc,u,e3,e4,e5⟩:=L.val i x v e1 e2;obtain⟨o,e6,e7⟩:=hb x cc _ e3 e4;exact⟨cc,u,e3,⟨o,(bs cc o e6).1,e7⟩,e5⟩
structure yq (X:Cx) (qual:Str) (ps:List Str) (params:Arguments) (body:Expr) (scope:Scope) (fr:List (Str × Nat)) (k:Nat) (tb:TE):Prop where
 blk:d3 X scope fr
 sc:lQ ps (fr.map (·.1)) scope
 bind:∀(cl:List (Str × Addr)) (pm cd ctv:Value) (us:List Value),us.length=ps.length->bindArgs (W.kla_fn "<lambda>" qual params body scope cl pm cd ctv) ⟨us,[]⟩=pure (ps.zip us)
 run:∀(base:Heap) (A:Around) (outer:List Env) (s:Shared) (H:Hp) (p c:Addr) (cl:List (Str × Addr)),aV k A->PE (kD X.prog X.w X.K X.mg base (ps++fr.map (·.1)) qual scope p (.ref c) cl A outer s H) body tb
structure j0 (P:Program) (w:World) (K:W.Frag) (mg:Str->Option Value) (x:Str) (ps:List Str) (k kl m:Nat) (fb:Addr->Sp->Sp):Prop where
 ex:∃(f:Addr) (fd:FuncData),(∀(base:Heap) (p:Addr) (ja:Sp),lP P w K mg base kl p m ja->aL P w K mg base aW k f fd ps (fb p ja))/\mg x=some (.ref f)/\W.keepIn K (.ref f)=true/\Binds K fd ps []
noncomputable def Ha(fb:Addr->Sp->Sp)(qual:Str)(params:Arguments)(body:Expr)(scope:Scope)(cl:List (Str × Addr))(fr:List (Str × Nat))(tb:TE)(t:TA):TE:=λσ H Q=>t σ H λvs H1=>∃p,cW H1 p qual params body scope cl /\
 fb p (λws H' Q' _=>cW H' p qual params body scope cl/\tb (ws.map some++lamσ fr σ) H' Q') vs H1 Q E0
section
variable {X:Cx} {x qual:Str} {k k' kl m:Nat} {fb:Addr->Sp->Sp} {ps qs:List Str} {params:Arguments} {body:Expr} {scope:Scope} {fr:List (Str × Nat)} {tb:TE} {e:Expr} {es:List Expr} {t:TA} {p0 pos:Pos}
theorem QH (c:j0 X.prog X.w X.K X.mg x ps k kl m fb) (hr:aV k' X.A) (hg:Gl X x) (B:yq X qual qs params body scope fr kl tb) (hfn:∀x,X.fn x=true) (hx:Passes aW X E0) (hm:qs.length=m) (ha:PA X (e::es) t) (hk:k<=k':=by decide) (hdb:(x==("__debug__" : Str))=false:=by decide)
  (he:starEach (e::es) X.env=(false,eval e X.env)::starEach es X.env:=by rfl) (hpl:(backTo pos (starEach es X.env)).any (·.1)=false:=by rfl) :
  PE X (.Call (.Name x p0) (e::es) [] pos) (Ha fb qual params body scope (bh X.env.cells scope.names []) fr tb t):=by
 obtain⟨f,fd,F,hmg,kp,b⟩:=c.ex;intro pins s σ H Q I h;refine iK (jG I hg hmg ?_ hdb);refine W.callWith_K (h₀:=X.base) I.ok.mod.ik kp (au (ha pos pins s σ H _ I h) λus s1 ⟨vs,H1,I1,r,p,L,q⟩=>⟨I1.bM,?_⟩) he hpl;obtain⟨base',_,hc,e0⟩:=I1.grow hfn;have cells:=CP B.blk I1;have LO:lP X.prog X.w X.K X.mg base' kl p m (λws H' Q' _=>cW H' p qual params body scope (bh X.env.cells scope.names [])/\tb (ws.map some++lamσ fr σ) H' Q'):=by
  refine⟨λA outer s2 H2 us vs Q' jF e2 r hl ⟨L2,hq⟩=>?_⟩;obtain⟨c,pm,ctv,ho,hcd⟩:=L2.get e2.hok;exact CQ B.sc jF.depth jF.hd e2 ho hcd (B.bind _ _ _ _ _ (by rw[<- r.length,hl,hm])) (hl.trans hm.symm) r (cells.move (λx cc v e z=>hc x cc v (B.blk.sub I1.ok e) z) e2.bs) (B.run base' A outer s2 H2 p c _ jF) hq
 have FF:=F base' p _ LO;have hl:us.length=ps.length:=by rw[<- r.length];exact FF.len _ _ _ _ q
 have hb:=b s1 us I1.bM (by rw[j5];exact hl);rw[j5]at hb;refine iL (eL (FF.run X.A X.stack s1 H1 ⟨us,[]⟩ us vs Q E0 (hr.mono hk) e0 hb r q) λr s' hq=>?_);cases r with
 |error e=>exact hx pins σ H1 s1 e s' I1 hq
 |ok fl =>
  cases fl with
  |ret u=>exact I1.after hq
  |next=>exact False.elim hq
  |brk=>exact False.elim hq
  |cont=>exact False.elim hq
theorem QJ {e:Expr} {t1:TE} {cc Pt:Addr} {bW:Pos} (c:j0 X.prog X.w X.K X.mg x ps k kl m fb) (T:TabAt X.base X.mg cc Pt) (hcode:X.env.code = .ref cc) (hr:aV k' X.A) (hg:Gl X x) (B:yq X (X.env.qual ++ "<lambda>") qs params body scope fr kl tb) (hfn:∀x,X.fn x=true) (hx:Passes aW X E0) (hm:qs.length=m) (h1:PE X e t1) (hk:k<=k':=by decide) (hdb:(x==("__debug__" : Str))=false:=by decide)
  (hdef:defaultsOf params X.env=([],[]):=by rfl) (he:starEach [e,.Lambda params body scope bW] X.env = [(false,eval e X.env),(false,eval (.Lambda params body scope bW) X.env)]:=by rfl) :
  PE X (.Call (.Name x p0) [e,.Lambda params body scope bW] [] pos) (Ha fb (X.env.qual ++ "<lambda>") params body scope (bh X.env.cells scope.names []) fr tb (jU t1 (jU (oE Pt bW (X.env.qual ++ "<lambda>") params body scope (bh X.env.cells scope.names [])) sy))):=by
 have he2:starEach [Expr.Lambda params body scope bW] X.env = [(false,eval (.Lambda params body scope bW) X.env)]:=rfl;exact QH c hr hg B hfn hx hm (ag h1 (ag (wQ T hcode (λok y hy hk=>ok.has _ (B.blk.free y hy hk)) hdef) ai he2) he) hk hdb he (by rw[he2];rfl)
end
end L2
namespace My
open PySem PySem.Spec PyProof.Rows L2
theorem Tg{K:W.Frag}{c:Bool}{a:Addr}{xs:List V}{ρ:L2.St}{H1:Hp}(h:Sq c K H1 a xs):ft (Ite K c a) (m_ K 2 (jA (bq 0) (jA (bq 1) qe))) (none::none::ρ) H1 xs.length (λi=>some (.int (i:Int))::some (xs.getD i .non)::ρ) where
 go:=λi H hi hs=>⟨xs,xs[i],hs.sq h,aK hi⟩
 stop:=λH hs=>⟨xs,hs.sq h,rfl⟩
 step:=λi H v H' Kk hi hs hy hk=>by
  obtain⟨T,x,rfl,hT,rfl,hx⟩:=hy;have e1:=hx xs (hs.sq h);have e3:xs.getD i .non=x:=by rw[aQ,e1];rfl
  refine⟨T,[.int (i:Int),x],rfl,.inl (.inl av),rfl,.int (i:Int),[x],rfl,x,[],rfl,rfl,?_⟩;have:=hk (upd H T (.tup [.int (i:Int),x])) (Same.put hT);rw[e3]at this;exact⟨Wk.set (Wk.set (Wk.refl _) rfl) rfl,this⟩
noncomputable def kr(n:Nat)(R:Nat->Nat->Bool)(k:Nat):List (Nat × Nat):=(List.range k).flatMap λl=>((List.range n).filter λh=>R l h).map λh=>(l,h)
theorem qx{n k:Nat}{R:Nat->Nat->Bool}{p:Nat × Nat}:p∈kr n R k ↔ p.1<k/\p.2<n/\R p.1 p.2=true:=by
 unfold kr;rw[List.mem_flatMap]
 constructor
 ·rintro⟨l,hl,h⟩
  obtain⟨j,hj,rfl⟩:=cx.mp h;obtain⟨h1,h2⟩:=fF.mp hj;exact⟨by simpa using hl,by simpa using h1,h2⟩
 ·rintro⟨h1,h2,h3⟩
  exact⟨p.1,by simpa using h1,cx.mpr ⟨p.2,fF.mpr ⟨by simpa using h2,h3⟩,rfl⟩⟩
section
variable {P:Program} {w:World} {K:W.Frag} {mg:Str->Option Value} {base:Heap} {f:Addr} {fd:FuncData}
abbrev rG:Stmt:=top 37
theorem Gv:bf ["things","is_at_most","pairs","low","one"] ["things","is_at_most"] (aq rG):=⟨rfl,rfl,rfl,by decide +kernel,rfl,by decide +kernel,by decide +kernel⟩
noncomputable def r9(K:W.Frag)(C p:Addr)(ja:Sp):Sp:=λvs H Q _=>∃(l:Nat) (xs:List V) (R:Nat->Nat->Bool),vs = [.ref l,.ref p]/\ao K H l xs/\1<=xs.length/\xs.length<=24/\iI H p/\Good xs.length R /\
 (∀i j x y H' Q',xs[i]?=some x->xs[j]?=some y->Same H H'->(∀oK,Same H' oK->Q' (.bl (R i j)) oK)->ja [x,y] H' Q' E0)/\∀z H',Same H H'->tX C H' z xs.length R->Q (.ref z) H'
theorem Ql {C p:Addr} {ja:Sp} (F:aO K "order_by" "order_by" rG f fd) (T:Txt mg) (pI:lJ P w K mg base C "Order" ["self","count","pairs"] 5 (rT K C)) (LO:lP P w K mg base 1 p 2 ja):aL P w K mg base aW 7 f fd ["things","is_at_most"] (r9 K C p ja):=by
 refine F.ok Gv (λvs H Q E h=>?_) (λcdv A outer s H vs Q E hr h=>?_)
 ·obtain⟨l,xs,R,rfl,_⟩:=h
  rfl
 ·obtain⟨l,xs,R,rfl,hl,h1,hn,hF,G,hL,kk⟩:=h
  have nd:=Gv.nd;refine⟨_,(aF (aS (i:=2) nd rfl (Or.inl rfl) (c6 ai))
   (aF (dW d7 rfl (wR (K:=K) true rfl rfl T.enumerate (ag (pv 0) ai)) (QZ (K:=K) rfl rfl (qS (bx (i:=3) nd rfl (Or.inr rfl)) (qS (bx (i:=4) nd rfl (Or.inr rfl)) Fi)))
   (aA (dU (lr (K:=K) rfl my t5 y8 v9 (pv 2) (ag (dS (own:=["high","other"]) (fr:=[("low", 3),("is_at_most", 1),("one", 4)]) rfl (cM (aq rG) ["things","is_at_most","pairs","low","one"] rfl rfl (by decide +kernel)) (wR (K:=K) true rfl rfl T.enumerate (ag (pv 0) ai)) (λ_ _ _ _=>⟨(qR (K:=K) (i:=0) (j:=1) rfl rfl (by decide +kernel:(["high","other","low","is_at_most","one"]:List Str).Nodup) rfl rfl rfl rfl),(og (fA (QF LO hr (pv 3) (ag (pv 4) (ag (pv 1) ai))))),(oa (ag (pv 2) (ag (pv 0) ai)))⟩)) ai)))))
   (aA (bC (QR pI hr rfl (ag (bB (iR (K:=K) rfl) rfl T.len jl (ag (pv 0) ai)) (ag (pv 2) ai))))))),?_⟩
  refine⟨by show 0<=sizeLine;decide,λL Bc=>?_⟩;have sL:=Same.put Bc (o:=.lst ([]:List V));dsimp only[bq];show cU _ _ _ [some (.ref l),some (.ref p),some (.ref L),none,none] _;refine⟨_,rfl,l,xs,rfl,sL.sq (c:=true) hl,As (K:=K) (c:=true) (l:=l) (xs:=xs) (λi σ H2=>∃(v3 v4:Option V) (ws:List V),σ = [some (.ref l),some (.ref p),some (.ref L),v3,v4]/\Same H H2/\H2 L=some (.lst ws)/\ws.length<=24*i/\Paired (eV H2) (kr xs.length R i) ws)
   ⟨none,none,[],rfl,sL,av,cA _,.nil⟩ (λi σ H2 ⟨_,_,_,_,s2,_⟩=>s2.sq (c:=true) hl) ?_ ?_⟩
  ·rintro i x σ H2 Tt hx Mq ⟨v3,v4,ws,rfl,s2,hL2,hwl,vz⟩
   have hi:i<xs.length:=(cw.mp hx).1;have sT:=Same.put Mq (o:=.tup [V.int (i:Int),x]);refine⟨Tt,_,rfl,aJ.of av,rfl,_,_,rfl,_,_,rfl,rfl,?_⟩;dsimp only[bq];show Hd _ _ [some (.ref l),some (.ref p),some (.ref L),some (.int (i:Int)),some x] _;have rj:=s2.trans sT;have vo:=sT _ _ hL2;refine⟨_,rfl,.inl ⟨rfl,_,ao.of vo⟩,_,rfl,l,xs,rfl,rj.sq (c:=true) hl,λD hD=>?_⟩;refine pN (λj=>R i j) (λj v H=>∃t,v = .ref t/\t≠D/\H t=some (.tup [.int (i:Int),.int (j:Int)])) (Tg (c:=true) (rj.sq (c:=true) hl)) hD (dY hn) (λj v H H' s ⟨b,e,hb,q⟩=>⟨b,e,hb,s _ _ hb q⟩) (λj H3 Kt Kf hj hs hy hkt hkf=>?_) (λH3 ys hs hl3 hp3=>?_)
   ·obtain⟨zs,hz⟩:=hy
    have w_:=rj.trans hs;have ey:xs.getD j .non=xs[j]:=by rw[aQ,aK hj];rfl
    refine⟨_,rfl,rfl,hF.same w_,_,rfl,_,rfl,hF.same w_,rfl,?_⟩;rw[ey];refine hL i j x xs[j] H3 _ hx (aK hj) w_ λH4 s4=>⟨_,rfl,cn (λh=>?_) (λh=>?_)⟩
    ·refine⟨_,rfl,_,rfl,by show 2<=sizeLine;decide,λt ht=>?_⟩
     exact hkt _ _ h (s4.trans (Same.put ht)) ⟨t,rfl,(λe=>by rw[e,s4 _ _ hz]at ht;cases ht),av⟩
    ·exact hkf _ (by simpa using h) s4
   ·have Br:ys.length<=xs.length:=by
     have h1:=dF hp3;have h2:=lT (λj=>R i j) (List.range xs.length);rw[lU]at h2;omega
    have Ba:=hs _ _ vo;have hDL:D≠L:=λe=>by rw[e,vo]at hD;cases hD
    refine⟨L,D,ws,ys,rfl,rfl,Ba,hl3,by have:=@gH 100000 (by omega);omega,?_⟩;refine⟨_,_,ws++ys,rfl,λb o e=>?_,av,by rw[dm];omega,?_⟩
    ·rw[ax (cK e Bc)]
     exact hs _ _ (rj _ _ e)
    ·unfold kr
     rw[w5];refine wK Ba (qL (lq.same (sT.trans hs) vz) (qM ?_));exact Paired.di hp3 λj v ⟨t,e,_,q⟩=>⟨t,e,q⟩
  ·rintro σ H2 ⟨v3,v4,ws,rfl,s2,hL2,hwl,vz⟩
   refine⟨_,rfl,l,xs,rfl,.inl (s2.seq hl),_,rfl,λx dx hx hdx hne=>?_⟩;have s4:Same H2 (upd (upd H2 dx (.own x)) x (.ins C dx [])):=λb o e=>by
    rw[ax (cK e hx),ax (cK e hdx)];exact e
   have le:∀p∈kr xs.length R xs.length,R p.1 p.2=true:=λp hp=>(qx.mp hp).2.2;have al:∀a b,a<xs.length->b<xs.length->a≠b->R a b=true->(a,b)∈kr xs.length R xs.length:=λa b ha hb _ h=>qx.mpr ⟨ha,hb,h⟩;refine⟨x,dx,xs.length,L,_,rfl,av,⟨ws,ao.of (s4 _ _ hL2),lq.same s4 vz⟩,h1,hn,λp hp=>⟨(qx.mp hp).1,(qx.mp hp).2.1⟩,λR2 hC=>G.congr (zT G le al hC),λH5 R2 fr hC Mi=>⟨rfl,?_⟩⟩;have s5:Same H2 H5:=λb o e=>fr b o (s4 _ _ e) (cK e hx);exact kk x H5 (s2.trans s5) ⟨R2,Mi,zT G le al hC⟩
end
end My
namespace Dv
structure All (m:Nat) (l:List Nat):Prop where
 nd:l.Nodup
 mem:∀d,d∈l ↔ d ∣ m
theorem All.one:All 1 [1]:=⟨by simp,λd=>by simp[Nat.dvd_one]⟩
noncomputable def gZ(k r:Nat):Prop:=∀d,2<=d->d<k->¬ d ∣ r
theorem gZ.prime{k r:Nat}(h2k:2<=k)(h:gZ k r)(hk:k ∣ r):∀d,d ∣ k->d=1\/d=k:=λd hd=>by
 have hle:=Nat.le_of_dvd (by omega) hd
 by_cases h1:d=1
 ·exact .inl h1
 ·by_cases h2:d=k
  ·exact .inr h2
  ·have hd0:d≠0:=λz=>by
    subst z;have:=Nat.eq_zero_of_zero_dvd hd;omega
   exact absurd (fq hd hk) (h d (by omega) (by omega))
theorem uI{k d:Nat}(hp:∀e,e ∣ k->e=1\/e=k)(h:¬ k ∣ d):Nat.Coprime d k:=by
 rcases hp (Nat.gcd d k) (Nat.gcd_dvd_right d k)with e|e
 ·exact e
 ·exact absurd (e▸yI d k) h
theorem gZ.big{k r:Nat}(hk:2<=k)(h:gZ k r)(hr:r<k*k)(h1:1<r):gZ r r:=λd h2 h3 hd=>by
 obtain⟨c,rfl⟩:=hd;have hc:2<=c:=by
  rcases c with _|_|c
  ·omega
  ·omega
  ·omega
 have d1:k<=d:=ji λz=>h d h2 z ⟨c,rfl⟩;have c1:k<=c:=ji λz=>h c hc z ⟨d,fH _ _⟩;have:=yN d1 c1;omega
theorem gZ.le{k r:Nat}(h:gZ k r)(h1:1<r):k<=r:=ji λz=>h r h1 z (o6 r)
theorem All.grow{m k j:Nat}{f g:List Nat}(hf:All m f)(hg:All (m*k ^ j) g)(hk:2<=k)(hp:∀e,e ∣ k->e=1\/e=k)(hm:¬ k ∣ m)(hm0:0<m):All (m*k ^ (j+1)) (g++f.map λx=>x*k ^ (j+1)):=by
 have k0:0<k:=by omega
 refine⟨?_,λd=>?_⟩
 ·rw[tN]
  refine⟨hg.nd,?_,λx hx y hy e=>?_⟩
  ·refine f7.mpr (hf.nd.imp λhne e=>hne (Nat.eq_of_mul_eq_mul_right (tU k0) e))
  ·obtain⟨z,hz,rfl⟩:=cx.mp hy
   subst e;have h1:=(hg.mem _).mp hx;have h2:k ^ (j+1) ∣ m*k ^ j:=fq ⟨z,fH _ _⟩ h1;rw[jj,fH (k ^ j)]at h2;exact hm (Iq (tU k0) h2)
 ·rw[iJ,hg.mem,cx]
  constructor
  ·rintro(h|⟨z,hz,rfl⟩)
   ·exact fq h (yM _ (Nat.pow_dvd_pow k (lY j)))
   ·exact Nat.mul_dvd_mul ((hf.mem z).mp hz) (o6 _)
  ·intro h
   by_cases hd:k ^ (j+1) ∣ d
   ·obtain⟨c,rfl⟩:=hd
    refine .inr ⟨c,(hf.mem c).mpr ?_,fH _ _⟩;rw[fH]at h;exact Iq (tU k0) h
   ·left
    exact drop k m d hk hp j h hd
where
 drop (k m d:Nat) (hk:2<=k) (hp:∀e,e ∣ k->e=1\/e=k):∀j,d ∣ m*k ^ (j+1)->¬ k ^ (j+1) ∣ d->d ∣ m*k ^ j:=by
  intro j
  induction j generalizing d with
  |zero =>
   intro h1 h2;rw[Nat.pow_one]at h2;rw[Nat.zero_add,Nat.pow_one]at h1;rw[tV,tT];exact(uI hp h2).dvd_of_dvd_mul_right h1
  |succ j ih =>
   intro h1 h2
   by_cases hd:k ∣ d
   ·obtain⟨c,rfl⟩:=hd
    have e1:m*k ^ (j+1+1)=k*(m*k ^ (j+1)):=by rw[jj k (j+1)];rw[<- j_,fH]
    rw[e1]at h1;have h3:=Nat.dvd_of_mul_dvd_mul_left (by omega) h1;have h4:¬ k ^ (j+1) ∣ c:=λz=>h2 (by rw[jj,fH];exact yM k z);have h5:=ih c h3 h4;have e2:m*k ^ (j+1)=k*(m*k ^ j):=by rw[jj];rw[<- j_,fH]
    rw[e2];exact yM k h5
   ·have e1:m*k ^ (j+1+1)=m*k ^ (j+1)*k:=by rw[jj k (j+1),j_]
    rw[e1]at h1;exact(uI hp hd).dvd_of_dvd_mul_right h1
noncomputable def lesser(n:Nat):List Nat:=(List.range' 1 1000).filter λd=>decide (d*d<=n)&&decide (n % d=0)
noncomputable def greater(n:Nat):List Nat:=((lesser n).reverse.filter λd=>!decide (d*d=n)).map λd=>n / d
theorem jI{n d:Nat}(hn:n<=1000000)(h0:0<n):d∈lesser n ↔ d*d<=n/\d ∣ n:=by
 unfold lesser;rw[fF,cq,cQ,cQ,List.mem_range'_1]
 constructor
 ·rintro⟨_,h1,h2⟩
  exact⟨h1,yH h2⟩
 ·rintro⟨h1,h2⟩
  refine⟨⟨yO h2 h0,?_⟩,h1,yL h2⟩;apply yJ
  intro z;have:=yN z z;omega
theorem CZ(n:Nat):(lesser n).Pairwise (· < ·):=List.Pairwise.filter _ (List.pairwise_lt_range' (s:=1) (n:=1000))
theorem Dm{n d:Nat}(hn:n<=1000000)(h0:0<n):d∈greater n ↔ n<d*d/\d ∣ n:=by
 unfold greater;rw[cx]
 constructor
 ·rintro⟨c,hc,rfl⟩
  obtain⟨h1,h2⟩:=fF.mp hc;obtain⟨h3,⟨e,rfl⟩⟩:=(jI hn h0).mp (oY.mp h1);have hne:¬ c*c=c*e:=by simpa using h2
  have hc0:0<c:=gP λz=>by subst z;simp at h0
  rw[tQ _ hc0];refine⟨?_,⟨c,fH _ _⟩⟩;have hce:c<=e:=Nat.le_of_mul_le_mul_left h3 hc0;have:c≠e:=λz=>hne (by rw[z]);exact tS (by omega) (by omega)
 ·rintro⟨h1,⟨c,rfl⟩⟩
  have hd0:0<d:=gP λz=>by subst z;simp at h0
  have hc0:0<c:=gP λz=>by subst z;simp at h0
  have hcd:c<d:=Nat.lt_of_mul_lt_mul_left h1;have hcc:c*c<d*c:=tS hcd hc0;refine⟨c,fF.mpr ⟨oY.mpr ((jI hn h0).mpr ⟨by omega,⟨d,fH _ _⟩⟩),?_⟩,Nat.mul_div_cancel _ hc0⟩;have:¬ c*c=d*c:=by omega
  simp[this]
theorem L7{n:Nat}(hn:n<=1000000)(h0:0<n):(greater n).Pairwise (· < ·):=by
 unfold greater;rw[f7];have h1:(lesser n).reverse.Pairwise (λa b=>b<a):=by
  rw[List.pairwise_reverse];exact CZ n
 refine(h1.filter _).imp_of_mem λ{a b} ha hb hlt=>?_;obtain⟨_,⟨c,e1⟩⟩:=(jI hn h0).mp (oY.mp (fF.mp ha).1);obtain⟨_,⟨d,e2⟩⟩:=(jI hn h0).mp (oY.mp (fF.mp hb).1);have hb0:0<b:=gP λz=>by rw[e2,z]at h0;simp at h0
 have ha0:0<a:=by omega
 rw[show n / a=c by rw[e1,tQ _ ha0],show n / b=d by rw[e2,tQ _ hb0]];apply yJ
 intro z;have h3:b*d<=b*c:=o8 b z;have hc0:0<c:=gP λz=>by rw[e1,z]at h0;simp at h0
 have h4:b*c<a*c:=tS hlt hc0;omega
noncomputable def divs(n:Nat):List Nat:=lesser n++greater n
theorem uM{n:Nat}(hn:n<=1000000)(h0:0<n):All n (divs n)/\(divs n).Pairwise (· < ·):=by
 have asc:(divs n).Pairwise (· < ·):=by
  unfold divs;rw[List.pairwise_append];refine⟨CZ n,L7 hn h0,λa ha b hb=>?_⟩;have h1:=((jI hn h0).mp ha).1;have h2:=((Dm hn h0).mp hb).1;apply yJ
  intro z;have:=yN z z;omega
 refine⟨⟨asc.imp λh=>by omega,λd=>?_⟩,asc⟩;unfold divs;rw[iJ,jI hn h0,Dm hn h0]
 constructor
 ·rintro(h|h)
  ·exact h.2
  ·exact h.2
 ·intro h
  rcases Nat.lt_or_ge n (d*d)with z|z
  ·exact .inr ⟨z,h⟩
  ·exact .inl ⟨z,h⟩
theorem All.perm{m:Nat}{l l':List Nat}(h:All m l)(h':All m l'):l.Perm l':=(List.perm_ext_iff_of_nodup h.nd h'.nd).mpr λd=>by rw[h.mem,h'.mem]
theorem Ka(n:Nat):(divs n).length<=2000:=by
 unfold divs greater;rw[dm,ay];have h1:(lesser n).length<=1000:=by
  unfold lesser;have:=lT (λd=>decide (d*d<=n)&&decide (n % d=0)) (List.range' 1 1000);rw[List.length_range']at this;exact this
 have h2:=lT (λd=>!decide (d*d=n)) (lesser n).reverse;rw[List.length_reverse]at h2;omega
theorem All.len{m:Nat}{l:List Nat}(h:All m l)(hm:m<=1000000)(h0:0<m):l.length<=2000:=by
 rw[(h.perm (uM hm h0).1).length_eq];exact Ka m
end Dv
namespace L2
open PySem PySem.Spec PyProof.Rows
noncomputable def tE(K:W.Frag)(a:Addr)(n:Nat):It:=
 ⟨λi H=>i<n/\∃xs x,ao K H a xs/\xs[n - 1 - i]?=some x,λi H x H'=>H'=H/\∀xs,ao K H a xs->xs[n - 1 - i]?=some x,λi H=>i=n⟩
theorem UJ{P:Program}{w:World}{K:W.Frag}{tg:Expr}(a it:Addr)(n:Nat):Turn P w K tg (tE K a n) [it] it (λi h=>h.IsRevIter it a ((n:Int) - 1 - (i:Int))) where
 mem:=by simp
 obj:=λi h st b hb=>by
  have e:b=it:=by simpa using hb
  subst e;obtain⟨o,e,c,d⟩:=st;exact⟨o,e,λv z=>by rw[d]at z;cases z⟩
 keep:=λi h h' st k=>by
  obtain⟨o,e,c,d⟩:=st;exact⟨o,k it (by simp) o e,c,d⟩
 item:=by
  intro X hP hw hK hc i pins s σ H E I hf st hg;subst hP hw hK;obtain⟨hi,xs,x,hq,hx⟩:=hg;obtain⟨its,rv,p,hz⟩:=I.list hq;obtain⟨u,hu,ru⟩:=rv.get hx;obtain⟨f0,f1,f2,f3,f4,f5⟩:=hf it (by simp);have e0:(n:Int) - 1 - (i:Int)=((n - 1 - i:Nat):Int):=by omega
  rw[e0]at st;refine wpAny_pyNext_rev_item st p.isList (x:=u) (by simpa using hu) λh' st' sb=>?_;have I1:Inv X pins σ H {s with heap:=h'}:=I.turned (t':=s.toks) (λb o hb e=>(sb.2 b hb).trans e) f0 f1 f3 f4 f5;have e1:((n - 1 - i:Nat):Int) - 1=(n:Int) - 1 - ((i+1:Nat):Int):=by omega
  rw[e1]at st';obtain⟨o,e,c,d⟩:=id st';exact⟨u,rfl,qg (s:={s with heap:=h'}) e c d (by decide) ⟨x,H,I1,ru,⟨rfl,λys hy=>by rw[I.vV hy hq];exact hx⟩,st',λb hb=>(hf b hb).1⟩⟩
 done:=by
  intro X hP hw hK hc i pins s σ H E I hf st hg;subst hP hw hK;have hg:i=n:=hg;obtain⟨f0,f1,f2,f3,f4,f5⟩:=hf it (by simp);have e0:(n:Int) - 1 - (i:Int) = -1:=by omega
  rw[e0]at st;exact wpAny_pyNext_rev_end (I.ok.hd hc) st λh' eb=>⟨rfl,I.turned (t':=s.toks) (λb o hb e=>eb b o hb e) f0 f1 f3 f4 f5⟩
 self:=λ_ _ _ _ _ st h=>wpAny_pyIter_revIter st h
noncomputable def Nr(K:W.Frag)(ta:TA):TI:=λσ H R=>ta σ H λvs H1=>∃a xs,vs = [.ref a]/\ao K H1 a xs/\R (tE K a xs.length) H1
section
variable {X:Cx} {tg:Expr}
theorem Q6 {K:W.Frag} {p pos:Pos} {e:Expr} {ta:TA} (hK:X.K=K) (hg:Gl X "reversed") (hm:X.mg "reversed" = none) (ha:PA X [e] ta)
  (he:starEach [e] X.env = [(false,eval e X.env)]:=by rfl):PI X tg (.Call (.Name "reversed" p) [e] [] pos) (Nr K ta):=by
 subst hK;intro pins s σ H R I h;refine iK (il I hg hm boot_reversed ?_ (by decide) (by decide));refine mq (au (ha pos pins s σ H _ I h) λus s1 ⟨vs,H1,I1,r1,q1⟩=>?_) he rfl;obtain⟨a,xs,rfl,hq,q⟩:=q1;obtain⟨u,rfl,ru⟩:=(show ∃u,us = [u]/\RelV (.ref a) u from by
  cases r1 with
  |cons r t=>cases t;exact⟨_,rfl,r⟩)
 cases ru;obtain⟨its,rv,lp,hz⟩:=I1.list hq;refine call_reversed_list lp.isList ?_;have st:(s1.heap.push (revObj a ((its.toArray.size:Int) - 1))).IsRevIter s1.heap.objs.size a ((its.toArray.size:Int) - 1):=⟨_,aX _ rfl,rfl,rfl⟩;have hl:its.toArray.size=xs.length:=by simp[rv.length]
 rw[hl]at st ⊢;refine wpAny_pyIter_revIter st ?_;refine⟨s1.heap.objs.size,[s1.heap.objs.size],_,_,H1,rfl,I1.kept (t':=s1.toks) λb o e=>aB _ e,UJ a _ xs.length,by show Heap.IsRevIter _ _ _ _;simpa using st,λb hb=>?_,q⟩;have e:b=s1.heap.objs.size:=by simpa using hb
 subst e;exact I1.jy (aC _) (I1.hok.fresh (aC _))
end
noncomputable def eO(xs:Array Nat):Prop:=∀i j,i<j->j<xs.size->xs.getD i 0<xs.getD j 0
theorem La{xs:Array Nat}{i:Nat}(h:i<xs.size)(a b:Nat):xs.getD i a=xs.getD i b:=by
 simp[Array.getD,h]
theorem ux{xs:Array Nat}{j:Nat}(hr:eO xs):∀(fuel lo hi:Nat),lo<=hi->hi<=xs.size->hi - lo<=fuel->(∀i,i<lo->xs.getD i 0<j)->(∀i,hi<=i->i<xs.size->j<=xs.getD i 0)->SetTable.below.go xs j fuel lo hi<=xs.size/\(∀i,i<SetTable.below.go xs j fuel lo hi->xs.getD i 0<j)/\(∀i,SetTable.below.go xs j fuel lo hi<=i->i<xs.size->j<=xs.getD i 0)
 |0,lo,hi,h1,h2,h3,h4,h5=>by
  have:lo=hi:=by omega
  subst this;exact⟨h2,h4,h5⟩
 |fuel+1,lo,hi,h1,h2,h3,h4,h5=>by
  unfold SetTable.below.go
  by_cases hlt:lo<hi
  ·rw[if_pos hlt]
   have hm:(lo+hi) / 2<xs.size:=by omega
   dsimp only;rw[La hm j 0]
   by_cases hc:xs.getD ((lo+hi) / 2) 0<j
   ·rw[if_pos hc]
    refine ux hr fuel _ _ (by omega) h2 (by omega) (λi hi'=>?_) h5
    by_cases e:i=(lo+hi) / 2
    ·rw[e];exact hc
    ·exact yK (hr i _ (by omega) hm) hc
   ·rw[if_neg hc]
    refine ux hr fuel _ _ (by omega) (by omega) (by omega) h4 (λi hi' hl=>?_)
    by_cases e:i=(lo+hi) / 2
    ·rw[e];omega
    ·have:=hr ((lo+hi) / 2) i (by omega) hl
     omega
  ·rw[if_neg hlt]
   have:lo=hi:=by omega
   subst this;exact⟨h2,h4,h5⟩
theorem uy{xs:Array Nat}{j:Nat}(hr:eO xs):SetTable.below xs j<=xs.size/\(∀i,i<SetTable.below xs j->xs.getD i 0<j)/\(∀i,SetTable.below xs j<=i->i<xs.size->j<=xs.getD i 0):=by
 unfold SetTable.below;exact ux hr _ _ _ (cA _) (aC _) (by omega) (λi h=>absurd h (by omega)) (λi h1 h2=>absurd h1 (by omega))
theorem Jm{xs:Array Nat}(hr:eO xs){i:Nat}(hi:i<xs.size):SetTable.below xs (xs.getD i 0+1)=i+1:=by
 obtain⟨h1,h2,h3⟩:=uy (j:=xs.getD i 0+1) hr;generalize SetTable.below xs (xs.getD i 0+1)=b at h1 h2 h3
 rcases Nat.lt_trichotomy b (i+1)with h|h|h
 ·have:=h3 i (by omega) hi
  omega
 ·exact h
 ·have h4:=h2 (i+1) h
  have h5:=hr i (i+1) (by omega) (by omega);omega
theorem Jn{xs:Array Nat}(hr:eO xs):SetTable.below xs 0=0:=by
 obtain⟨h1,h2,h3⟩:=uy (j:=0) hr;generalize SetTable.below xs 0=b at h1 h2 h3
 rcases Nat.eq_zero_or_pos b with h|h
 ·exact h
 ·exact absurd (h2 0 h) (by omega)
theorem NB{α:Type}(xs:Array α)(p:Nat)(x:α)(hp:p<=xs.size):(SetTable.insertAt xs p x).size=xs.size+1:=by
 unfold SetTable.insertAt;simp;omega
theorem Cb{α:Type}(xs:Array α)(p:Nat)(x:α):(SetTable.insertAt xs p x).toList=xs.toList.take p++x::xs.toList.drop p:=by
 unfold SetTable.insertAt;simp[Ip]
theorem insertAt_perm{α:Type}(xs:Array α)(p:Nat)(x:α):(SetTable.insertAt xs p x).toList.Perm (x::xs.toList):=by
 rw[Cb];refine yC.trans ?_;rw[List.take_append_drop]
theorem Ca(xs:Array Nat)(p x i:Nat)(hp:p<=xs.size):(SetTable.insertAt xs p x).getD i 0=if i<p then xs.getD i 0 else if i=p then x else xs.getD (i - 1) 0:=by
 have e:∀(ys:Array Nat) (i:Nat),ys.getD i 0=ys.toList.getD i 0:=λys i=>by simp[Array.getD,aQ];split<;>simp[*]
 rw[e,e,e,Cb,aQ,aQ,aQ];have hl:(xs.toList.take p).length=p:=by rw[oW];simp;omega
 by_cases h1:i<p
 ·rw[if_pos h1,j6 (by omega),Ih h1]
 ·rw[if_neg h1,jh (by omega),hl]
  by_cases h2:i=p
  ·rw[if_pos h2,h2,Nat.sub_self]
   rfl
  ·rw[if_neg h2]
   obtain⟨k,hk⟩:∃k,i - p=k+1:=⟨i - p - 1,by omega⟩;rw[hk,List.getElem?_cons_succ,List.getElem?_drop]
   congr 2
   omega
theorem RX{xs:Array Nat}{j:Nat}(hr:eO xs)(hj:xs[SetTable.below xs j]?≠some j):eO (SetTable.insertAt xs (SetTable.below xs j) j):=by
 obtain⟨h1,h2,h3⟩:=uy (j:=j) hr;have h3':∀i,SetTable.below xs j<=i->i<xs.size->j<xs.getD i 0:=λi a b=>by
  rcases Nat.lt_or_eq_of_le (h3 i a b)with h|h
  ·exact h
  ·exfalso
   by_cases e:i=SetTable.below xs j
   ·apply hj
    rw[<- e,gK b];simp[Array.getD,b]at h;rw[h]
   ·have hb:SetTable.below xs j<xs.size:=by omega
    have q1:=h3 (SetTable.below xs j) (aC _) hb;have q2:=hr (SetTable.below xs j) i (by omega) b;omega
 generalize SetTable.below xs j=p at h1 h2 h3 h3';intro a b hab hb;rw[NB _ _ _ h1]at hb;rw[Ca _ _ _ _ h1,Ca _ _ _ _ h1]
 by_cases a1:a<p
 ·rw[if_pos a1]
  by_cases b1:b<p
  ·rw[if_pos b1];exact hr a b hab (by omega)
  ·rw[if_neg b1]
   by_cases b2:b=p
   ·rw[if_pos b2];exact h2 a a1
   ·rw[if_neg b2]
    exact yK (h2 a a1) (h3' (b - 1) (by omega) (by omega))
 ·rw[if_neg a1]
  have b1:¬ b<p:=by omega
  have b2:¬ b=p:=by omega
  rw[if_neg b1,if_neg b2]
  by_cases a2:a=p
  ·rw[if_pos a2]
   exact h3' (b - 1) (by omega) (by omega)
  ·rw[if_neg a2]
   exact hr (a - 1) (b - 1) (by omega) (by omega)
theorem R0{l:List Nat}(h:l.Pairwise (· < ·)):eO l.toArray:=by
 intro i j hij hj;have hj':j<l.length:=by simpa using hj
 have:=Il.mp h i j (by omega) hj' hij;simp[Array.getD,hj',show i<l.length by omega];exact this
theorem RZ:eO #[]:=λi j _ h=>absurd h (by simp)
theorem Oh{mask finger moves:Nat}{led plain:Bool}{hs:Array Int}{t:SetTable}{order:Array Nat}(h:SetTable.laid mask finger moves led plain hs=some (t,order)):eO t.place/\t.dummies = #[]/\t.led=led/\t.plain=plain:=by
 unfold SetTable.laid at h;cases e:SetTable.layClean mask hs with
 |none=>rw[e]at h;cases h
 |some owner =>
  rw[e]at h;injection h with h
  injection h with h1 h2
  rw[<- h1];refine⟨?_,rfl,rfl,rfl⟩;apply R0
  rw[f7,List.pairwise_filterMap];refine Im.imp λ{a b} hab x hx y hy=>?_;cases ea:owner.getD a none with
  |none=>rw[ea]at hx;cases hx
  |some p =>
   cases eb:owner.getD b none with
   |none=>rw[eb]at hy;cases hy
   |some q =>
    rw[ea]at hx;rw[eb]at hy;cases hx;cases hy;exact hab
theorem Ta{t:SetTable}(hd:t.dummies = #[])(j:Nat):t.slot j = .empty/\t.place[SetTable.below t.place j]?≠some j\/∃i,t.slot j = .live i:=by
 unfold SetTable.slot;dsimp only
 by_cases e:(t.place[SetTable.below t.place j]?==some j)=true
 ·rw[if_pos e]
  exact .inr ⟨_,rfl⟩
 ·rw[if_neg e]
  refine .inl ⟨?_,λz=>e (by rw[z];simp)⟩;rw[hd];rfl
theorem Az{t:SetTable}{h:Int}(hd:t.dummies = #[]):∀(fuel:Nat) (p:SetTable.Probe) (j:Nat) (d:Option Nat),p.dummy=none->SetTable.probe.go t (λ_=>h+1) h fuel p=some (.empty j d)->d=none/\t.place[SetTable.below t.place j]?≠some j
 |0,p,j,d,_,e=>by cases e
 |fuel+1,p,j,d,hp,e=>by
  unfold SetTable.probe.go at e
  rcases Ta hd p.j with⟨q,q'⟩|⟨i,q⟩
  ·rw[q]at e
   injection e with e
   injection e with e1 e2
   rw[<- e1,<- e2];exact⟨hp,q'⟩
  ·rw[q]at e
   dsimp only at e;have hne:((h+1)==h)=false:=by
    rw[jo];omega
   rw[hne]at e;refine Az hd fuel _ j d ?_ e;unfold SetTable.advance
   split<;>exact hp
theorem K7{t:SetTable}{h:Int}{s:Nat}{w:Bool}(hd:t.dummies = #[])(e:t.freeSlot h=some (s,w)):w=false/\t.place[SetTable.below t.place s]?≠some s:=by
 unfold SetTable.freeSlot SetTable.probe at e;generalize eg:SetTable.probe.go t (λ_=>h+1) h (10*SetTable.turns t.mask) (t.probeStart h)=g at e
 match g,e with
 |some (.empty j d),e =>
  obtain⟨rfl,q⟩:=Az hd _ _ j d rfl eg;injection e with e
  injection e with e1 e2
  rw[<- e1,<- e2];exact⟨rfl,q⟩
structure TabOk (t:SetTable):Prop where
 nd:t.dummies = #[]
 rise:t.plain=true->eO t.place
theorem Ur(f m:Nat)(led:Bool):TabOk (SetTable.fresh f m led):=⟨rfl,λ_=>RZ⟩
theorem sD{t:SetTable}(n:Nat):TabOk (t.standIn n)/\(t.standIn n).led=t.led:=⟨⟨rfl,λh=>by cases h⟩,rfl⟩
theorem CV{t:SetTable}{es:Array (Int × Value)}{h:Int}{x:Value}(ok:TabOk t):TabOk (layNew t es h x).2.1/\(layNew t es h x).2.1.led=t.led/\(layNew t es h x).1.toList.Perm ((h,x)::es.toList)/\(layNew t es h x).2.2.1=false:=by
 unfold layNew;cases e:t.freeSlot h with
 |none =>
  refine⟨(sD _).1,rfl,?_,rfl⟩;dsimp only;rw[lH];exact(Io _ _)
 |some q =>
  obtain⟨s,w⟩:=q;obtain⟨rfl,hs⟩:=K7 ok.nd e;dsimp only[SetTable.put];have hhas:SetTable.has t.dummies s=false:=by rw[ok.nd];rfl
  rw[hhas];simp only[fc,dC];refine⟨?_,?_,insertAt_perm _ _ _,True.intro⟩
  ·unfold SetTable.orStandIn
   by_cases hf:({t with place:=SetTable.insertAt t.place (SetTable.below t.place s) s}:SetTable).fits (SetTable.insertAt es (SetTable.below t.place s) (h,x)).size=true
   ·rw[if_pos hf]
    exact⟨ok.nd,λhp=>RX (ok.rise hp) hs⟩
   ·rw[if_neg hf]
    exact(sD _).1
  ·unfold SetTable.orStandIn
   by_cases hf:({t with place:=SetTable.insertAt t.place (SetTable.below t.place s) s}:SetTable).fits (SetTable.insertAt es (SetTable.below t.place s) (h,x)).size=true
   ·rw[if_pos hf]
   ·rw[if_neg hf]
    rfl
theorem Fy{α:Type}:∀l:List α,(List.range l.length).filterMap (λi=>l[i]?)=l
 | []=>rfl
 |x::l=>by
  rw[fE,List.range_succ_eq_map,gN];simp only[Ig,List.filterMap_map]
  congr 1
  exact Fy l
theorem RW{t:SetTable}{es:Array (Int × Value)}{n:Nat}(ok:TabOk t):TabOk (relayAll t es n).2.1/\(relayAll t es n).2.1.led=t.led/\(relayAll t es n).1.toList.Perm es.toList:=by
 unfold relayAll;cases e:t.relaid (es.map (·.1)) n with
 |none=>exact⟨(sD _).1,rfl,.refl _⟩
 |some q =>
  obtain⟨t',order⟩:=q;obtain⟨h1,h2,h3,h4⟩:=Oh e;dsimp only
  split
  ·rename_i hc
   rw[cq]at hc;refine⟨⟨h2,λ_=>h1⟩,h3,?_⟩;have hp:order.toList.Perm (List.range es.size):=List.isPerm_iff.mp hc.1;rw[Array.toList_filterMap];refine(hp.filterMap _).trans ?_;have:(List.range es.size).filterMap (λi=>es[i]?)=es.toList:=by
    have:=Fy es.toList;simpa using this
   rw[this]
  ·exact⟨(sD _).1,rfl,.refl _⟩
noncomputable def qH:Value->Int
 |.int k _=>k
 |_=>0
abbrev numsOf (es:Array (Int × Value)):List Int:=es.toList.map λe=>qH e.2
structure d8 (prog:Program) (w:World) (es:Array (Int × Value)) (t:SetTable) (ks:List Int):Prop where
 el:ElemsOf (intKind prog w) es.toList
 fits:t.fits es.size=true
 tab:TabOk t
 led:t.led = !w.params.followText "set-order"
 perm:(numsOf es).Perm ks
 nd:ks.Nodup
noncomputable def dq(prog:Program)(w:World)(h:Heap)(a:Addr)(ks:List Int):Prop:=
 ∃o es ep t,h.get? a=some o/\o.ExactSet/\o.data = .set es ep t/\d8 prog w es t ks
section
variable {prog:Program} {w:World} {A:Around} {E:Value->Shared->Prop} {s:Shared}
theorem Af{l:List (Int × Value)}(h:ElemsOf (intKind prog w) l){e:Int × Value}(he:e∈l):∃k t,e.2 = .int k t:=by
 obtain⟨⟨k,hk,_⟩,_⟩:=h e he;obtain⟨t,q⟩:=zc hk;exact⟨k,t,q⟩
theorem d8.size{es:Array (Int × Value)}{t:SetTable}{ks:List Int}(h:d8 prog w es t ks):es.size=ks.length:=by
 rw[<- h.perm.length_eq,ay,fC]
theorem d8.mem{es:Array (Int × Value)}{t:SetTable}{ks:List Int}(h:d8 prog w es t ks){k:Int}:k∈ks ↔ ∃e∈es.toList,Value.isInt k e.2=true:=by
 rw[<- h.perm.mem_iff,cx]
 constructor
 ·rintro⟨e,he,q⟩
  obtain⟨k',t',q'⟩:=Af h.el he;rw[q']at q;have:k'=k:=q;subst this;exact⟨e,he,by rw[q'];simp[Value.isInt]⟩
 ·rintro⟨e,he,q⟩
  obtain⟨t',q'⟩:=zc q;exact⟨e,he,by rw[q'];rfl⟩
noncomputable def iA(ks:List Int)(k:Int):List Int:=if k∈ks then ks else ks++[k]
theorem d8.lay{es:Array (Int × Value)}{t:SetTable}{ks:List Int}(h:d8 prog w es t ks){k:Int}{tk:Tok}(hk:k ∉ ks):d8 prog w (layNew t es (hashInt k) (.int k tk)).1 (layNew t es (hashInt k) (.int k tk)).2.1 (ks++[k]):=by
 obtain⟨h1,h2,h3,_⟩:=CV (es:=es) (h:=hashInt k) (x:=Value.int k tk) h.tab;refine⟨λe he=>?_,layNew_fits _ _ _ _,h1,h2.trans h.led,?_,?_⟩
 ·rcases aP.mp (h3.mem_iff.mp he)with q|q
  ·rw[q]
   exact⟨⟨k,by simp[intKind,Value.isInt],rfl⟩,rfl⟩
  ·exact h.el e q
 ·refine(h3.map _).trans ?_
  rw[cH];exact((h.perm.cons _).trans (Io _ _).symm)
 ·rw[tN]
  refine⟨h.nd,by simp,λx hx y hy z=>hk ?_⟩;rw[<- (show y=k by simpa using hy),<- z];exact hx
theorem d8.RV{es:Array (Int × Value)}{t:SetTable}{ks:List Int}(h:d8 prog w es t ks)(n:Nat):d8 prog w (relayAll t es n).1 (relayAll t es n).2.1 ks:=by
 obtain⟨h1,h2,h3⟩:=RW (es:=es) (n:=n) h.tab;exact⟨λe he=>h.el e (h3.mem_iff.mp he),relayAll_fits _ _ _,h1,h2.trans h.led,(h3.map _).trans h.perm,h.nd⟩
theorem stored{a:Addr}{o:Obj}{es es':Array (Int × Value)}{ep:Nat}{t t':SetTable}{ks:List Int}(ho:s.heap.get? a=some o)(hx:o.ExactSet)(hd:o.data = .set es ep t)(h:d8 prog w es' t' ks):∃o' ep',(s.heap.update a (Obj.putSet es' t')).get? a=some o'/\o'.ExactSet/\o'.data = .set es' ep' t':=by
 refine⟨_,ep+1,gf _ ho (by rw[putSet_of es' t' hd]<;>rfl),?_,?_⟩
 ·rw[putSet_of es' t' hd];exact hx
 ·rw[putSet_of es' t' hd]
theorem zv{a:Addr}{o:Obj}{es es':Array (Int × Value)}{ep:Nat}{t t':SetTable}{ks:List Int}{g:Bool->Sem Unit}{wd:Bool}{R:Option Bool->Shared->Prop}(hg:∀(b:Bool) (s':Shared) (Q':Unit->Shared->Prop),Q' () s'->wpAny (model prog w) A (g b) Q' E s')
  (ho:s.heap.get? a=some o) (hx:o.ExactSet) (hd:o.data = .set es ep t) (H:d8 prog w es' t' ks) (hb:ks.length<scanBound) (h:∀h',Heap.SameBut a s.heap h'->dq prog w h' a ks->R (some true) {s with heap:=h'}) :
  wpAny (model prog w) A (do
    storeSet a es' t'
    if(!wd&&t'.tooFull)=true then do
      g (relayAll t' es' (SetTable.grown es'.size)).2.2
      storeSet a (relayAll t' es' (SetTable.grown es'.size)).1 (relayAll t' es' (SetTable.grown es'.size)).2.1
      pure (some true)
     else pure (some true)) R E s:=by
 have z1:es'.size<scanBound:=by rw[H.size];exact hb
 obtain⟨o1,Kz,p1,p2,p3⟩:=stored ho hx hd H;have b1:=mz s.heap a (Obj.putSet es' t');refine ae (wpAny_storeSet_of ho hd ?_ (fits_of_scanBound z1))
 by_cases c:(!wd&&t'.tooFull)=true
 ·rw[if_pos c]
  have H2:=H.RV (SetTable.grown es'.size);have z2:(relayAll t' es' (SetTable.grown es'.size)).1.size<scanBound:=by rw[H2.size];exact hb
  refine ae (hg _ _ _ (ae (wpAny_storeSet_of p1 p3 (ah ?_) (fits_of_scanBound z2))));obtain⟨o2,KC,r1,r2,r3⟩:=stored (s:={s with heap:=s.heap.update a (Obj.putSet es' t')}) p1 p2 p3 H2;exact h _ (b1.trans (mz _ a _)) ⟨o2,_,KC,_,r1,r2,r3,H2⟩
 ·rw[if_neg c]
  exact ah (h _ b1 ⟨o1,_,Kz,_,p1,p2,p3,H⟩)
theorem add_num{a:Addr}{ks:List Int}{k:Int}{tk:Tok}{Q:Bool->Shared->Prop}(hG:dq prog w s.heap a ks)(hroom:ks.length+1<scanBound)
  (h:∀b h',Heap.SameBut a s.heap h'->dq prog w h' a (iA ks k)->Q b {s with heap:=h'}):wpAny (model prog w) A (setAddHashed a (.int k tk) (hashInt k)) Q E s:=by
 obtain⟨o,es,ep,t,ho,hx,hd,H⟩:=id hG;have key:(intKind prog w).is k (Value.int k tk)=true:=intKind_is _ _ _ _;have zb:es.size<scanBound:=by rw[H.size];omega
 unfold setAddHashed setAddHashedIn;refine dG (ae (mD ho hd H.fits ?_));dsimp only;rw[byScan_of (knd:=intKind prog w) (x:=Value.int k tk) rfl zb H.el];simp only[↓reduceIte];unfold setAddByScan;refine ae (ae (iM (ae (wpAny_setScan_of (knd:=intKind prog w) key ho hd H.fits H.el ?_))))
 by_cases hk:k∈ks
 ·obtain⟨e,he,q⟩:=H.mem.mp hk
  cases hr:es.toList.findIdx? (λe=>(intKind prog w).is k e.2)with
  |none =>
   have:=Ie.mp hr e he;rw[show(intKind prog w).is k e.2=Value.isInt k e.2 from rfl,q]at this;cases this
  |some j =>
   refine ah (ah ?_);have e0:s = {s with heap:=s.heap}:=by cases s;rfl
   rw[e0];refine h false s.heap (Heap.SameBut.refl a s.heap) ?_;unfold iA;rw[if_pos hk];exact hG
 ·have hr:es.toList.findIdx? (λe=>(intKind prog w).is k e.2)=none:=by
   rw[Ie];intro e he;cases q:(intKind prog w).is k e.2 with
   |false=>rfl
   |true=>exact absurd (H.mem.mpr ⟨e,he,q⟩) hk
  rw[hr];dsimp only;have H1:=H.lay (tk:=tk) hk;have hw:=(CV (es:=es) (h:=hashInt k) (x:=Value.int k tk) H.tab).2.2.2;have fin:∀h',Heap.SameBut a s.heap h'->dq prog w h' a (ks++[k])->Q true {s with heap:=h'}:=λh' b g=>h true h' b (by unfold iA;rw[if_neg hk];exact g);have hb':(ks++[k]).length<scanBound:=by rw[dm];exact hroom
  show wpAny _ _ ((match layNew t es (hashInt k) (Value.int k tk)with | (es,t,wasDummy,gave)=>_)>>=_) _ _ _;generalize layNew t es (hashInt k) (Value.int k tk)=N at H1 hw ⊢;obtain⟨es1,t1,wd,gave⟩:=N;dsimp only at H1 hw ⊢;refine ae ?_;have on:∀(b:Bool) (s':Shared) (Q':Unit->Shared->Prop),Q' () s'->wpAny (model prog w) A (match b with|true=>rule "set.scan.the-table-gave-way" |false=>pure ()) Q' E s':=λb s' Q' q=>by
   cases b
   ·exact ah q
   ·exact iM q
  refine on gave s _ ?_
  by_cases hp:t1.plain=true
  ·rw[if_pos hp]
   refine ae ?_;rw[hashByValue_scannable 8 (x:=Value.int k tk) rfl];refine ah ?_;simp only[plainKind,↓reduceIte];exact zv on ho hx hd H1 hb' λh' b g=>ah (fin h' b g)
  ·rw[if_neg hp]
   refine ae (ah ?_);simp only[↓reduceIte];exact zv on ho hx hd H1 hb' λh' b g=>ah (fin h' b g)
end
noncomputable def numsTo(val:Nat->Int)(i:Nat):List Int:=((List.range i).map val).foldl iA []
theorem numsTo_succ(val:Nat->Int)(i:Nat):numsTo val (i+1)=iA (numsTo val i) (val i):=by
 unfold numsTo;rw[o5,f6,yu];rfl
theorem Rj(ks:List Int)(k:Int):(iA ks k).length<=ks.length+1:=by
 unfold iA
 split
 ·omega
 ·rw[dm]
  exact aC _
theorem DW(val:Nat->Int):∀i,(numsTo val i).length<=i
 |0=>aC _
 |i+1=>by
  rw[numsTo_succ];have h1:=Rj (numsTo val i) (val i);have h2:=DW val i;omega
theorem dq.moved{prog:Program}{w:World}{h h':Heap}{a:Addr}{ks:List Int}(hG:dq prog w h a ks)(k:∀o,h.get? a=some o->h'.get? a=some o):dq prog w h' a ks:=
 let⟨o,es,ep,t,ho,q⟩:=hG;⟨o,es,ep,t,k o ho,q⟩
section
variable {prog:Program} {w:World} {A:Around} {R:Result->Shared->Prop} {it:Addr} {fp wr:List Addr} {Gn:Array GenState->Array GenState->Prop} {n:Nat} {P:Nat->Value->Prop} {St:Nat->Shared->Prop}
theorem Ak(W:WalksS prog w A.in1 it fp wr Gn n P St)(a:Addr)(ha:a ∉ fp)(val:Nat->Int)(hv:∀i v,P i v->∃t,v = .int (val i) t)(hb:n+1<scanBound):∀(k i:Nat) (s:Shared),n - i=k->i<=n->St i s->dq prog w s.heap a (numsTo val i)->(∀s',PySem.Moved (a::wr) Gn s s'->dq prog w s'.heap a (numsTo val n)->R (.ok (.ret .none)) s') ->
   codeAny (model prog w) A (.builtin "set.update.loop" ⟨[.ref a,.ref it],[]⟩) R s
 |0,i,s,hk,hi,hst,hG,hR=>by
  have ei:i=n:=by omega
  subst ei;have haw:a ∉ wr:=λh=>ha (W.sub _ h);refine(gU F.entry_set_update_loop ?_);rw[show _=_ from yW yS _];show wpAny _ A.in1 (pyNext (.ref it)>>=_) _ _ s;refine ae (W.done s _ _ hst λs1 hm=>ah (hR s1 (hm.mono λb hb=>bI _ hb) (hG.moved λo e=>hm.heap a o haw e)))
 |k+1,i,s,hk,hi,hst,hG,hR=>by
  have haw:a ∉ wr:=λh=>ha (W.sub _ h);have hlt:i<n:=by omega
  refine(gU F.entry_set_update_loop ?_);rw[show _=_ from yW yS _];show wpAny _ A.in1 (pyNext (.ref it)>>=_) _ _ s;refine ae (W.item i s _ _ hlt hst λv s1 hP Nf hm=>?_);obtain⟨t,rfl⟩:=hv i v hP;have Mb:dq prog w s1.heap a (numsTo val i):=hG.moved λo e=>hm.heap a o haw e;have hl:=DW val i;show wpAny _ A.in1 (holding [Value.int (val i) t] (setAdd a (.int (val i) t))>>=_) _ _ s1;refine ae (dG ?_);unfold setAdd;refine dG (ae ((intKind prog w).pyHash (k:=val i) (intKind_is _ _ _ _) ?_));refine add_num (s:={s1 with toks:=s1.toks+1}) Mb (by omega) λb h1 hsb Md=>?_;refine ah ⟨t_ yS _,Ak W a ha val hv hb k (i+1) _ (by omega) hlt (W.frame _ s1 _ _ Nf (lY _) λc hc o e=>?_) (by rw[numsTo_succ];exact Md) λs2 hm2 Mf=>?_⟩
  ·rw[hsb.2 c (λh=>ha (by rw[<- h];exact hc))]
   exact e
  ·refine hR s2 (PySem.Moved.trans W.gtrans ((hm.mono λb hb=>bI _ hb).then_heap (lY _) λc o hc e=>?_) hm2) Mf
   rw[hsb.2 c (λh=>hc (by rw[h];exact bO))];exact e
end
section
variable {prog:Program} {w:World} {A:Around} {E:Value->Shared->Prop} {s:Shared}
abbrev fS (w:World):Obj:={cls:=.type "set", dict:=none,data:=.set #[] 0 (.fresh 0 0 (!w.params.followText "set-order"))}
theorem Pz{h:Heap}{a:Addr}(e:h.get? a=some (fS w)):dq prog w h a []:=
 ⟨_,#[],0,_,e,⟨rfl,rfl,rfl⟩,rfl,λe he=>by simp at he,rfl,Ur _ _ _,rfl,by simp,by simp⟩
theorem Sx(x:Value){Q1:Value->Shared->Prop}(h:Q1 (.ref s.heap.objs.size) {s with heap:=s.heap.push (fS w)}):
  codeAny (model prog w) A (.call (.builtin "set.__new__") ⟨[.type "set", x],[]⟩) (wants Q1 E) s:=by
 refine codeAny_of_tree (?_:wpAny _ A.in1 (do checkBuiltinCall "set.__new__" ⟨[.type "set", x],[]⟩;again (.builtin "set.__new__" ⟨[.type "set", x],[]⟩)) _ _ s);refine ae (pz (F.newCall_set_1 x) (ah ⟨t_ F.plain_set_new _,(gU F.entry_set_new ?_)⟩));rw[show _=_ from yW F.plain_set_new _];unfold Builtin.«set.__new__» Builtin.Frozenset.newClass;have hsub:=sub_set_self;obtain⟨hp,g,d,tk,os⟩:=s;dsimp only
 wp_walk
 refine zj (ah ?_);dsimp only;simp only[newObj];exact ae (wpAny_alloc (ah (ah h)))
theorem Sy{l:Addr}{its:Array Value}{ns:List Int}{Q:Value->Shared->Prop}(hh:A.handled=none)(hL:s.heap.IsList l its)(hI:IntsAre its.toList ns)(hb:its.size+1<scanBound)
  (h:∀(h':Heap) (tk:Nat),dq prog w h' s.heap.objs.size (numsTo (λi=>ns.getD i 0) its.size)->(∀b o,b<s.heap.objs.size->s.heap.get? b=some o->h'.get? b=some o)->Q (.ref s.heap.objs.size) {s with heap:=h',toks:=tk}) :
  wpAny (model prog w) A (call (.type "set") [.ref l]) Q E s:=by
 obtain⟨c,tl,hmro⟩:=jk.mro;have hmade:=jk.made;have hsub:=jk.sub;refine iL (codeAny_of_tree (?_:wpAny _ _ (callAny (.type "set") _) _ _ _));refine ah ⟨tY _ (by decide +kernel),(gU F.entry_type_call ?_)⟩;rw[show _=_ from Around.under_plain (weight_type_call_type "set" [.ref l] []) rfl];have hnT:=jk.notType;have hcC:=jk.canCreate;have hct:=F.typeCall_set_1 (.ref l)
 repeat any_goals first|assumption|wp_step
 refine eL (Sx (.ref l) (E:=E) (Q1:=λobj s1=>obj = .ref s.heap.objs.size/\s1 = {s with heap:=s.heap.push (fS w)}) ⟨rfl,rfl⟩) λr s1 hr=>?_;cases r with
 |error e=>exact hr
 |ok fl =>
  cases fl with
  |ret obj =>
   obtain⟨rfl,rfl⟩:=hr;have gS:(s.heap.push (fS w)).get? s.heap.objs.size=some (fS w):=aX _ rfl;have hT:Shared.TypeIs {s with heap:=s.heap.push (fS w)} (.ref s.heap.objs.size) "set" :=⟨_,gS,rfl⟩;have hli:=jk.init.lookup;have hbi:=jk.init.bind (.ref s.heap.objs.size)
   repeat any_goals first|assumption|wp_step
   refine eL (codeAny_call_builtin (R:=wants (λr s2=>r = .none/\∃h' tk,s2 = {s with heap:=h',toks:=tk}/\dq prog w h' s.heap.objs.size (numsTo (λi=>ns.getD i 0) its.size) /\
     (∀b o,b<s.heap.objs.size->s.heap.get? b=some o->h'.get? b=some o)) E) jk.init.plain F.entry_set_init (check_set_init_1 hT ?_)) λr2 s2 hr2=>?_
   ·obtain⟨⟨VR,odi,oda,osl⟩,hol,hcl,nl,hdl⟩:=hL
    simp only at hcl hdl;subst hcl hdl;have hlS:l<s.heap.objs.size:=aI hol;have hol1:(s.heap.push (fS w)).get? l=some {cls:=.type "list", dict:=odi,data:=.seq its nl,slots:=osl}:=aB _ hol;have hL1:(s.heap.push (fS w)).IsList l its:=⟨_,hol1,rfl,nl,rfl⟩;have q1:=F.sub_list_set;have q2:=F.sub_list_frozenset;have q3:(Value.type "list" == Value.type "dict")=false:=by decide
    unfold Builtin.«set.__init__» noKeywords Builtin.Frozenset.updateFrom;generalize hPI:pyIter=PI
    wp_walk
    subst hPI;refine ud hL1 (ae (uf ?_));have h3:A.in1.in1.in1.handled=none:=by simp[hh]
    have ju:(s.heap.push (fS w)).objs.size=s.heap.objs.size+1:=d6 ..;have nI:l≠(s.heap.push (fS w)).objs.size:=by rw[ju];exact aY (o7 hlS)
    have nF:s.heap.objs.size ∉ [(s.heap.push (fS w)).objs.size,l]:=by
     rw[ju];intro z
     rcases aP.mp z with z|z
     ·exact absurd z (aY (l0 _))
     ·exact absurd (bJ.mp z) (eK hlS)
    refine Ak ((Walks.list h3 _ l nI its).toS) s.heap.objs.size nF (λi=>ns.getD i 0) (λi v hv=>IntsAre.int_at hI i v (by rw[oH];exact hv)) hb its.size 0 _ (by omega) (cA _) ⟨⟨_,aX _ rfl,rfl,rfl⟩,(hL1.push _)⟩ (Pz (aB _ gS)) ?_;intro s3 hm hG;obtain⟨h',g',d',tk',os'⟩:=s3;have eg:g'=s.gens:=hm.gens;have ed:d'=s.drawn:=hm.drawn;have eo:os'=s.os:=hm.os;subst eg ed eo;refine ah (?_:wpAny _ _ (ret Value.none) _ _ _);refine ah ⟨rfl,h',tk',rfl,hG,λb o hb e=>?_⟩;refine hm.heap b o (λz=>?_) (aB _ (aB _ e))
    rcases aP.mp z with z|z
    ·exact absurd z (aY hb)
    ·have:=bJ.mp z
     rw[ju]at this;exact absurd this (aY (o7 hb))
   ·cases r2 with
    |error e=>exact hr2
    |ok KS =>
     cases KS with
     |ret r =>
      obtain⟨rfl,h',tk,rfl,hG,hk⟩:=hr2
      repeat any_goals first|assumption|wp_step
      exact h _ _ hG hk
     |_=>exact hr2.elim
  |_=>exact hr.elim
end
theorem fW:Slot "set_iterator" "__next__" "set_iterator.__next__" :=.of (owner:= "set_iterator") (n:= "__next__") (by rw[typeLookup_type,builtinLookup_eq_fast];kernel_rfl) (by decide +kernel) (by decide +kernel) (by decide +kernel) (by first|exact .inl (by decide +kernel)|exact .inr (by decide +kernel)) (by rw[isSubtype_type];kernel_rfl)
theorem pR:entryFor table "set_iterator.__next__" = some Builtin.«set_iterator.__next__»:=entryFor_of_tree (by kernel_rfl)
theorem GQ:Slot "set_iterator" "__iter__" "set_iterator.__iter__" :=.of (owner:= "set_iterator") (n:= "__iter__") (by rw[typeLookup_type,builtinLookup_eq_fast];kernel_rfl) (by decide +kernel) (by decide +kernel) (by decide +kernel) (by first|exact .inl (by decide +kernel)|exact .inr (by decide +kernel)) (by rw[isSubtype_type];kernel_rfl)
theorem Ky:entryFor table "set_iterator.__iter__" = some Builtin.«dict_keyiterator.__iter__»:=entryFor_alias (id':= "dict_keyiterator.__iter__") (by kernel_rfl) (by first|rfl|decide +kernel) (by decide +kernel) (by kernel_rfl)
theorem Kx:entryFor table "set.__iter__" = some Builtin.«frozenset.__iter__»:=entryFor_alias (id':= "frozenset.__iter__") (by kernel_rfl) (by first|rfl|decide +kernel) (by decide +kernel) (by kernel_rfl)
theorem Eu:Manifest.owners.lookup (String.ofList ['r','o','t','a','r','e','t','i','_','t','e','s'].reverse)=some Manifest.sig_set_iterator:=by kernel_rfl
abbrev fN (h:Heap) (it:Addr) (f0:Value) (i:Nat) (a:Addr) (n ep:Nat):Prop:=
 h.get? it=some {cls:=.type "set_iterator", dict:=none,data:=.fields #[f0,rawInt i,.ref a,rawInt n,rawInt ep],slots:=#[]}
section
variable {prog:Program} {w:World} {A:Around} {E:Value->Shared->Prop} {s:Shared} {it a:Addr} {i n ep:Nat} {es:Array (Int × Value)} {t:SetTable} {o:Obj} {x:Value}
theorem pF (v:Value):argsOk "set_iterator.__next__" ⟨[v],[]⟩:=by
 unfold argsOk;rw[signature?_of (id:= "set_iterator.__next__") (n:=['_','_','t','x','e','n','_','_']) (o:=['r','o','t','a','r','e','t','i','_','t','e','s']) (by kernel_rfl) Eu]
 kernel_rfl
theorem Ji (v:Value):argsOk "set_iterator.__iter__" ⟨[v],[]⟩:=by
 unfold argsOk;rw[signature?_of (id:= "set_iterator.__iter__") (n:=['_','_','r','e','t','i','_','_']) (o:=['r','o','t','a','r','e','t','i','_','t','e','s']) (by kernel_rfl) Eu]
 kernel_rfl
theorem GK{sl nx:Nat}{Q:Option Value->Shared->Prop}(hit:fN s.heap it (rawInt sl) i a es.size ep)(ho:s.heap.get? a=some o)(hd:o.data = .set es ep t)(hf:t.fits es.size=true)(hn:∀{A':Around} {E':Value->Shared->Prop} {Q':Option (Value × Nat)->Shared->Prop},Q' (some (x,nx)) s->wpAny (model prog w) A' (setNext a sl i ep) Q' E' s)
  (hQ:∀h',fN h' it (rawInt nx) (i+1) a es.size ep->Heap.SameBut it s.heap h'->Q (some x) {s with heap:=h'}):wpAny (model prog w) A (pyNext (.ref it)) Q E s:=by
 have hT:s.TypeIs (.ref it) "set_iterator" :=⟨_,hit,rfl⟩;unfold pyNext;refine ae (fL (gW (name:=Str.ofString "__next__") hT fW (eN fW hT pR ?_ (pF _))));show wpAny _ _ (fieldsOf (.ref it)>>=_) _ _ s;refine ae (mC hit rfl ?_);show wpAny _ _ (setEntries a>>=_) _ _ s;refine ae (pA ho hd hf ?_);dsimp only;rw[if_neg (by simp)];show wpAny _ _ (setNext a (sl:Int).toNat (i:Int).toNat (ep:Int).toNat>>=_) _ _ s;rw[bX,bX,bX];refine ae (hn ?_);dsimp only;refine ae (fM hit (by simp) λh1 hit1 e1=>ae (fM (s:={s with heap:=h1}) hit1 (by simp) λh2 hit2 e2=>?_));exact ah ⟨x,rfl,ah (hQ h2 hit2 (e1.trans e2))⟩
theorem G6 {B:Around} {Q:Fin->Shared->Prop} {E':Value->Shared->Prop} (hh:B.handled=none) (h:∀h' e,(∀b o,s.heap.get? b=some o->h'.get? b=some o)->(∃o,h'.get? e=some o/\o.cls = .type "StopIteration")->E' (.ref e) {s with heap:=h'}) :
  wpAny (model prog w) B (do let x <- newExc (.type "StopIteration") [];raiseNew x) Q E' s:=by
 refine ae ?_;simp only[newExc,newTuple];refine ae (gX ?_ (by size_fits));refine ae (m:=firstArgMember _ _) (pz (a:=Value.none) (by first|rfl | (simp only[firstArgMember];rfl)) ?_);refine gX ?_ (by size_fits);simp only[raiseNew];refine ae (wpAny_handled ?_);rw[hh];refine ae (ah (wpAny_throw ?_));exact h _ _ (λb o e=>aB _ (aB _ e)) ⟨_,aX _ rfl,rfl⟩
theorem GJ{sl:Nat}{Q:Option Value->Shared->Prop}(hh:A.handled=none)(hit:fN s.heap it (rawInt sl) i a es.size ep)(ho:s.heap.get? a=some o)(hd:o.data = .set es ep t)(hf:t.fits es.size=true)(hn:∀{A':Around} {E':Value->Shared->Prop} {Q':Option (Value × Nat)->Shared->Prop},Q' none s->wpAny (model prog w) A' (setNext a sl i ep) Q' E' s)
  (hQ:∀h',(∀b o,b≠it->s.heap.get? b=some o->h'.get? b=some o)->Q none {s with heap:=h'}):wpAny (model prog w) A (pyNext (.ref it)) Q E s:=by
 have hT:s.TypeIs (.ref it) "set_iterator" :=⟨_,hit,rfl⟩;unfold pyNext;refine ae (fL (gW (name:=Str.ofString "__next__") hT fW (eN fW hT pR ?_ (pF _))));show wpAny _ _ (fieldsOf (.ref it)>>=_) _ _ s;refine ae (mC hit rfl ?_);show wpAny _ _ (setEntries a>>=_) _ _ s;refine ae (pA ho hd hf ?_);dsimp only;rw[if_neg (by simp)];show wpAny _ _ (setNext a (sl:Int).toNat (i:Int).toNat (ep:Int).toNat>>=_) _ _ s;rw[bX,bX,bX];refine ae (hn ?_);dsimp only;refine ae (fM hit (by simp) λh1 _ e1=>G6 (s:={s with heap:=h1}) (by first|exact hh | (show A.handled=none;exact hh)) λh2 e k2 he=>?_);obtain⟨oe,hoe,hce⟩:=he;refine ae (pq (T:= "StopIteration") (b:=true) ⟨oe,hoe,hce⟩ t9 (ah (hQ h2 λb o hb e'=>k2 b o (e1.extBut b o hb e'))))
end
theorem uQ{α:Type}:∀(l:List α) (i:Nat) (h:i<l.length),(l[i]::l.eraseIdx i).Perm l
 |x::l,0,_=>.refl _
 |x::l,i+1,h=>by
  rw[List.eraseIdx_cons_succ,List.getElem_cons_succ];exact(List.Perm.swap _ _ _).trans ((uQ l i (by simpa using h)).cons x)
theorem Fm{α:Type}(f:Nat->Nat):∀(fuel k:Nat) (left:List α) (out:Array α),left.length<=fuel->(pickOrder.go f fuel k left out).toList.Perm (out.toList++left)
 |0,k,left,out,h=>by
  have:left = []:=Ic (by omega);subst this;unfold pickOrder.go;rw[j5]
 |fuel+1,k,left,out,h=>by
  unfold pickOrder.go;cases left with
  |nil=>simp
  |cons y r =>
   have hi:f k % (y::r).length<(y::r).length:=Nat.mod_lt _ (by simp);rw[aK hi];dsimp only;refine(Fm f fuel (k+1) _ _ (by rw[Ij hi];omega)).trans ?_;rw[lH,List.append_assoc];refine List.Perm.append_left _ ?_;exact uQ _ _ hi
theorem wV{α:Type}(f:Nat->Nat)(xs:Array α):(pickOrder f xs).toList.Perm xs.toList:=by
 unfold pickOrder;have:=Fm f xs.size 0 xs.toList #[] (by simp);simpa using this
section
variable {prog:Program} {w:World} {A:Around} {E:Value->Shared->Prop} {s:Shared} {it a:Addr} {i n ep:Nat} {es:Array (Int × Value)} {t:SetTable} {o:Obj} {x:Value}
theorem pH {Q:Bool->Shared->Prop} (h:Q (w.params.followText "set-order") s):wpAny (model prog w) A setsByText Q E s:=by
 unfold setsByText;exact ae (zj (ah h))
theorem Dz {sl:Nat} {Q:Option (Value × Nat)->Shared->Prop} (ho:s.heap.get? a=some o) (hd:o.data = .set es ep t) (hf:t.fits es.size=true) (hT:w.params.followText "set-order" = false) (hp:(!t.plain&&decide (es.size > 1))=false) (hl:t.led=true)
  (h:Q (match es[SetTable.below t.place sl]?,t.place[SetTable.below t.place sl]? with|some (_,x),some j=>some (x,j+1)|_,_=>none) s):wpAny (model prog w) A (setNext a sl i ep) Q E s:=by
 unfold setNext;refine ae (mD ho hd hf (ae (pH ?_)));rw[hT];show wpAny _ _ (if(!t.plain&&decide (es.size > 1))=true then _ else _) _ _ _;rw[hp];show wpAny _ _ ((if(!t.led&&!es.isEmpty)=true then unsupported _ else pure ())>>=_) _ _ _;rw[hl];exact ae (ah (ah h))
theorem DG {sl:Nat} {Q:Option (Value × Nat)->Shared->Prop} (ho:s.heap.get? a=some o) (hd:o.data = .set es ep t) (hf:t.fits es.size=true) (hT:w.params.followText "set-order" = true)
  (h:Q (((pickOrder (w.params.setOrder a ep) es)[i]?).map λe=>(e.2,sl)) s):wpAny (model prog w) A (setNext a sl i ep) Q E s:=by
 unfold setNext;refine ae (mD ho hd hf (ae (pH ?_)));rw[hT];rw[if_pos rfl];dsimp only;rw[if_neg (by simp)];refine ae ?_;unfold setWalk;refine ae (mD ho hd hf (ae (pH ?_)));rw[hT];show wpAny _ _ (do let y <- ask;pure (pickOrder (y.params.setOrder a ep) es)) _ _ _;exact ae (zj (ah (ah h)))
theorem Jh{src:Source}{k:Nat}{Q:Nat->Shared->Prop}(hk:k≠0)(h:∀j d',j<k->Q j {s with drawn:=d'}):wpAny (model prog w) A (choose src k) Q E s:=λΓ p _=>by
 unfold choose;rw[Sem.wp_choose];exact⟨hk,h _ _ (Nat.mod_lt _ (gP hk))⟩
theorem z7{α:Type}:∀(k:Nat) (xs:List α) (s:Shared) (Q:List α->Shared->Prop),k=xs.length->(∀ys d',ys.Perm xs->Q ys {s with drawn:=d'})->wpAny (model prog w) A (drawOrder k xs) Q E s
 |0,xs,s,Q,hk,h=>by
  have:xs = []:=Ic hk.symm;subst this;unfold drawOrder;have:=h [] s.drawn (.refl _);exact ah this
 |k+1,[],s,Q,hk,h=>by cases hk
 |k+1,y::r,s,Q,hk,h=>by
  unfold drawOrder;refine ae (Jh (by simp) λj d' hj=>?_);rw[aK hj];dsimp only;refine ae (z7 k _ _ _ (by rw[Ij hj,<- hk];rfl) λys d2 hp=>?_);exact ah (h _ d2 ((hp.cons _).trans (uQ _ _ hj)))
theorem SN {T:Addr} {items:Array Value} {p:Nat} {hx:Int} {Q:Option Value->Shared->Prop} (hit:fN s.heap it (.ref T) i a es.size ep) (hT':s.heap.get? T=some {cls:=.type "tuple", data:=.seq items}) (ho:s.heap.get? a=some o) (hd:o.data = .set es ep t) (hf:t.fits es.size=true) (h1:items[i]?=some (rawInt p)) (h2:es[p]?=some (hx,x))
  (hQ:∀h',fN h' it (.ref T) (i+1) a es.size ep->Heap.SameBut it s.heap h'->Q (some x) {s with heap:=h'}):wpAny (model prog w) A (pyNext (.ref it)) Q E s:=by
 have hT:s.TypeIs (.ref it) "set_iterator" :=⟨_,hit,rfl⟩;unfold pyNext;refine ae (fL (gW (name:=Str.ofString "__next__") hT fW (eN fW hT pR ?_ (pF _))));show wpAny _ _ (fieldsOf (.ref it)>>=_) _ _ s;refine ae (mC hit rfl ?_);show wpAny _ _ (setEntries a>>=_) _ _ s;refine ae (pA ho hd hf ?_);dsimp only;rw[if_neg (by simp)];show wpAny _ _ (seqItems? (.ref T)>>=_) _ _ s;refine ae (gY hT' rfl ?_);dsimp only;rw[bX,h1];show wpAny _ _ (setNextDrawn a (p:Int).toNat (ep:Int).toNat>>=_) _ _ s;rw[bX,bX];refine ae ?_;unfold setNextDrawn;refine ae (mD ho hd hf ?_);dsimp only;rw[if_neg (by simp),h2];refine ah (ae (fM hit (by simp) λh1 hit1 e1=>?_));exact ah ⟨x,rfl,ah (hQ h1 hit1 e1)⟩
theorem SM {T:Addr} {items:Array Value} {Q:Option Value->Shared->Prop} (hh:A.handled=none) (hit:fN s.heap it (.ref T) i a es.size ep) (hT':s.heap.get? T=some {cls:=.type "tuple", data:=.seq items}) (ho:s.heap.get? a=some o) (hd:o.data = .set es ep t) (hf:t.fits es.size=true) (h1:items[i]?=none)
  (hQ:∀h',(∀b o,b≠it->s.heap.get? b=some o->h'.get? b=some o)->Q none {s with heap:=h'}):wpAny (model prog w) A (pyNext (.ref it)) Q E s:=by
 have hT:s.TypeIs (.ref it) "set_iterator" :=⟨_,hit,rfl⟩;unfold pyNext;refine ae (fL (gW (name:=Str.ofString "__next__") hT fW (eN fW hT pR ?_ (pF _))));show wpAny _ _ (fieldsOf (.ref it)>>=_) _ _ s;refine ae (mC hit rfl ?_);show wpAny _ _ (setEntries a>>=_) _ _ s;refine ae (pA ho hd hf ?_);dsimp only;rw[if_neg (by simp)];show wpAny _ _ (seqItems? (.ref T)>>=_) _ _ s;refine ae (gY hT' rfl ?_);dsimp only;rw[bX,h1];refine ae (fM hit (by simp) λg1 hit1 e1=>ae (fM (s:={s with heap:=g1}) hit1 (by simp) λg2 _ e2=>G6 (s:={s with heap:=g2}) (by first|exact hh | (show A.handled=none;exact hh)) λg3 e k3 he=>?_));obtain⟨oe,hoe,hce⟩:=he;refine ae (pq (T:= "StopIteration") (b:=true) ⟨oe,hoe,hce⟩ t9 (ah (hQ g3 λb o hb e'=>k3 b o (e2.extBut b o hb (e1.extBut b o hb e')))))
end
inductive iN where
 |tab
 |text
 |draw (T:Addr) (ps:List Nat)
noncomputable def slotAt(ps:Array Nat):Nat->Nat
 |0=>0
 |i+1=>ps.getD i 0+1
noncomputable def uh(m:iN)(it a:Addr)(o:Obj)(es:Array (Int × Value))(ep:Nat)(t:SetTable)(i:Nat)(h:Heap):Prop:=h.get? a=some o/\match m with
 |.tab=>fN h it (rawInt (slotAt t.place i)) i a es.size ep
 |.text=>fN h it (rawInt (0:Nat)) i a es.size ep
 |.draw T ps=>fN h it (.ref T) i a es.size ep/\h.get? T=some {cls:=.type "tuple", data:=.seq (ps.map λp:Nat=>rawInt p).toArray}
noncomputable def pC(w:World)(m:iN)(a:Addr)(es:Array (Int × Value))(ep:Nat):List Value:=match m with
 |.tab=>es.toList.map (·.2)
 |.text=>(pickOrder (w.params.setOrder a ep) es).toList.map (·.2)
 |.draw _ ps=>ps.map λp=>(es.getD p (0,.none)).2
noncomputable def pB(w:World)(m:iN)(es:Array (Int × Value))(t:SetTable):Prop:=match m with
 |.tab=>w.params.followText "set-order" = false/\(!t.plain&&decide (es.size > 1))=false/\t.led=true/\eO t.place
 |.text=>w.params.followText "set-order" = true
 |.draw _ ps=>ps.Perm (List.range es.size)
noncomputable def eZ(m:iN)(it a:Addr):List Addr:=match m with
 |.draw T _=>[it,a,T]
 |_=>[it,a]
theorem O9{es:Array (Int × Value)}:(List.range es.size).map (λp=>(es.getD p (0,Value.none)).2)=es.toList.map (·.2):=by
 apply jg
 ·simp
 ·intro i h1 h2
  have hi:i<es.size:=by simpa using h1
  simp[Array.getD,hi]
theorem G8{w:World}{m:iN}{a:Addr}{es:Array (Int × Value)}{ep:Nat}{t:SetTable}(h:pB w m es t):(pC w m a es ep).Perm (es.toList.map (·.2)):=by
 cases m with
 |tab=>exact .refl _
 |text=>exact(wV _ es).map _
 |draw T ps =>
  have:=List.Perm.map (λp=>(es.getD p (0,Value.none)).2) h;rw[O9]at this;exact this
theorem Tx{w:World}{m:iN}{a:Addr}{es:Array (Int × Value)}{ep:Nat}{t:SetTable}(h:pB w m es t):(pC w m a es ep).length=es.size:=by
 rw[(G8 h).length_eq,ay,fC]
section
variable {prog:Program} {w:World} {A:Around} {m:iN} {it a:Addr} {ep:Nat} {es:Array (Int × Value)} {t:SetTable} {o:Obj}
theorem GP(hr:eO t.place){i:Nat}(hi:i<=t.place.size):SetTable.below t.place (slotAt t.place i)=i:=by
 cases i with
 |zero=>exact Jn hr
 |succ i=>exact Jm hr (by omega)
theorem Sz(hh:A.handled=none)(hd:o.data = .set es ep t)(hf:t.fits es.size=true)(ok:pB w m es t)(hne:it≠a)(hT:∀T ps,m = .draw T ps->T≠it):Walks prog w A it (eZ m it a) [it] es.size (λi v=>(pC w m a es ep)[i]?=some v) (uh m it a o es ep t) where
 sub:=λb hb=>by
  have:b=it:=bJ.mp hb;subst this;cases m<;>simp[eZ]
 frame:=λi h h' st k=>by
  obtain⟨h1,h2⟩:=st;cases m with
  |tab=>exact⟨k a (by simp[eZ]) _ h1,k it (by simp[eZ]) _ h2⟩
  |text=>exact⟨k a (by simp[eZ]) _ h1,k it (by simp[eZ]) _ h2⟩
  |draw T ps=>exact⟨k a (by simp[eZ]) _ h1,k it (by simp[eZ]) _ h2.1,k T (by simp[eZ]) _ h2.2⟩
 item:=λi s Q E hi st hQ=>by
  have hps:t.place.size=es.size:=by
   unfold SetTable.fits at hf;rw[cq,eP]at hf;exact hf.1
  obtain⟨h1,h2⟩:=st;have other:∀h',Heap.SameBut it s.heap h'->∀b o,b ∉ [it]->s.heap.get? b=some o->h'.get? b=some o:=λh' e b o hb q=>e.extBut b o (λz=>hb (by rw[z];simp)) q;have same:s = {s with toks:=s.toks}:=by cases s;rfl
  cases m with
  |tab =>
   obtain⟨o1,o2,o3,o4⟩:=ok;have eb:=GP o4 (i:=i) (by omega);refine GK (x:=es[i].2) (nx:=t.place.getD i 0+1) h2 h1 hd hf (λ{A' E' Q'} q=>Dz h1 hd hf o1 o2 o3 ?_) λh' hit e=>hQ es[i].2 h' s.toks ?_ ⟨other h' e a _ (by simpa using λz=>hne z.symm) h1,hit⟩ (other h' e)
   ·rw[eb,gK hi,gK (by omega)]
    have e2:t.place.getD i 0=t.place[i]'(by omega):=by simp[Array.getD,show i<t.place.size by omega]
    rw[e2]at q;exact q
   ·show(es.toList.map (·.2))[i]?=_
    rw[bT,oH,gK hi];rfl
  |text =>
   have hl:i<(pickOrder (w.params.setOrder a ep) es).size:=by
    have:=(wV (w.params.setOrder a ep) es).length_eq;rw[fC,fC]at this;omega
   refine GK (x:=((pickOrder (w.params.setOrder a ep) es)[i]).2) (nx:=0) h2 h1 hd hf (λ{A' E' Q'} q=>DG h1 hd hf ok ?_) λh' hit e=>hQ _ h' s.toks ?_ ⟨other h' e a _ (by simpa using λz=>hne z.symm) h1,hit⟩ (other h' e)
   ·rw[gK hl]
    exact q
   ·show((pickOrder (w.params.setOrder a ep) es).toList.map (·.2))[i]?=_
    rw[bT,oH,gK hl];rfl
  |draw T ps =>
   have hpl:ps.length=es.size:=by rw[List.Perm.length_eq ok,lU]
   have hp:ps[i]<es.size:=j9.mp (List.Perm.mem_iff ok |>.mp (j7 (by omega)));refine SN (p:=ps[i]) (hx:=es[ps[i]].1) (x:=es[ps[i]].2) h2.1 h2.2 h1 hd hf ?_ ?_ λh' hit e=>hQ _ h' s.toks ?_ ⟨other h' e a _ (by simpa using λz=>hne z.symm) h1,hit,other h' e T _ (by simpa using hT T ps rfl) h2.2⟩ (other h' e)
   ·simp[show i<ps.length by omega]
   ·rw[gK hp]
   ·show(ps.map λp=>(es.getD p (0,Value.none)).2)[i]?=_
    rw[bT,aK (by omega)];simp[Array.getD,hp]
 done:=λs Q E st hQ=>by
  have hps:t.place.size=es.size:=by
   unfold SetTable.fits at hf;rw[cq,eP]at hf;exact hf.1
  obtain⟨h1,h2⟩:=st;have fin:∀h',(∀b o,b≠it->s.heap.get? b=some o->h'.get? b=some o)->Q none {s with heap:=h'}:=λh' k=>hQ h' s.toks λb o hb q=>k b o (λz=>hb (by rw[z];simp)) q;cases m with
  |tab =>
   obtain⟨o1,o2,o3,o4⟩:=ok;have eb:=GP o4 (i:=es.size) (by omega);refine GJ hh h2 h1 hd hf (λ{A' E' Q'} q=>Dz h1 hd hf o1 o2 o3 ?_) fin;rw[eb,sU (aC _)];exact q
  |text =>
   refine GJ hh h2 h1 hd hf (λ{A' E' Q'} q=>DG h1 hd hf ok ?_) fin;have:=(wV (w.params.setOrder a ep) es).length_eq;rw[fC,fC]at this;rw[sU (by omega)];exact q
  |draw T ps =>
   have hpl:ps.length=es.size:=by rw[List.Perm.length_eq ok,lU]
   refine SM hh h2.1 h2.2 h1 hd hf ?_ fin;simp[hpl]
 self:=λi s Q E st hQ=>by
  have hit:∃f0,fN s.heap it f0 i a es.size ep:=by
   obtain⟨_,h2⟩:=st;cases m with
   |tab=>exact⟨_,h2⟩
   |text=>exact⟨_,h2⟩
   |draw T ps=>exact⟨_,h2.1⟩
  obtain⟨f0,hit⟩:=hit;have hT:s.TypeIs (.ref it) "set_iterator" :=⟨_,hit,rfl⟩;exact zo hT GQ (eN GQ hT Ky (show wpAny _ _ (ret (.ref it)) _ _ s from ah ⟨_,rfl,"set_iterator", _,hT,fW.lookup,hQ⟩) (Ji _))
end
section
variable {prog:Program} {w:World} {A:Around} {E:Value->Shared->Prop} {s:Shared} {a:Addr} {ep:Nat} {es:Array (Int × Value)} {t:SetTable} {o:Obj} {ks:List Int}
theorem NX{Q:Value->Shared->Prop}(ho:s.heap.get? a=some o)(hx:o.ExactSet)(hd:o.data = .set es ep t)(H:d8 prog w es t ks)(hz:es.size<=1000)
  (hQ:∀(m:iN) (it:Addr) (h':Heap) d',pB w m es t->uh m it a o es ep t 0 h'->it≠a->(∀T ps,m = .draw T ps->T≠it)->s.heap.objs.size<=it->(∀T ps,m = .draw T ps->s.heap.objs.size<=T)->(∀b o,s.heap.get? b=some o->h'.get? b=some o)->Q (.ref it) {s with heap:=h',drawn:=d'}) :
  wpAny (model prog w) A (pyIter (.ref a)) Q E s:=by
 have hT:s.TypeIs (.ref a) "set" :=⟨o,ho,hx.1⟩;refine zo hT F.slot_set_iter (eN F.slot_set_iter hT Kx ?_ (F.args_set_iter_1 _));unfold Builtin.«frozenset.__iter__»;have hsz:∀{s1:Shared} {f0:Value} {Q1:Fin->Shared->Prop},s1.heap.get? a=some o->(Q1 (.done (.ret (.ref s1.heap.objs.size))) {s1 with heap:=s1.heap.push {cls:=.type "set_iterator", data:=.fields #[f0,rawInt (0:Nat),.ref a,rawInt es.size,rawInt ep]}})->wpAny (model prog w) A.in1 (do let e <- setEpoch a;let v <- newFields "set_iterator" [f0,rawInt 0,.ref a,rawInt es.size,rawInt e];ret v) Q1 E s1:=λ{s1 f0 Q1} h1 q=>by
  refine ae (wpAny_setEpoch_of h1 hd H.fits (ae ?_));simp only[newFields];refine gX ?_ (by size_fits);exact ah q
 show wpAny _ _ (Builtin.Frozenset.sizeOf a>>=_) _ _ s;unfold Builtin.Frozenset.sizeOf;refine ae (ae (pA ho hd H.fits (ah ?_)));refine ae ?_;unfold setDrawn;refine ae (mD ho hd H.fits (ae (pH (ah ?_))));show wpAny _ _ (if(!w.params.followText "set-order" && (!t.plain&&decide (es.size > 1)))=true then _ else _) _ _ s;have hlt:a<s.heap.objs.size:=aI ho;have same:s = {s with drawn:=s.drawn}:=by cases s;rfl
 have Bn:∀(f0:Value),fN (s.heap.push {cls:=.type "set_iterator", data:=.fields #[f0,rawInt (0:Nat),.ref a,rawInt es.size,rawInt ep]}) s.heap.objs.size f0 0 a es.size ep:=λf0=>aX _ rfl
 by_cases hc:(!w.params.followText "set-order" && (!t.plain&&decide (es.size > 1)))=true
 ·rw[if_pos hc]
  have hsl:∀k,k<=1000->k<=sizeLine:=λk hk=>eJ (rM hk);refine ae (z7 es.size (List.range es.size) s _ (by simp) λps d' hp=>ae (ub ?_ (by rw[ay,hp.length_eq,lU];exact hsl _ hz)));refine hsz (s1:={s with drawn:=d',heap:=s.heap.push {cls:=.type "tuple", data:=.seq (ps.map λi:Nat=>rawInt i).toArray}}) (f0:=.ref s.heap.objs.size) (aB _ ho) ?_;refine⟨_,rfl,"set_iterator", _,⟨_,aX _ rfl,rfl⟩,fW.lookup,?_⟩;have e1:(s.heap.push {cls:=.type "tuple", data:=.seq (ps.map λi:Nat=>rawInt i).toArray}).objs.size=s.heap.objs.size+1:=d6 ..;refine hQ (.draw s.heap.objs.size ps) _ _ d' hp ⟨aB _ (aB _ ho),aX _ rfl,aB _ (aX _ rfl)⟩ ?_ (λT ps' z=>?_) ?_ (λT ps' z=>?_) λb o' e=>aB _ (aB _ e)
  ·show(s.heap.push _).objs.size≠a
   rw[e1];exact eK (o7 hlt)
  ·cases z
   show s.heap.objs.size≠(s.heap.push _).objs.size;rw[e1];exact aY (l0 _)
  ·show s.heap.objs.size<=(s.heap.push _).objs.size
   rw[e1];exact lY _
  ·cases z
   exact aC _
 ·rw[if_neg hc]
  refine ae (ah (hsz ho ?_));refine⟨_,rfl,"set_iterator", _,⟨_,aX _ rfl,rfl⟩,fW.lookup,?_⟩;have keep:∀b o',s.heap.get? b=some o'->(s.heap.push {cls:=.type "set_iterator", data:=.fields #[rawInt (0:Nat),rawInt (0:Nat),.ref a,rawInt es.size,rawInt ep]}).get? b=some o':=λb o' e=>aB _ e
  by_cases hT2:w.params.followText "set-order" = true
  ·exact hQ .text _ _ s.drawn hT2 ⟨keep a o ho,Bn _⟩ (eK hlt) (λT ps z=>nomatch z) (aC _) (λT ps z=>nomatch z) keep
  ·have hT2:w.params.followText "set-order" = false:=by simpa using hT2
   rw[hT2]at hc;have hc:(!t.plain&&decide (es.size > 1))=false:=by simpa using hc
   have hps:t.place.size=es.size:=by
    have:=H.fits;unfold SetTable.fits at this;rw[cq,eP]at this;exact this.1
   have hr:eO t.place:=by
    cases hp:t.plain with
    |true=>exact H.tab.rise hp
    |false =>
     rw[hp]at hc;have:¬ es.size > 1:=by simpa using hc
     intro i j hij hj;omega
   exact hQ .tab _ _ s.drawn ⟨hT2,hc,by rw[H.led,hT2];rfl,hr⟩ ⟨keep a o ho,Bn _⟩ (eK hlt) (λT ps z=>nomatch z) (aC _) (λT ps z=>nomatch z) keep
theorem Mw{Q:Bool->Shared->Prop}(ho:s.heap.get? a=some o)(hx:o.ExactSet)(h:Q false s):wpAny (model prog w) A (Builtin.List.listLengthHint (.ref a)) Q E s:=by
 have hT:s.TypeIs (.ref a) "set" :=⟨o,ho,hx.1⟩;unfold Builtin.List.listLengthHint;refine ae (zp hT F.slot_set_len.lookup ?_);generalize hid:("set.__len__" : String)=id0
 wp_delta
 rw[show splitId id0=some ("set","__len__")from by subst hid;decide +kernel];subst hid;refine ae (pq (T:= "set") (b:=true) hT sub_set_self ?_);refine zm (λhq=>absurd hq (by decide)) (λ_=>zm (λ_=>?_) (λhq=>absurd (by decide +kernel) hq));exact ae (wpAny_typeOf hT (ah h))
theorem Cd:∀vs:List Value,(∀v∈vs,∃k t,v = .int k t)->IntsAre vs (vs.map qH)
 | [],_=>.nil
 |v::vs,h=>by
  obtain⟨k,t,rfl⟩:=h v bO;exact .cons k t (Cd vs λv hv=>h v (bI _ hv))
theorem JW{R:List Value->Shared->Prop}(hh:A.handled=none)(hG:dq prog w s.heap a ks)(hz:ks.length<=1000)
  (h:∀vs ns h' d' tk,IntsAre vs ns->ns.Perm ks->(∀b o,s.heap.get? b=some o->h'.get? b=some o)->s.toks<=tk->R vs {s with heap:=h',drawn:=d',toks:=tk}):wpAny (model prog w) A (collect (.ref a)) R E s:=by
 obtain⟨o,es,ep,t,ho,hx,hd,H⟩:=hG;have hT:s.TypeIs (.ref a) "set" :=⟨o,ho,hx.1⟩;have hes:es.size<=1000:=by rw[H.size];exact hz
 have hlt:a<s.heap.objs.size:=aI ho;unfold collect;refine ae (uf (gU yU ?_));show wpAny _ _ (newList []>>=λl=>again (.builtin "list.__iadd__" ⟨[l,.ref a],[]⟩)) _ _ s;have old:∀b o',s.heap.get? b=some o'->(s.heap.push (seqObj "list" #[] 0)).get? b=some o':=λb o' e=>aB _ e;have gL:(s.heap.push (seqObj "list" #[] 0)).get? s.heap.objs.size=some (seqObj "list" #[] 0):=aX _ rfl;have ju:(s.heap.push (seqObj "list" #[] 0)).objs.size=s.heap.objs.size+1:=d6 ..;have haL:s.heap.objs.size≠a:=eK hlt;have add:codeAny (model prog w) A (.builtin "list.__iadd__" ⟨[.ref s.heap.objs.size,.ref a],[]⟩) (λr s'=>r = .ok (.ret (.ref s.heap.objs.size))/\∃h' d' tk acc c' ns,s' = {s with heap:=h',drawn:=d',toks:=tk}/\(∀b o,s.heap.get? b=some o->h'.get? b=some o) /\
   h'.get? s.heap.objs.size=some {cls:=.type "list", dict:=none,data:=.seq acc c',slots:=#[]}/\IntsAre acc.toList ns/\ns.Perm ks/\s.toks<=tk) {s with heap:=s.heap.push (seqObj "list" #[] 0)}:=by
  refine gU entry_list_iadd' ?_;show wpAny _ A.in1 (Builtin.List.listExtendWith (.ref s.heap.objs.size) (.ref a) (.ref s.heap.objs.size)) _ _ _;unfold Builtin.List.listExtendWith;refine ae (wpAny_typeOf (T:= "set") ⟨o,old a o ho,hx.1⟩ ?_);have q1:Builtin.List.listSameRef (.ref s.heap.objs.size) (.ref a)=false:=by simp[Builtin.List.listSameRef,haL]
  have q2:(Value.type "set" == Value.type "list")=false:=by decide
  have q3:(Value.type "set" == Value.type "tuple")=false:=by decide
  simp only[q1,q2,q3,Bool.or_false,fc,dC];refine ae (NX (s:={s with heap:=s.heap.push (seqObj "list" #[] 0)}) (old a o ho) hx hd H hes λm it h1 d1 ok st Mx hTi hge Bk k1=>?_);refine ae (dG (Mw (s:={s with heap:=h1,drawn:=d1}) (k1 a o (old a o ho)) hx ?_));have hge:s.heap.objs.size+1<=it:=by rw[<- ju];exact hge
  have hLi:s.heap.objs.size≠it:=aY hge;have hLf:s.heap.objs.size ∉ eZ m it a:=by
   cases m with
   |tab=>simp[eZ,hLi,haL]
   |text=>simp[eZ,hLi,haL]
   |draw T ps =>
    have:s.heap.objs.size+1<=T:=by rw[<- ju];exact Bk T ps rfl
    have:s.heap.objs.size≠T:=aY this;simp[eZ,hLi,haL,this]
  have W:=(Sz (prog:=prog) (A:=A.in1) (by first|exact hh | (show A.handled=none;exact hh)) hd H.fits ok Mx hTi).toS;have key:∀(h2:Heap) (c:Nat),uh m it a o es ep t 0 h2->(∀b o,s.heap.get? b=some o->h2.get? b=some o)->h2.get? s.heap.objs.size=some {cls:=.type "list", data:=.seq #[] c} ->
    codeAny (model prog w) A (.builtin "list.extend.loop" ⟨[.ref s.heap.objs.size,.ref it,.ref s.heap.objs.size],[]⟩) (λr s'=>r = .ok (.ret (.ref s.heap.objs.size))/\∃h' d' tk acc c' ns,s' = {s with heap:=h',drawn:=d',toks:=tk}/\(∀b o,s.heap.get? b=some o->h'.get? b=some o) /\
     h'.get? s.heap.objs.size=some {cls:=.type "list", dict:=none,data:=.seq acc c',slots:=#[]}/\IntsAre acc.toList ns/\ns.Perm ks/\s.toks<=tk) {s with heap:=h2,drawn:=d1}:=λh2 c st2 k2 g2=>by
   refine codeAny_extend_loopS W (eJ (rM hes)) s.heap.objs.size hLf (.ref s.heap.objs.size) es.size 0 _ #[] c rfl (cA _) st2 g2 (ItemsOf.nil _) λs' acc c' hm gS hacc=>?_;obtain⟨h',g',d',tk',os'⟩:=s';have eg:g'=s.gens:=hm.gens;have eo:os'=s.os:=hm.os;subst eg eo;have Ae:acc.toList=pC w m a es ep:=by
    apply List.ext_getElem?
    intro j;rw[oH]
    by_cases hj:j<acc.size
    ·have:=hacc.2 j acc[j] (gK hj)
     rw[this,gK hj]
    ·have hl:=Tx (a:=a) (ep:=ep) ok
     have h0:=hacc.1;rw[sU (by omega),tH (by omega)]
   have hp:=G8 (a:=a) (ep:=ep) ok;refine⟨rfl,h',d',tk',acc,c',acc.toList.map qH,rfl,λb o' e=>?_,gS,Cd _ λv hv=>?_,?_,hm.toks⟩
   ·have hb:=aI e
    refine hm.heap b o' (λz=>?_) (k2 b o' e)
    rcases aP.mp z with z|z
    ·exact absurd z (aY hb)
    ·exact absurd (bJ.mp z) (aY (cz (o7 hb) hge))
   ·rw[Ae]at hv
    obtain⟨e,he,rfl⟩:=cx.mp (hp.mem_iff.mp hv);exact Af H.el he
   ·rw[Ae]
    refine(hp.map qH).trans ?_;rw[dn];exact H.perm
  have k1':∀b o',s.heap.get? b=some o'->h1.get? b=some o':=λb o' e=>k1 b o' (old b o' e);have g1:h1.get? s.heap.objs.size=some {cls:=.type "list", data:=.seq #[] 0}:=k1 _ _ gL;refine zm (λ_=>?_) (λ_=>ah ⟨t_ F.plain_extend_loop _,key h1 0 st k1' g1⟩);refine ae (iM (ae ?_));show wpAny _ _ (updateSeq s.heap.objs.size (·.push .none)>>=λ_=>updateSeq s.heap.objs.size (·.pop)) _ _ _;refine ae (wpAny_updateSeq g1 rfl ?_);have g2:=gf (Obj.mapSeq (·.push Value.none)) g1 rfl;refine wpAny_updateSeq (hz:=by seq_fits) g2 rfl ?_;have g3:=gf (Obj.mapSeq (·.pop)) g2 rfl;have oth:∀b o',b≠s.heap.objs.size->h1.get? b=some o'->((h1.update s.heap.objs.size (Obj.mapSeq (·.push Value.none))).update s.heap.objs.size (Obj.mapSeq (·.pop))).get? b=some o':=λb o' hb e=>(gT _ _ (bK hb)).trans ((gT _ _ (bK hb)).trans e);refine ah ⟨t_ F.plain_extend_loop _,key _ _ ?_ (λb o' e=>oth b o' (aY (aI e)) (k1' b o' e)) g3⟩;obtain⟨st1,st2⟩:=st;cases m with
  |tab=>exact⟨oth _ _ (bK haL) st1,oth _ _ (bK hLi) st2⟩
  |text=>exact⟨oth _ _ (bK haL) st1,oth _ _ (bK hLi) st2⟩
  |draw T ps =>
   have Ml:s.heap.objs.size+1<=T:=by rw[<- ju];exact Bk T ps rfl
   exact⟨oth _ _ (bK haL) st1,oth _ _ (bK hLi) st2.1,oth _ _ (eK Ml) st2.2⟩
 refine ae (jm (ah ⟨tY _ (by decide +kernel),eL add λr s' hr=>?_⟩));obtain⟨rfl,h',d',tk,acc,c',ns,rfl,hk,hS,hi,hp,htk⟩:=hr;show wpAny _ A (load s.heap.objs.size>>=λo=>match o.data with | .seq xs _=>pure xs.toList|_=>unsupported "internal:collect") _ _ _;refine ae (wpAny_load hS ?_);exact ah (h _ ns h' d' tk hi hp hk htk)
end
section
open PySem.SeqAt
open PySem.AutoSeq1 (wpAny_loadPart')
open PySem.MeetsSeq PySem.MeetsSeq2 PySem.MeetsSeq3
end
section
variable {prog:Program} {w:World} {A:Around} {E:Value->Shared->Prop} {s:Shared}
variable {a₀:Array Keyed}
end
section
variable {X:Cx}
end
noncomputable def K_:Bool->Keyed->Array Keyed->Nat->Nat->Nat->StateT SortSt Sem (Option Nat):=sortPriv% PySem.Builtin.gallop
noncomputable def Ph:Array Keyed->Array Keyed->StateT SortSt Sem (Array Keyed):=sortPriv% PySem.Builtin.mergeLo
noncomputable def Pg:Array Keyed->Array Keyed->StateT SortSt Sem (Array Keyed):=sortPriv% PySem.Builtin.mergeHi
section
variable {prog:Program} {w:World} {A:Around} {E:Value->Shared->Prop} {s:Shared} {κ:SortKind} {g:Keyed->Prop} {N:Nat} {pd:Array (Nat × Nat × Nat)}
structure Safe (κ:SortKind) (g:Keyed->Prop) (N:Nat) (pd:Array (Nat × Nat × Nat)) (st:SortSt):Prop where
 kind:kindOf st=κ
 failed:failedOf st=none
 size:(arrOf st).size=N
 all:∀p∈arrOf st,g p
 pend:pendingOf st=pd
noncomputable def f9(prog:Program)(w:World)(A:Around)(s:Shared)(κ:SortKind)(g:Keyed->Prop):Prop:=∀x y,g x->g y->∃b:Bool,∀{E:Value->Shared->Prop} (Q:Bool->Shared->Prop),Q b s->wpAny (model prog w) A (keyLt' κ x.1 y.1) Q E s
theorem jW{x y:Keyed}{st:SortSt}{Q:Option Bool->SortSt->Prop}(ok:f9 prog w A s κ g)(S:Safe κ g N pd st)(gx:g x)(gy:g y)(h:∀b,Q (some b) st):wpS (model prog w) A E s ((sortPriv% PySem.Builtin.lt) x y) Q st:=by
 show wpS _ _ _ _ (lt' x y) _ _;obtain⟨b,hb⟩:=ok x y gx gy;rw[lt'_eq];refine aj (fJ ?_);rw[S.kind];refine aj (wpS_lift (fL (hb _ ⟨rfl,?_⟩)));exact az (h b)
theorem d0{arr:Array Keyed}{i:Nat}{st:SortSt}{Q:Keyed->SortSt->Prop}(ga:∀p∈arr,g p)(hi:i<arr.size)(h:∀p,g p->Q p st):wpS (model prog w) A E s ((sortPriv% PySem.Builtin.elem) arr i) Q st:=by
 show wpS _ _ _ _ (elem' arr i) _ _;rw[elem'_eq,qf arr i hi];exact az (h _ (ga _ (sV hi)))
theorem fX{i j:Nat}{st:SortSt}{Q:Option Bool->SortSt->Prop}(ok:f9 prog w A s κ g)(S:Safe κ g N pd st)(hi:i<N)(hj:j<N)(h:∀b,Q (some b) st):wpS (model prog w) A E s (ltAt' i j) Q st:=by
 rw[ltAt'_eq];refine aj (fJ ?_);show wpS _ _ _ _ (do let x <- elem' (arrOf st) i;let y <- elem' (arrOf st) j;lt' x y) Q st;exact aj (d0 S.all (by rw[S.size];exact hi) λx gx=>aj (d0 S.all (by rw[S.size];exact hj) λy gy=>jW ok S gx gy h))
theorem Safe.arr{st:SortSt}{xs:Array Keyed}(S:Safe κ g N pd st)(h:xs.Perm (arrOf st)):Safe κ g N pd (setArr st xs):=
 ⟨S.kind,S.failed,h.size_eq.trans S.size,λp hp=>S.all p (h.mem_iff.mp hp),S.pend⟩
theorem iD{i j:Nat}{st:SortSt}{Q:Unit->SortSt->Prop}(S:Safe κ g N pd st)(h:∀st',Safe κ g N pd st'->Q () st'):wpS (model prog w) A E s (reverseSlice' i j) Q st:=by
 rw[reverseSlice'_eq];exact gR (h _ (S.arr (mirror_perm _ _ _ _)))
theorem Vd{i j:Nat}{st:SortSt}{Q:Unit->SortSt->Prop}(S:Safe κ g N pd st)(h:∀st',Safe κ g N pd st'->Q () st'):wpS (model prog w) A E s (moveDown' i j) Q st:=by
 rw[moveDown'_eq];exact gR (h _ (S.arr (bubble_perm _ _ _)))
theorem jX{r:String}{st:SortSt}{Q:Unit->SortSt->Prop}(h:Q () st):wpS (model prog w) A E s (liftM (rule r):StateT SortSt Sem Unit) Q st:=wpS_lift (iM ⟨rfl,h⟩)
theorem gJ{left:Bool}{key:Keyed}{arr:Array Keyed}{base n hint:Nat}{st:SortSt}{Q:Option Nat->SortSt->Prop}(ok:f9 prog w A s κ g)(S:Safe κ g N pd st)(gk:g key)(ga:∀p∈arr,g p)(h1:hint<n)(h2:base+n<=arr.size)(h:∀k,k<=n->Q (some k) st):wpS (model prog w) A E s ((sortPriv% PySem.Builtin.gallop) left key arr base n hint) Q st:=by
 show wpS _ _ _ _ (K_ left key arr base n hint) _ _;have B:∀i (Q:Option Bool->SortSt->Prop),i<n->(∀b,Q (some b) st)->wpS (model prog w) A E s (do
   let x <- elem' arr (base+i)
   if left=true then lt' x key
   else do
    let y <- lt' key x
    pure (Option.map (λx=>!x) y)) Q st:=by
  intro i Q hi hq;refine aj (d0 ga (by omega) λx gx=>?_);cases left
  ·simp only[fc,dC]
   exact aj (jW ok S gk gx λb=>az (hq _))
  ·simp only[ig]
   exact jW ok S gx gk hq
 refine aj (B _ _ h1 λright=>?_);dsimp only
 split
 ·refine aj (cD (cC (I:=λ_ c st'=>st=st'/\∃l r,c=(none,l,r)) (Q:=λc st'=>st=st'/\∃l r,c=(none,l,r)) ?_ (λ_ _ z=>z) ⟨rfl,0,1,rfl⟩) ?_)
  ·rintro i c st' _ _ ⟨rfl,l,r,rfl⟩
   dsimp only
   split
   ·exact az ⟨rfl,l,r,rfl⟩
   ·refine aj (B _ _ (by omega) λb=>?_)
    dsimp only
    split
    ·exact az ⟨rfl,_,_,rfl⟩
    ·exact az ⟨rfl,_,_,rfl⟩
  ·rintro c st' ⟨rfl,l,r,rfl⟩
   try dsimp only
   refine aj (cD (cC (I:=λ_ c st'=>st=st'/\∃l r,c=(none,l,r)/\r<=n) (Q:=λc st'=>st=st'/\∃l r,c=(none,l,r)/\r<=n) ?_ (λ_ _ z=>z) ⟨rfl,_,_,rfl,by omega⟩) ?_)
   ·rintro i c st' _ _ ⟨rfl,l,r,rfl,hr⟩
    dsimp only
    split
    ·exact az ⟨rfl,l,r,rfl,hr⟩
    ·refine aj (B _ _ (by omega) λb=>?_)
     dsimp only
     split
     ·exact az ⟨rfl,_,_,rfl,hr⟩
     ·exact az ⟨rfl,_,_,rfl,by omega⟩
   ·rintro c st' ⟨rfl,l,r,rfl,hr⟩
    exact az (h r hr)
 ·refine aj (cD (cC (I:=λ_ c st'=>st=st'/\∃l r,c=(none,l,r)) (Q:=λc st'=>st=st'/\∃l r,c=(none,l,r)) ?_ (λ_ _ z=>z) ⟨rfl,0,1,rfl⟩) ?_)
  ·rintro i c st' _ _ ⟨rfl,l,r,rfl⟩
   dsimp only
   split
   ·exact az ⟨rfl,l,r,rfl⟩
   ·refine aj (B _ _ (by omega) λb=>?_)
    dsimp only
    split
    ·exact az ⟨rfl,_,_,rfl⟩
    ·exact az ⟨rfl,_,_,rfl⟩
  ·rintro c st' ⟨rfl,l,r,rfl⟩
   try dsimp only
   refine aj (cD (cC (I:=λ_ c st'=>st=st'/\∃l r,c=(none,l,r)/\r<=n) (Q:=λc st'=>st=st'/\∃l r,c=(none,l,r)/\r<=n) ?_ (λ_ _ z=>z) ⟨rfl,_,_,rfl,by omega⟩) ?_)
   ·rintro i c st' _ _ ⟨rfl,l,r,rfl,hr⟩
    dsimp only
    split
    ·exact az ⟨rfl,l,r,rfl,hr⟩
    ·refine aj (B _ _ (by omega) λb=>?_)
     dsimp only
     split
     ·exact az ⟨rfl,_,_,rfl,hr⟩
     ·exact az ⟨rfl,_,_,rfl,by omega⟩
   ·rintro c st' ⟨rfl,l,r,rfl,hr⟩
    exact az (h r hr)
theorem Va{lo nrem:Nat}{st:SortSt}{Q:Option Nat->SortSt->Prop}(ok:f9 prog w A s κ g)(S:Safe κ g N pd st)(h1:1<=nrem)(h2:lo+nrem<=N)(h:∀k st',1<=k->k<=nrem->Safe κ g N pd st'->Q (some k) st'):wpS (model prog w) A E s (countRun' lo nrem) Q st:=by
 try dsimp only
 refine aj (cD (cC (I:=λi c st'=>Safe κ g N pd st'/\∃m,c=(none,m)/\1<=m/\m<=i/\m<=nrem) (Q:=λc st'=>Safe κ g N pd st'/\∃m,c=(none,m)/\1<=m/\m<=nrem) ?_ (λ_ _ ⟨z,m,e,z1,_,z2⟩=>⟨z,m,e,z1,z2⟩) ⟨by assumption,_,rfl,by omega,by omega,by omega⟩) ?_)
 ·rintro i c st' _ hi ⟨S',m,rfl,z1,z2,z3⟩
  dsimp only;refine aj (fX ok S' (by omega) (by omega) λb=>?_);dsimp only
  split
  ·exact az ⟨S',_,rfl,z1,z3⟩
  ·exact az ⟨S',_,rfl,by omega,by omega,by omega⟩
 rintro c st2 ⟨S2,m,rfl,z1,z2⟩;clear S;dsimp only
 split
 ·exact az (h _ _ z1 z2 S2)
 ·rename_i hne
  have hne':m≠nrem:=λe=>hne (by simp[e])
  split
  ·refine aj (fX ok S2 (by omega) (by omega) λb=>?_)
   dsimp only
   split
   ·exact az (h _ _ z1 z2 S2)
   ·refine aj (iD S2 λst3 S3=>?_)
    clear S2
    try dsimp only
    refine aj (jX ?_);refine aj (cD (cC (I:=λi c st'=>Safe κ g N pd st'/\∃m q,c=(none,m,q)/\1<=m/\m<=i/\m<=nrem) (Q:=λc st'=>Safe κ g N pd st'/\∃m q,c=(none,m,q)/\1<=m/\m<=nrem) ?_ (λ_ _ ⟨z,m,q,e,z1,_,z2⟩=>⟨z,m,q,e,z1,z2⟩) ⟨by assumption,_,_,rfl,by omega,by omega,by omega⟩) ?_)
    ·rintro i c st' _ hi ⟨S',m,q,rfl,z1,z2,z3⟩
     dsimp only;refine aj (fX ok S' (by omega) (by omega) λb=>?_);dsimp only
     split
     ·split
      ·exact aj (iD S' λoA S8=>az ⟨S8,_,_,rfl,by omega,by omega,by omega⟩)
      ·exact az ⟨S',_,_,rfl,by omega,by omega,by omega⟩
     ·refine aj (fX ok S' (by omega) (by omega) λb2=>?_)
      dsimp only
      split
      ·exact az ⟨S',_,_,rfl,by omega,by omega⟩
      ·exact az ⟨S',_,_,rfl,by omega,by omega,by omega⟩
    ·rintro c Tp ⟨S7,m7,q7,rfl,x1,x2⟩
     dsimp only
     split
     ·refine aj (iD S7 λTn S6=>?_)
      clear S7
      try dsimp only
      refine aj (iD (by assumption) λoA S8=>?_)
      try dsimp only
      refine aj (cD (cC (I:=λi c st'=>Safe κ g N pd st'/\∃m,c=(none,m)/\1<=m/\m<=i/\m<=nrem) (Q:=λc st'=>Safe κ g N pd st'/\∃m,c=(none,m)/\1<=m/\m<=nrem) ?_ (λ_ _ ⟨z,m,e,z1,_,z2⟩=>⟨z,m,e,z1,z2⟩) ⟨by assumption,_,rfl,by omega,by omega,by omega⟩) ?_)
      ·rintro i c st' _ hi ⟨S',m,rfl,z1,z2,z3⟩
       dsimp only;refine aj (fX ok S' (by omega) (by omega) λb=>?_);dsimp only
       split
       ·exact az ⟨S',_,rfl,z1,z3⟩
       ·exact az ⟨S',_,rfl,by omega,by omega,by omega⟩
      rintro c xK ⟨S9,m9,rfl,y1,y2⟩;exact az (h _ _ y1 y2 S9)
     ·try dsimp only
      refine aj (iD (by assumption) λoA S8=>?_)
      try dsimp only
      refine aj (cD (cC (I:=λi c st'=>Safe κ g N pd st'/\∃m,c=(none,m)/\1<=m/\m<=i/\m<=nrem) (Q:=λc st'=>Safe κ g N pd st'/\∃m,c=(none,m)/\1<=m/\m<=nrem) ?_ (λ_ _ ⟨z,m,e,z1,_,z2⟩=>⟨z,m,e,z1,z2⟩) ⟨by assumption,_,rfl,by omega,by omega,by omega⟩) ?_)
      ·rintro i c st' _ hi ⟨S',m,rfl,z1,z2,z3⟩
       dsimp only;refine aj (fX ok S' (by omega) (by omega) λb=>?_);dsimp only
       split
       ·exact az ⟨S',_,rfl,z1,z3⟩
       ·exact az ⟨S',_,rfl,by omega,by omega,by omega⟩
      rintro c xK ⟨S9,m9,rfl,y1,y2⟩;exact az (h _ _ y1 y2 S9)
  ·try dsimp only
   refine aj (jX ?_);refine aj (cD (cC (I:=λi c st'=>Safe κ g N pd st'/\∃m q,c=(none,m,q)/\1<=m/\m<=i/\m<=nrem) (Q:=λc st'=>Safe κ g N pd st'/\∃m q,c=(none,m,q)/\1<=m/\m<=nrem) ?_ (λ_ _ ⟨z,m,q,e,z1,_,z2⟩=>⟨z,m,q,e,z1,z2⟩) ⟨by assumption,_,_,rfl,by omega,by omega,by omega⟩) ?_)
   ·rintro i c st' _ hi ⟨S',m,q,rfl,z1,z2,z3⟩
    dsimp only;refine aj (fX ok S' (by omega) (by omega) λb=>?_);dsimp only
    split
    ·split
     ·exact aj (iD S' λoA S8=>az ⟨S8,_,_,rfl,by omega,by omega,by omega⟩)
     ·exact az ⟨S',_,_,rfl,by omega,by omega,by omega⟩
    ·refine aj (fX ok S' (by omega) (by omega) λb2=>?_)
     dsimp only
     split
     ·exact az ⟨S',_,_,rfl,by omega,by omega⟩
     ·exact az ⟨S',_,_,rfl,by omega,by omega,by omega⟩
   ·rintro c Tp ⟨S7,m7,q7,rfl,x1,x2⟩
    dsimp only
    split
    ·refine aj (iD S7 λTn S6=>?_)
     clear S7
     try dsimp only
     refine aj (iD (by assumption) λoA S8=>?_)
     try dsimp only
     refine aj (cD (cC (I:=λi c st'=>Safe κ g N pd st'/\∃m,c=(none,m)/\1<=m/\m<=i/\m<=nrem) (Q:=λc st'=>Safe κ g N pd st'/\∃m,c=(none,m)/\1<=m/\m<=nrem) ?_ (λ_ _ ⟨z,m,e,z1,_,z2⟩=>⟨z,m,e,z1,z2⟩) ⟨by assumption,_,rfl,by omega,by omega,by omega⟩) ?_)
     ·rintro i c st' _ hi ⟨S',m,rfl,z1,z2,z3⟩
      dsimp only;refine aj (fX ok S' (by omega) (by omega) λb=>?_);dsimp only
      split
      ·exact az ⟨S',_,rfl,z1,z3⟩
      ·exact az ⟨S',_,rfl,by omega,by omega,by omega⟩
     rintro c xK ⟨S9,m9,rfl,y1,y2⟩;exact az (h _ _ y1 y2 S9)
    ·try dsimp only
     refine aj (iD (by assumption) λoA S8=>?_)
     try dsimp only
     refine aj (cD (cC (I:=λi c st'=>Safe κ g N pd st'/\∃m,c=(none,m)/\1<=m/\m<=i/\m<=nrem) (Q:=λc st'=>Safe κ g N pd st'/\∃m,c=(none,m)/\1<=m/\m<=nrem) ?_ (λ_ _ ⟨z,m,e,z1,_,z2⟩=>⟨z,m,e,z1,z2⟩) ⟨by assumption,_,rfl,by omega,by omega,by omega⟩) ?_)
     ·rintro i c st' _ hi ⟨S',m,rfl,z1,z2,z3⟩
      dsimp only;refine aj (fX ok S' (by omega) (by omega) λb=>?_);dsimp only
      split
      ·exact az ⟨S',_,rfl,z1,z3⟩
      ·exact az ⟨S',_,rfl,by omega,by omega,by omega⟩
     rintro c xK ⟨S9,m9,rfl,y1,y2⟩;exact az (h _ _ y1 y2 S9)
theorem U_{lo n k:Nat}{st:SortSt}{Q:Bool->SortSt->Prop}(ok:f9 prog w A s κ g)(S:Safe κ g N pd st)(h2:lo+n<=N)(h:∀st',Safe κ g N pd st'->Q true st'):wpS (model prog w) A E s (binarySort' lo n k) Q st:=by
 refine aj (cD (cC (I:=λ_ c st'=>Safe κ g N pd st'/\c=(none,())) (Q:=λc st'=>Safe κ g N pd st'/\c=(none,())) ?_ (λ_ _ z=>z) ⟨S,rfl⟩) ?_)
 ·rintro i c st' _ hi ⟨S',rfl⟩
  refine aj (cD (cC (I:=λ_ c st'=>Safe κ g N pd st'/\∃l r,c=(none,l,r)/\r<=i) (Q:=λc st'=>Safe κ g N pd st'/\∃l r,c=(none,l,r)/\r<=i) ?_ (λ_ _ z=>z) ⟨S',_,_,rfl,aC _⟩) ?_)
  ·rintro i2 c st' _ _ ⟨S',l,r,rfl,hr⟩
   dsimp only
   split
   ·exact az ⟨S',l,r,rfl,hr⟩
   ·refine aj (fX ok S' (by omega) (by omega) λb=>?_)
    dsimp only
    split
    ·exact az ⟨S',_,_,rfl,by omega⟩
    ·exact az ⟨S',_,_,rfl,hr⟩
  ·rintro c st2 ⟨S2,l,r,rfl,hr⟩
   exact aj (Vd S2 λst3 S3=>az ⟨S3,rfl⟩)
 ·rintro c st' ⟨S',rfl⟩
  exact az (h _ S')
theorem dE{M:Model}{σ α:Type}{c:Prop}[Decidable c]{x y:StateT σ Sem α}{Q:α->σ->Prop}{st:σ}(h1:c->wpS M A E s x Q st)(h2:¬c->wpS M A E s y Q st):wpS M A E s (if c then x else y) Q st:=by
 by_cases h:c
 ·rw[if_pos h];exact h1 h
 ·rw[if_neg h];exact h2 h
theorem fB{M:Model}{σ α:Type}{i j:Nat}{x y:StateT σ Sem α}{Q:α->σ->Prop}{st:σ}(h1:i=j->wpS M A E s x Q st)(h2:i≠j->wpS M A E s y Q st):wpS M A E s (if(i==j)=true then x else y) Q st:=
 dE (λe=>h1 (by simpa using e)) λe=>h2 (by simpa using e)
noncomputable def GA(g:Keyed->Prop)(xs:Array Keyed):Prop:=∀p∈xs,g p
theorem GA.app{xs ys:Array Keyed}(h1:GA g xs)(h2:GA g ys):GA g (xs++ys):=λp hp=>(Array.mem_append.mp hp).elim (h1 p) (h2 p)
theorem GA.dj{xs:Array Keyed}{x:Keyed}(h1:GA g xs)(h2:g x):GA g (xs.push x):=λp hp=>(Array.mem_push.mp hp).elim (h1 p) λe=>e▸h2
theorem GA.ext{xs:Array Keyed}{i j:Nat}(h1:GA g xs):GA g (xs.extract i j):=λp hp=>h1 p (by
 obtain⟨k,hk,e⟩:=HQ.mp hp;rw[Array.getElem_extract]at e;exact e▸sV _)
theorem GA.rev{xs:Array Keyed}(h1:GA g xs):GA g xs.reverse:=λp hp=>h1 p (Array.mem_reverse.mp hp)
theorem GA.one{x:Keyed}(h:g x):GA g #[x]:=λp hp=>by
 rw[Array.mem_singleton]at hp;exact hp▸h
noncomputable def Sv:Nat->StateT SortSt Sem Unit:=sortPriv% PySem.Builtin.setMinGallop
theorem lG{k:Nat}{st:SortSt}{Q:Unit->SortSt->Prop}(S:Safe κ g N pd st)(h:∀st',Safe κ g N pd st'->Q () st'):wpS (model prog w) A E s ((sortPriv% PySem.Builtin.setMinGallop) k) Q st:=by
 show wpS _ _ _ _ (Sv k) _ _;exact gR (h _ ⟨S.kind,S.failed,S.size,S.all,S.pend⟩)
theorem Vc{a b:Array Keyed}{st:SortSt}{Q:Array Keyed->SortSt->Prop}(ok:f9 prog w A s κ g)(S:Safe κ g N pd st)(ga:∀p∈a,g p)(gb:∀p∈b,g p)(h1:1<=a.size)(h2:1<=b.size)(h:∀out st',GA g out->Safe κ g N pd st'->Q out st'):wpS (model prog w) A E s (Ph a b) Q st:=by
 have cY:GA g a:=ga;have cZ:GA g b:=gb;refine aj (jX ?_);refine aj (d0 gb (by omega) λp gp=>?_);dsimp only;refine fB (λq1=>?_) (λq1=>?_)
 ·exact az (h _ _ (by(with_reducible repeat (first|assumption|exact GA.ext cY|exact GA.ext cZ|exact GA.one (by assumption)|refine GA.app ?_ ?_|refine GA.dj ?_ ?_|refine GA.rev ?_))) S)
 ·refine fB (λq2=>?_) (λq2=>?_)
  ·exact az (h _ _ (by(with_reducible repeat (first|assumption|exact GA.ext cY|exact GA.ext cZ|exact GA.one (by assumption)|refine GA.app ?_ ?_|refine GA.dj ?_ ?_|refine GA.rev ?_))) S)
  ·refine aj (fJ ?_)
   refine aj (cD (cC (I:=λi c st'=>Safe κ g N pd st'/\∃out ia ib r,c=(none,out,ia,ib,r)/\GA g out/\ia+1<a.size/\ib<b.size/\i+1<=ia+ib)
    (Q:=λc st'=>Safe κ g N pd st'/\∃r x,c=(some r,x)/\GA g r) ?_ ?_ ⟨S,_,_,_,_,rfl,by(with_reducible repeat (first|assumption|exact GA.ext cY|exact GA.ext cZ|exact GA.one (by assumption)|refine GA.app ?_ ?_|refine GA.dj ?_ ?_|refine GA.rev ?_)),by omega,by omega,by omega⟩) ?_)
   ·rintro i c st1 _ hi ⟨S1,out,ia,ib,mg,rfl,go,z1,z2,z3⟩
    dsimp only;refine aj (cD (cC (I:=λi c st'=>Safe κ g N pd st'/\∃out dN dO r,c=(none,out,dN,dO,r)/\GA g out/\dN+1<a.size/\dO<b.size/\ia+ib+min i 1<=dN+dO)
     (Q:=λc st'=>Safe κ g N pd st'/\((∃r x,c=(some r,x)/\GA g r)\/∃out dN dO r,c=(none,out,dN,dO,r)/\GA g out/\dN+1<a.size/\dO<b.size/\ia+ib+1<=dN+dO)) ?_ ?_ ⟨S1,_,_,_,_,rfl,go,z1,z2,by omega⟩) ?_)
    ·rintro i2 c st2 _ hi2 ⟨S2,iw,ql,qm,⟨ac,bc⟩,rfl,go2,y1,y2,y3⟩
     dsimp only
     repeat' (first
      |with_reducible refine fB (λ_=>?_) (λ_=>?_)
      |with_reducible refine dE (λ_=>?_) (λ_=>?_)
      |with_reducible refine aj (d0 ga (by omega) λ_ _=>?_)
      |with_reducible refine aj (d0 gb (by omega) λ_ _=>?_)
      |with_reducible refine aj (jW ok (by assumption) (by assumption) (by assumption) λ_=>?_)
      |with_reducible refine aj (lG (by assumption) λ_ _=>?_)
      |with_reducible refine aj (gJ ok (by assumption) (by assumption) ga (by omega) (by omega) λ_ _=>?_)
      |with_reducible refine aj (gJ ok (by assumption) (by assumption) gb (by omega) (by omega) λ_ _=>?_)
      |dsimp only
      | (refine az ⟨by assumption,?_⟩;first
        |exact .inl ⟨_,_,rfl,by(with_reducible repeat (first|assumption|exact GA.ext cY|exact GA.ext cZ|exact GA.one (by assumption)|refine GA.app ?_ ?_|refine GA.dj ?_ ?_|refine GA.rev ?_))⟩
        |exact .inr ⟨_,_,_,_,rfl,by(with_reducible repeat (first|assumption|exact GA.ext cY|exact GA.ext cZ|exact GA.one (by assumption)|refine GA.app ?_ ?_|refine GA.dj ?_ ?_|refine GA.rev ?_)),by omega,by omega,by omega⟩
        |exact⟨_,_,_,_,rfl,by(with_reducible repeat (first|assumption|exact GA.ext cY|exact GA.ext cZ|exact GA.one (by assumption)|refine GA.app ?_ ?_|refine GA.dj ?_ ?_|refine GA.rev ?_)),by omega,by omega,by omega⟩))
    ·rintro c st2 ⟨S2,iw,ql,qm,r,rfl,go2,y1,y2,y3⟩
     exact⟨S2,.inr ⟨_,_,_,_,rfl,go2,y1,y2,by omega⟩⟩
    ·rintro c st2 ⟨S2,⟨r,x,rfl,gr⟩|⟨iw,ql,qm,⟨ac,bc⟩,rfl,go2,y1,y2,y3⟩⟩
     ·exact az ⟨S2,_,_,rfl,gr⟩
     ·dsimp only
      refine aj (jX ?_);refine aj (cD (cC (I:=λi c st'=>Safe κ g N pd st'/\∃out dN dO r,c=(none,out,dN,dO,r)/\GA g out/\dN+1<a.size/\dO<b.size/\ia+ib+1<=dN+dO)
       (Q:=λc st'=>Safe κ g N pd st'/\((∃r x,c=(some r,x)/\GA g r)\/∃out dN dO r,c=(none,out,dN,dO,r)/\GA g out/\dN+1<a.size/\dO<b.size/\ia+ib+1<=dN+dO)) ?_ ?_ ⟨S2,_,_,_,_,rfl,go2,y1,y2,y3⟩) ?_)
      ·rintro i3 c st3 _ Bl ⟨S3,wG,Nw,Nx,⟨vZ,um,uw⟩,rfl,ng,x1,x2,x3⟩
       dsimp only;clear S1 S2 S go go2
       repeat' (first
        |with_reducible refine fB (λ_=>?_) (λ_=>?_)
        |with_reducible refine dE (λ_=>?_) (λ_=>?_)
        |with_reducible refine aj (d0 ga (by omega) λ_ _=>?_)
        |with_reducible refine aj (d0 gb (by omega) λ_ _=>?_)
        |with_reducible refine aj (jW ok (by assumption) (by assumption) (by assumption) λ_=>?_)
        |with_reducible refine aj (lG (by assumption) λ_ _=>?_)
        |with_reducible refine aj (gJ ok (by assumption) (by assumption) ga (by omega) (by omega) λ_ _=>?_)
        |with_reducible refine aj (gJ ok (by assumption) (by assumption) gb (by omega) (by omega) λ_ _=>?_)
        |dsimp only
        | (refine az ⟨by assumption,?_⟩;first
          |exact .inl ⟨_,_,rfl,by(with_reducible repeat (first|assumption|exact GA.ext cY|exact GA.ext cZ|exact GA.one (by assumption)|refine GA.app ?_ ?_|refine GA.dj ?_ ?_|refine GA.rev ?_))⟩
          |exact .inr ⟨_,_,_,_,rfl,by(with_reducible repeat (first|assumption|exact GA.ext cY|exact GA.ext cZ|exact GA.one (by assumption)|refine GA.app ?_ ?_|refine GA.dj ?_ ?_|refine GA.rev ?_)),by omega,by omega,by omega⟩
          |exact⟨_,_,_,_,rfl,by(with_reducible repeat (first|assumption|exact GA.ext cY|exact GA.ext cZ|exact GA.one (by assumption)|refine GA.app ?_ ?_|refine GA.dj ?_ ?_|refine GA.rev ?_)),by omega,by omega,by omega⟩))
      ·rintro c st2 ⟨S2,iw,ql,qm,r,rfl,go2,y1,y2,y3⟩
       exact⟨S2,.inr ⟨_,_,_,_,rfl,go2,y1,y2,by omega⟩⟩
      ·rintro c st3 ⟨S3,⟨r,x,rfl,gr⟩|⟨wG,Nw,Nx,⟨vZ,um,uw⟩,rfl,ng,x1,x2,x3⟩⟩
       ·exact az ⟨S3,_,_,rfl,gr⟩
       ·dsimp only
        exact aj (lG S3 λcg S4=>az ⟨S4,_,_,_,_,rfl,ng,x1,x2,by omega⟩)
   ·rintro c st2 ⟨S2,iw,ql,qm,r,rfl,go2,y1,y2,y3⟩
    exfalso
    omega
   ·rintro c st2 ⟨S2,r,x,rfl,gr⟩
    exact az (h _ _ gr S2)
theorem Hz{M:Model}{σ α:Type}{i:Nat}{x y:StateT σ Sem α}{Q:α->σ->Prop}{st:σ}(h1:i=0->wpS M A E s x Q st)(h2:1<=i->wpS M A E s y Q st):wpS M A E s (if(i==0)=true then x else y) Q st:=
 fB h1 λe=>h2 (by omega)
theorem HB{M:Model}{σ α:Type}{i:Nat}{x y:StateT σ Sem α}{Q:α->σ->Prop}{st:σ}(h0:1<=i)(h1:i=1->wpS M A E s x Q st)(h2:2<=i->wpS M A E s y Q st):wpS M A E s (if(i==1)=true then x else y) Q st:=
 fB h1 λe=>h2 (by omega)
theorem HD{M:Model}{σ α:Type}{i j:Nat}{x y:StateT σ Sem α}{Q:α->σ->Prop}{st:σ}(h1:j<i->wpS M A E s x Q st)(h2:i<=j->wpS M A E s y Q st):wpS M A E s (if i - j > 0 then x else y) Q st:=
 dE (λe=>h1 (by omega)) λe=>h2 (by omega)
theorem Vb{a b:Array Keyed}{st:SortSt}{Q:Array Keyed->SortSt->Prop}(ok:f9 prog w A s κ g)(S:Safe κ g N pd st)(ga:∀p∈a,g p)(gb:∀p∈b,g p)(h1:1<=a.size)(h2:1<=b.size)(h:∀out st',GA g out->Safe κ g N pd st'->Q out st'):wpS (model prog w) A E s (Pg a b) Q st:=by
 have cY:GA g a:=ga;have cZ:GA g b:=gb;refine aj (jX ?_);refine aj (d0 ga (by omega) λp gp=>?_);dsimp only;refine fB (λq1=>?_) (λq1=>?_)
 ·exact az (h _ _ (by(with_reducible repeat (first|assumption|exact GA.ext cY|exact GA.ext cZ|exact GA.one (by assumption)|refine GA.app ?_ ?_|refine GA.dj ?_ ?_|refine GA.rev ?_))) S)
 ·refine fB (λq2=>?_) (λq2=>?_)
  ·exact az (h _ _ (by(with_reducible repeat (first|assumption|exact GA.ext cY|exact GA.ext cZ|exact GA.one (by assumption)|refine GA.app ?_ ?_|refine GA.dj ?_ ?_|refine GA.rev ?_))) S)
  ·refine aj (fJ ?_)
   try dsimp only
   refine aj (cD (cC (I:=λi c st'=>Safe κ g N pd st'/\∃b9 b_ out r,c=(none,b9,b_,out,r)/\GA g out/\1<=b9/\2<=b_/\b9<=a.size/\b_<=b.size/\b9+b_+i+1<=a.size+b.size)
    (Q:=λc st'=>Safe κ g N pd st'/\∃r x,c=(some r,x)/\GA g r) ?_ ?_ ⟨S,_,_,_,_,rfl,by(with_reducible repeat (first|assumption|exact GA.ext cY|exact GA.ext cZ|exact GA.one (by assumption)|refine GA.app ?_ ?_|refine GA.dj ?_ ?_|refine GA.rev ?_)),by omega,by omega,by omega,by omega,by omega⟩) ?_)
   ·rintro i c st1 _ hi ⟨S1,na,nb,out,mg,rfl,go,z1,z2,z3,z4,z5⟩
    dsimp only;refine aj (cD (cC (I:=λi c st'=>Safe κ g N pd st'/\∃b9 b_ out r,c=(none,b9,b_,out,r)/\GA g out/\1<=b9/\2<=b_/\b9<=a.size/\b_<=b.size/\b9+b_+min i 1<=na+nb)
     (Q:=λc st'=>Safe κ g N pd st'/\((∃r x,c=(some r,x)/\GA g r)\/∃b9 b_ out r,c=(none,b9,b_,out,r)/\GA g out/\1<=b9/\2<=b_/\b9<=a.size/\b_<=b.size/\b9+b_+1<=na+nb)) ?_ ?_ ⟨S1,_,_,_,_,rfl,go,z1,z2,z3,z4,by omega⟩) ?_)
    ·rintro i2 c st2 _ hi2 ⟨S2,jJ,jK,iw,⟨ac,bc⟩,rfl,go2,y1,y2,y3,y4,y5⟩
     dsimp only;clear S S1 go h1 h2 q1 q2 z1 z2 z3 z4 z5 hi hi2;obtain⟨jJ,rfl⟩:∃k,jJ=k+1:=⟨jJ - 1,by omega⟩;obtain⟨jK,rfl⟩:∃k,jK=k+1+1:=⟨jK - 2,by omega⟩;simp only[yG];clear y1 y2
     repeat' (first
      |with_reducible refine Hz (λ_=>?_) (λ_=>?_)
      |with_reducible refine HB (by omega) (λ_=>?_) (λ_=>?_)
      |with_reducible refine fB (λ_=>?_) (λ_=>?_)
      |with_reducible refine HD (λ_=>?_) (λ_=>?_)
      |with_reducible refine dE (λ_=>?_) (λ_=>?_)
      |with_reducible refine aj (d0 ga (by omega) λ_ _=>?_)
      |with_reducible refine aj (d0 gb (by omega) λ_ _=>?_)
      |with_reducible refine aj (jW ok (by assumption) (by assumption) (by assumption) λ_=>?_)
      |with_reducible refine aj (lG (by assumption) λ_ _=>?_)
      |with_reducible refine aj (gJ ok (by assumption) (by assumption) ga (by omega) (by omega) λ_ _=>?_)
      |with_reducible refine aj (gJ ok (by assumption) (by assumption) gb (by omega) (by omega) λ_ _=>?_)
      |dsimp only
      | (refine az ⟨by assumption,?_⟩;first
        |exact .inl ⟨_,_,rfl,by(with_reducible repeat (first|assumption|exact GA.ext cY|exact GA.ext cZ|exact GA.one (by assumption)|refine GA.app ?_ ?_|refine GA.dj ?_ ?_|refine GA.rev ?_))⟩
        |exact⟨_,_,_,_,rfl,by(with_reducible repeat (first|assumption|exact GA.ext cY|exact GA.ext cZ|exact GA.one (by assumption)|refine GA.app ?_ ?_|refine GA.dj ?_ ?_|refine GA.rev ?_)),by omega,by omega,by omega,by omega,by omega⟩
        |exact .inr ⟨_,_,_,_,rfl,by(with_reducible repeat (first|assumption|exact GA.ext cY|exact GA.ext cZ|exact GA.one (by assumption)|refine GA.app ?_ ?_|refine GA.dj ?_ ?_|refine GA.rev ?_)),by omega,by omega,by omega,by omega,by omega⟩))
    ·rintro c st2 ⟨S2,jJ,jK,iw,r,rfl,go2,y1,y2,y3,y4,y5⟩
     exact⟨S2,.inr ⟨_,_,_,_,rfl,go2,y1,y2,y3,y4,by omega⟩⟩
    ·rintro c st2 ⟨S2,⟨r,x,rfl,gr⟩|⟨jJ,jK,iw,⟨ac,bc⟩,rfl,go2,y1,y2,y3,y4,y5⟩⟩
     ·exact az ⟨S2,_,_,rfl,gr⟩
     ·dsimp only
      refine aj (jX ?_);refine aj (cD (cC (I:=λi c st'=>Safe κ g N pd st'/\∃b9 b_ out r,c=(none,b9,b_,out,r)/\GA g out/\1<=b9/\2<=b_/\b9<=a.size/\b_<=b.size/\b9+b_+1<=na+nb)
       (Q:=λc st'=>Safe κ g N pd st'/\((∃r x,c=(some r,x)/\GA g r)\/∃b9 b_ out r,c=(none,b9,b_,out,r)/\GA g out/\1<=b9/\2<=b_/\b9<=a.size/\b_<=b.size/\b9+b_+1<=na+nb)) ?_ ?_ ⟨S2,_,_,_,_,rfl,go2,y1,y2,y3,y4,y5⟩) ?_)
      ·rintro i3 c st3 _ Bl ⟨S3,qB,qC,wG,⟨vZ,um,uw⟩,rfl,ng,x1,x2,x3,x4,x5⟩
       dsimp only;clear S1 S2 S go go2 h1 h2 q1 q2 z1 z2 z3 z4 z5 y1 y2 y3 y4 y5 hi Bl;obtain⟨qB,rfl⟩:∃k,qB=k+1:=⟨qB - 1,by omega⟩;obtain⟨qC,rfl⟩:∃k,qC=k+1+1:=⟨qC - 2,by omega⟩;simp only[yG];clear x1 x2
       repeat' (first
        |with_reducible refine Hz (λ_=>?_) (λ_=>?_)
        |with_reducible refine HB (by omega) (λ_=>?_) (λ_=>?_)
        |with_reducible refine fB (λ_=>?_) (λ_=>?_)
        |with_reducible refine HD (λ_=>?_) (λ_=>?_)
        |with_reducible refine dE (λ_=>?_) (λ_=>?_)
        |with_reducible refine aj (d0 ga (by omega) λ_ _=>?_)
        |with_reducible refine aj (d0 gb (by omega) λ_ _=>?_)
        |with_reducible refine aj (jW ok (by assumption) (by assumption) (by assumption) λ_=>?_)
        |with_reducible refine aj (lG (by assumption) λ_ _=>?_)
        |with_reducible refine aj (gJ ok (by assumption) (by assumption) ga (by omega) (by omega) λ_ _=>?_)
        |with_reducible refine aj (gJ ok (by assumption) (by assumption) gb (by omega) (by omega) λ_ _=>?_)
        |dsimp only
        | (refine az ⟨by assumption,?_⟩;first
          |exact .inl ⟨_,_,rfl,by(with_reducible repeat (first|assumption|exact GA.ext cY|exact GA.ext cZ|exact GA.one (by assumption)|refine GA.app ?_ ?_|refine GA.dj ?_ ?_|refine GA.rev ?_))⟩
          |exact⟨_,_,_,_,rfl,by(with_reducible repeat (first|assumption|exact GA.ext cY|exact GA.ext cZ|exact GA.one (by assumption)|refine GA.app ?_ ?_|refine GA.dj ?_ ?_|refine GA.rev ?_)),by omega,by omega,by omega,by omega,by omega⟩
          |exact .inr ⟨_,_,_,_,rfl,by(with_reducible repeat (first|assumption|exact GA.ext cY|exact GA.ext cZ|exact GA.one (by assumption)|refine GA.app ?_ ?_|refine GA.dj ?_ ?_|refine GA.rev ?_)),by omega,by omega,by omega,by omega,by omega⟩))
      ·rintro c st2 ⟨S2,jJ,jK,iw,r,rfl,go2,y1,y2,y3,y4,y5⟩
       exact⟨S2,.inr ⟨_,_,_,_,rfl,go2,y1,y2,y3,y4,by omega⟩⟩
      ·rintro c st3 ⟨S3,⟨r,x,rfl,gr⟩|⟨qB,qC,wG,⟨vZ,um,uw⟩,rfl,ng,x1,x2,x3,x4,x5⟩⟩
       ·exact az ⟨S3,_,_,rfl,gr⟩
       ·dsimp only
        exact aj (lG S3 λcg S4=>az ⟨S4,_,_,_,_,rfl,ng,x1,x2,x3,x4,by omega⟩)
   ·rintro c st2 ⟨S2,jJ,jK,iw,r,rfl,go2,y1,y2,y3,y4,y5⟩
    exfalso
    omega
   ·rintro c st2 ⟨S2,r,x,rfl,gr⟩
    exact az (h _ _ gr S2)
end
noncomputable def Runs:List (Nat × Nat × Nat)->Nat->Nat->Prop
 | [],a,b=>a=b
 | (s,n,_)::r,a,b=>s=a/\1<=n/\Runs r (a+n) b
theorem Runs.le:∀{l:List (Nat × Nat × Nat)} {a b:Nat},Runs l a b->a<=b
 | [],_,_,h=>lX h
 | (_,n,_)::r,a,b,h=>by
  have:=Runs.le h.2.2;omega
theorem Runs.app{s n p:Nat}:∀{l:List (Nat × Nat × Nat)} {a b:Nat},Runs l a b->1<=n->Runs (l++[(b,n,p)]) a (b+n)
 | [],_,_,rfl,hn=>⟨rfl,hn,rfl⟩
 | (_,_,_)::r,a,b,h,hn=>⟨h.1,h.2.1,Runs.app (s:=s) h.2.2 hn⟩
theorem Runs.at:∀{l:List (Nat × Nat × Nat)} {a b i s n p s2 n2 p2:Nat},Runs l a b->l[i]?=some (s,n,p)->l[i+1]?=some (s2,n2,p2)->s2=s+n/\1<=n/\1<=n2/\s2+n2<=b/\Runs ((l.set i (s,n+n2,p)).eraseIdx (i+1)) a b
 | [],_,_,i,_,_,_,_,_,_,_,h1,_=>by simp at h1
 | (s0,n0,p0)::r,a,b,0,s,n,p,s2,n2,p2,h,h1,h2=>by
  simp only[Ig,tW,Prod.mk.injEq]at h1;obtain⟨rfl,rfl,rfl⟩:=h1;cases r with
  |nil=>simp at h2
  |cons q r =>
   simp at h2;subst h2;obtain⟨e1,e2,e3,e4,e5⟩:=h;have:=e5.le;refine⟨by omega,e2,e4,by omega,?_⟩;refine⟨e1,by omega,?_⟩;rw[show a+(n0+n2)=a+n0+n2 by omega];exact e5
 | (s0,n0,p0)::r,a,b,i+1,s,n,p,s2,n2,p2,h,h1,h2=>by
  obtain⟨e1,e2,e3⟩:=h;have:=Runs.at (i:=i) e3 (by simpa using h1) (by simpa using h2);exact⟨this.1,this.2.1,this.2.2.1,this.2.2.2.1,e1,e2,this.2.2.2.2⟩
theorem Runs.mod(f:Nat × Nat × Nat->Nat × Nat × Nat)(hf:∀x,(f x).1=x.1/\(f x).2.1=x.2.1):∀{l:List (Nat × Nat × Nat)} {a b i:Nat},Runs l a b->Runs (l.modify i f) a b
 | [],_,_,i,h=>by simpa using h
 | (s0,n0,p0)::r,a,b,0,h=>by
  have:=hf (s0,n0,p0);rw[List.modify_zero_cons];generalize f (s0,n0,p0)=y at this;obtain⟨y1,y2,y3⟩:=y;obtain⟨rfl,rfl⟩:=this;exact h
 | (s0,n0,p0)::r,a,b,i+1,h=>⟨h.1,h.2.1,Runs.mod f hf h.2.2⟩
section
variable {prog:Program} {w:World} {A:Around} {E:Value->Shared->Prop} {s:Shared} {κ:SortKind} {g:Keyed->Prop} {N:Nat} {pd:Array (Nat × Nat × Nat)}
theorem Ve{M:Model}{σ:Type}{st':σ}{Q:PUnit->σ->Prop}{st:σ}(h:Q ⟨⟩ st'):wpS M A E s (set st':StateT σ Sem PUnit) Q st:=by
 unfold wpS;rw[StateT.run_set];exact ah ⟨rfl,h⟩
theorem GA.setB{xs:Array Keyed}{x:Keyed}{i:Nat}(h1:GA g xs)(h2:g x):GA g (xs.setIfInBounds i x):=λp hp=>by
 obtain⟨k,hk,e⟩:=HQ.mp hp;rw[Array.getElem_setIfInBounds]at e
 ·split at e
  ·exact e▸h2
  ·exact e▸h1 _ (sV _)
 ·simpa using hk
theorem GA.fold{sa:Nat}:∀{l:List (Keyed × Nat)} {xs:Array Keyed},GA g xs->(∀p∈l,g p.1)->GA g (l.foldl (λa x=>a.setIfInBounds (sa+x.2) x.1) xs)/\(l.foldl (λa x=>a.setIfInBounds (sa+x.2) x.1) xs).size=xs.size
 | [],xs,h,_=>⟨h,rfl⟩
 |p::l,xs,h,hl=>by
  have:=GA.fold (sa:=sa) (h.setB (i:=sa+p.2) (hl p (bO ..))) (λq hq=>hl q (bI _ hq));exact⟨this.1,this.2.trans (Array.size_setIfInBounds ..)⟩
theorem yf{i lo:Nat}{st:SortSt}{Q:Bool->SortSt->Prop}(ok:f9 prog w A s κ g)(S:Safe κ g N pd st)(hR:Runs pd.toList 0 lo)(hlo:lo<=N)(hi:i+1<pd.size)(h:∀wL st',Safe κ g N wL st'->Runs wL.toList 0 lo->1<=wL.size->Q true st'):wpS (model prog w) A E s (mergeAt' i) Q st:=by
 refine aj (fJ ?_);dsimp only;obtain⟨⟨sa,na,pw⟩,e1⟩:∃x,pd[i]?=some x:=⟨_,qf pd i (by omega)⟩;obtain⟨⟨sb,nb,V0⟩,e2⟩:∃x,pd[i+1]?=some x:=⟨_,qf pd (i+1) (by omega)⟩;obtain⟨rfl,n1,n2,z1,R2⟩:=hR.at (i:=i) (by simpa using e1) (by simpa using e2);have hp:(sortPriv% PySem.Builtin.SortState.pending) st=pd:=S.pend;rw[hp,e1,e2];dsimp only;refine aj (Ve ?_);have S2:∀st':SortSt,kindOf st'=kindOf st->failedOf st'=none->GA g (arrOf st')->(arrOf st').size=N->pendingOf st'=(pd.setIfInBounds i (sa,na+nb,pw)).eraseIdxIfInBounds (i+1)->Safe κ g N ((pd.setIfInBounds i (sa,na+nb,pw)).eraseIdxIfInBounds (i+1)) st':=
  λst' a1 a2 a3 a4 a5=>⟨a1.trans S.kind,a2,a4,a3,a5⟩
 have R3:Runs ((pd.setIfInBounds i (sa,na+nb,pw)).eraseIdxIfInBounds (i+1)).toList 0 lo:=by
  have:((pd.setIfInBounds i (sa,na+nb,pw)).eraseIdxIfInBounds (i+1)).toList=(pd.toList.set i (sa,na+nb,pw)).eraseIdx (i+1):=by simp
  rw[this];exact R2
 have sz:1<=((pd.setIfInBounds i (sa,na+nb,pw)).eraseIdxIfInBounds (i+1)).size:=by
  rw[<- fC];generalize ((pd.setIfInBounds i (sa,na+nb,pw)).eraseIdxIfInBounds (i+1)).toList=l at R3;cases l with
  |nil =>
   have:0=lo:=R3;omega
  |cons=>simp
 have S3:=S2 (SortSt.mk' (kindOf st) (arrOf st) ((pd.setIfInBounds i (sa,na+nb,pw)).eraseIdxIfInBounds (i+1)) (gallopOf st) (failedOf st)) rfl S.failed S.all S.size rfl;have T:∀(k:Nat) (M:Array Keyed) (cg:SortSt),GA g M->Safe κ g N ((pd.setIfInBounds i (sa,na+nb,pw)).eraseIdxIfInBounds (i+1)) cg->wpS (model prog w) A E s (do
   modify λs=>setArr s (List.foldl (λa x=>a.setIfInBounds (sa+k+x.2) x.1) (arrOf s) M.toList.zipIdx)
   let y <- get
   pure (failedOf y).isNone) Q cg:=by
  intro k M cg gM S4;refine aj (gR (aj (fJ (az ?_))));have q:=GA.fold (sa:=sa+k) (l:=M.toList.zipIdx) (xs:=arrOf cg) S4.all (λp hp=>gM _ (by
   have:=List.mem_zipIdx hp;rw[this.2.2];simp))
  rw[show failedOf (setArr cg _)=none from S4.failed];exact h _ _ ⟨S4.kind,S4.failed,q.2.trans S4.size,q.1,S4.pend⟩ R3 sz
 have hs:(arrOf st).size=N:=S.size;have hs':((sortPriv% PySem.Builtin.SortState.a) st).size=N:=S.size;refine aj (d0 S.all (by omega) λp gp=>?_);refine aj (gJ ok S3 gp S.all (by omega) (by omega) λk hk=>?_);dsimp only;refine fB (λq1=>?_) (λq1=>?_)
 ·exact az (h _ _ S3 R3 sz)
 ·refine aj (d0 S.all (by omega) λp2 L5=>?_)
  refine aj (gJ ok S3 L5 S.all (by omega) (by omega) λk2 hk2=>?_);dsimp only;refine fB (λq2=>?_) (λq2=>?_)
  ·exact az (h _ _ S3 R3 sz)
  ·have e3:((arrOf st).extract (sa+k) (sa+na)).size=na - k:=by
    rw[Array.size_extract];omega
   have e4:((arrOf st).extract (sa+na) (sa+na+k2)).size=k2:=by
    rw[Array.size_extract];omega
   have e3':(((sortPriv% PySem.Builtin.SortState.a) st).extract (sa+k) (sa+na)).size=na - k:=e3;have e4':(((sortPriv% PySem.Builtin.SortState.a) st).extract (sa+na) (sa+na+k2)).size=k2:=e4;have g3:GA g ((arrOf st).extract (sa+k) (sa+na)):=GA.ext S.all;have g4:GA g ((arrOf st).extract (sa+na) (sa+na+k2)):=GA.ext S.all;refine dE (λ_=>?_) (λ_=>?_)
   ·exact aj (Vc ok S3 g3 g4 (by rw[e3];omega) (by rw[e4];omega) λM cg gM S4=>T k M cg gM S4)
   ·exact aj (Vb ok S3 g3 g4 (by rw[e3];omega) (by rw[e4];omega) λM cg gM S4=>T k M cg gM S4)
theorem Vf{st:SortSt}{Q:Unit->SortSt->Prop}(ok:f9 prog w A s κ g)(S:Safe κ g N #[] st)(h:∀pd st',Safe κ g N pd st'->Q () st'):wpS (model prog w) A E s sortRuns' Q st:=by
 refine aj (fJ ?_);have hs:((sortPriv% PySem.Builtin.SortState.a) st).size=N:=S.size;dsimp only;rw[hs];generalize (sortPriv% PySem.Builtin.minRun) N N 0=mr;refine aj (cD (cC (I:=λx c st'=>∃lo pd,c=(none,lo)/\Safe κ g N pd st'/\Runs pd.toList 0 lo/\lo<=N/\x<=lo) (Q:=λc st'=>∃lo pd,c=(none,lo)/\Safe κ g N pd st'/\Runs pd.toList 0 lo/\lo<=N) ?step (λc st' ⟨lo,pd,e,z1,z2,z3,_⟩=>⟨lo,pd,e,z1,z2,z3⟩) ⟨0,#[],rfl,S,rfl,cA _,aC _⟩) ?post)
 case step =>
  rintro x c st1 _ hx ⟨lo,pd,rfl,S1,R1,hlo,VM⟩;dsimp only;refine dE (λq=>?_) (λq=>?_)
  ·exact az ⟨lo,pd,rfl,S1,R1,hlo⟩
  ·refine aj (Va ok S1 (by omega) (by omega) λn st3 hn1 hn2 S3=>?_)
   dsimp only;refine dE (λq2=>?_) (λq2=>?_)
   ·refine aj (jX ?_)
    refine aj (U_ ok S3 (by omega) λst3 S3=>?_);refine dE (λe=>by simp at e) (λ_=>?_);have kT:1<=min (N - lo) mr:=by omega
    have kU:lo+min (N - lo) mr<=N:=by omega
    generalize min (N - lo) mr=n at kT kU;refine aj (fJ ?_);cases hb:((sortPriv% PySem.Builtin.SortState.pending) st3).back? with
    |none =>
     dsimp only;refine aj (gR (az ⟨_,_,rfl,⟨S3.kind,S3.failed,S3.size,S3.all,rfl⟩,?_,kU,by omega⟩));show Runs ((pendingOf st3).push (lo,n,0)).toList 0 (lo+n);rw[S3.pend,lH];exact R1.app (s:=0) kT
    |some y =>
     obtain⟨s1,n1,p1⟩:=y;dsimp only;refine aj (cD (cC (I:=λ_ c st'=>∃pd,c=(none,())/\Safe κ g N pd st'/\Runs pd.toList 0 lo) (Q:=λc st'=>∃pd,c=(none,())/\Safe κ g N pd st'/\Runs pd.toList 0 lo) ?_ (λ_ _ z=>z) ⟨pd,rfl,S3,R1⟩) ?_)
     ·rintro _ c cg _ _ ⟨c5,rfl,S4,R4⟩
      refine aj (fJ ?_);have nz:(sortPriv% PySem.Builtin.SortState.pending) cg=c5:=S4.pend
      try dsimp only
      rw[nz]
      by_cases q4:c5.size > 1
      ·rw[if_pos q4]
       obtain⟨⟨y1,y2,y3⟩,ey⟩:∃y,c5[c5.size - 2]?=some y:=⟨_,qf _ _ (by omega)⟩;rw[ey];dsimp only;refine dE (λ_=>az ⟨c5,rfl,S4,R4⟩) (λ_=>?_);refine aj (yf ok S4 R4 hlo (by omega) λn_ gI S5 R5 _=>?_);refine dE (λe=>by simp at e) λ_=>az ⟨n_,rfl,S5,R5⟩
      ·rw[if_neg q4]
       exact az ⟨c5,rfl,S4,R4⟩
     ·rintro c cg ⟨c5,rfl,S4,R4⟩
      dsimp only;refine aj (gR (aj (gR (az ⟨_,_,rfl,⟨S4.kind,S4.failed,S4.size,S4.all,rfl⟩,?_,kU,by omega⟩))));show Runs (((pendingOf cg).modify ((pendingOf cg).size - 1) _).push (lo,n,0)).toList 0 (lo+n);rw[S4.pend,lH,Array.toList_modify];refine Runs.app (s:=0) ?_ kT;refine Runs.mod _ ?_ R4;exact λx=>⟨rfl,rfl⟩
   ·have kT:1<=n:=hn1
    have kU:lo+n<=N:=by omega
    refine aj (fJ ?_);cases hb:((sortPriv% PySem.Builtin.SortState.pending) st3).back? with
    |none =>
     dsimp only;refine aj (gR (az ⟨_,_,rfl,⟨S3.kind,S3.failed,S3.size,S3.all,rfl⟩,?_,kU,by omega⟩));show Runs ((pendingOf st3).push (lo,n,0)).toList 0 (lo+n);rw[S3.pend,lH];exact R1.app (s:=0) kT
    |some y =>
     obtain⟨s1,n1,p1⟩:=y;dsimp only;refine aj (cD (cC (I:=λ_ c st'=>∃pd,c=(none,())/\Safe κ g N pd st'/\Runs pd.toList 0 lo) (Q:=λc st'=>∃pd,c=(none,())/\Safe κ g N pd st'/\Runs pd.toList 0 lo) ?_ (λ_ _ z=>z) ⟨pd,rfl,S3,R1⟩) ?_)
     ·rintro _ c cg _ _ ⟨c5,rfl,S4,R4⟩
      refine aj (fJ ?_);have nz:(sortPriv% PySem.Builtin.SortState.pending) cg=c5:=S4.pend
      try dsimp only
      rw[nz]
      by_cases q4:c5.size > 1
      ·rw[if_pos q4]
       obtain⟨⟨y1,y2,y3⟩,ey⟩:∃y,c5[c5.size - 2]?=some y:=⟨_,qf _ _ (by omega)⟩;rw[ey];dsimp only;refine dE (λ_=>az ⟨c5,rfl,S4,R4⟩) (λ_=>?_);refine aj (yf ok S4 R4 hlo (by omega) λn_ gI S5 R5 _=>?_);refine dE (λe=>by simp at e) λ_=>az ⟨n_,rfl,S5,R5⟩
      ·rw[if_neg q4]
       exact az ⟨c5,rfl,S4,R4⟩
     ·rintro c cg ⟨c5,rfl,S4,R4⟩
      dsimp only;refine aj (gR (aj (gR (az ⟨_,_,rfl,⟨S4.kind,S4.failed,S4.size,S4.all,rfl⟩,?_,kU,by omega⟩))));show Runs (((pendingOf cg).modify ((pendingOf cg).size - 1) _).push (lo,n,0)).toList 0 (lo+n);rw[S4.pend,lH,Array.toList_modify];refine Runs.app (s:=0) ?_ kT;refine Runs.mod _ ?_ R4;exact λx=>⟨rfl,rfl⟩
 case post =>
  rintro c st2 ⟨lo,pd,rfl,S2,R2,hlo⟩;dsimp only;refine aj (cD (cC (I:=λ_ c st'=>∃pd,c=(none,())/\Safe κ g N pd st'/\Runs pd.toList 0 lo) (Q:=λc st'=>∃pd,c=(none,())/\Safe κ g N pd st'/\Runs pd.toList 0 lo) ?_ (λ_ _ z=>z) ⟨pd,rfl,S2,R2⟩) ?_)
  ·rintro _ c cg _ _ ⟨c5,rfl,S4,R4⟩
   refine aj (fJ ?_);have nz:(sortPriv% PySem.Builtin.SortState.pending) cg=c5:=S4.pend
   try dsimp only
   rw[nz];refine dE (λ_=>az ⟨c5,rfl,S4,R4⟩) (λq4=>?_);refine aj (yf ok S4 R4 hlo ?_ λn_ gI S5 R5 _=>?_)
   ·(repeat' split)<;>omega
   ·refine dE (λe=>by simp at e) λ_=>az ⟨n_,rfl,S5,R5⟩
  ·rintro c cg ⟨c5,rfl,S4,R4⟩
   exact az (h _ _ S4)
theorem OJ:f9 prog w A s oneType' λp=>(∃n t,p.1 = .int n t)/\∃n t,p.2 = .int n t:=by
 rintro⟨x1,x2⟩ ⟨y1,y2⟩ ⟨⟨n,t,rfl⟩,_⟩ ⟨⟨m,u,rfl⟩,_⟩;exact⟨decide (n<m),λQ h=>oneLt_int h⟩
theorem Oy {a:Addr} {vs:List Value} {ns:List Int} {n:Nat} {P:PySem.Fin->Shared->Prop} (ho:s.heap.get? a=some (seqObj "list" vs.toArray n))
  (hI:IntsAre vs ns) (h2:2<=vs.length) (hz:vs.length<=2000)
  (h:∀(out:Array Value) (ns':List Int),IntsAre out.toList ns'->ns'.length=ns.length->P (.done (.ret .none)) {s with heap:=sortedHeap s.heap a vs out}) :
  wpAny (model prog w) A (Builtin.«list.sort» ⟨[.ref a],[]⟩) P E s:=by
 rw[list_sort_plain];have ha:a<s.heap.objs.size:=aI ho;refine ae (mw ho rfl ?_);refine ae (mx ho rfl ?_);obtain⟨e1,ho1⟩:∃e1,(s.heap.update a (Obj.mapSeq λ_=>#[])).get? a=some (seqObj "list" #[] e1):=⟨_,pe ho (λ_=>#[])⟩;refine ae (seqEpoch_at ho1 rfl ?_);refine ae (ub ?_);refine ae (jm ?_);refine dG ?_;have ho6:(((s.heap.update a (Obj.mapSeq λ_=>#[])).push (seqObj "tuple" vs.toArray 0)).push (seqObj "list" #[] 0)).get? a=some (seqObj "list" #[] e1):=
  aB _ (aB _ ho1)
 show wpAny (model prog w) A _ P E {s with heap:=((s.heap.update a (Obj.mapSeq λ_=>#[])).push (seqObj "tuple" vs.toArray 0)).push (seqObj "list" #[] 0)};dsimp only;have hsz:¬ vs.toArray.size<2:=by simp;omega
 rw[if_neg hsz,if_neg hsz];obtain⟨v₁,v₂,rest,rfl⟩:∃v₁ v₂ rest,vs=v₁::v₂::rest:=by
  match vs,h2 with
  |v₁::v₂::rest,_=>exact⟨v₁,v₂,rest,rfl⟩
 rw[keyKind_ints hI];refine ae (ah ?_);refine ae (dg (Vf (N:=(v₁::v₂::rest).length) (st:=SortSt.mk' oneType' ((v₁::v₂::rest).toArray.zip (v₁::v₂::rest).toArray) #[] 7 none)
  (Q:=λ_ st'=>∃pd,Safe oneType' (λp=>(∃n t,p.1 = .int n t)/\∃n t,p.2 = .int n t) (v₁::v₂::rest).length pd st') OJ
  ⟨rfl,rfl,pairsOf_size _,λp hp=>?_,rfl⟩ λpd st' z=>⟨pd,z⟩) ?_ λ_ _ e=>e)
 ·have hp2:p∈pairsOf (v₁::v₂::rest):=hp
  have hp':p∈(pairsOf (v₁::v₂::rest)).toList:=yg.mpr hp2;rw[pairsOf_toList]at hp';have:=mem_zip_self hp';exact⟨hI.all _ this.2,this.1▸hI.all _ this.2⟩
 ·rintro⟨⟨⟩,st'⟩ s' ⟨rfl,pd,S⟩
  dsimp only;refine ae (seqEpoch_at ho6 rfl ?_);refine ae (mx ho6 rfl ?_ (hsz2:=by refine cy (lX ((Array.size_map ..).trans S.size)) ?_;rw[sizeLine_eq];omega));rw[S.failed];simp only[bne_self_eq_false,fc,dC];have hall:=intsAre_map ((arrOf st').map (·.2)).toList (by
   intro v hv;simp only[yh,cx]at hv;obtain⟨p,hp,rfl⟩:=hv;exact(S.all p (by simpa using hp)).2)
  refine ah (h _ _ hall ?_);rw[ay,fC,Array.size_map,S.size,hI.length]
theorem Df {a:Addr} {vs:List Value} {ns:List Int} {n:Nat} {P:PySem.Fin->Shared->Prop} (ho:s.heap.get? a=some (seqObj "list" vs.toArray n))
  (hI:IntsAre vs ns) (hz:vs.length<=2000)
  (h:∀(out:Array Value) (ns':List Int),IntsAre out.toList ns'->ns'.length=ns.length->(ns.length<64->ns'.Perm ns/\ns'.Pairwise (·<=·))->P (.done (.ret .none)) {s with heap:=sortedHeap s.heap a vs out}) :
  wpAny (model prog w) A (Builtin.«list.sort» ⟨[.ref a],[]⟩) P E s:=by
 have hl:=hI.length
 by_cases h64:vs.length<64
 ·exact list_sort_tree ho hI h64 λout ns' x1 x2 x3=>h out ns' x1 x2.length_eq λ_=>⟨x2,x3⟩
 ·exact Oy ho hI (by omega) hz λout ns' x1 x2=>h out ns' x1 x2 λz=>absurd z (by omega)
end
theorem Ju:bootBuiltins "set" = some (.type "set"):=by decide +kernel
theorem zM:bootBuiltins "sorted" = some (.builtin "sorted"):=by decide +kernel
noncomputable def kj(P:Program)(w:World)(p:Addr)(ks:List Int):HO:=.ext λh=>dq P w h p ks
theorem SJ{P:Program}{w:World}{H:Hp}{h:Heap}{p:Addr}{ks:List Int}(hG:dq P w h p ks):aN P w H h p (kj P w p ks):=
 ⟨hG,let⟨o,_,_,_,e,_⟩:=hG;⟨o,e⟩,λh1 h2 g k=>g.moved λo e=>k o e⟩
theorem Rk{ks:List Int}{k x:Int}:x∈iA ks k ↔ x∈ks\/x=k:=by
 unfold iA
 split
 ·rename_i h
  exact⟨.inl,λz=>z.elim id λe=>e▸h⟩
 ·simp
theorem DX(val:Nat->Int){x:Int}:∀i,x∈numsTo val i ↔ ∃j,j<i/\val j=x
 |0=>by simp[numsTo]
 |i+1=>by
  rw[numsTo_succ,Rk,DX val i]
  constructor
  ·rintro(⟨j,h1,h2⟩|h)
   ·exact⟨j,by omega,h2⟩
   ·exact⟨i,by omega,h.symm⟩
  ·rintro⟨j,h1,h2⟩
   by_cases e:j=i
   ·exact .inr (by rw[<- h2,e])
   ·exact .inl ⟨j,by omega,h2⟩
section
variable {X:Cx} {K:W.Frag}
theorem Inv.Ke{pins:List (Addr × Obj)}{σ:St}{H:Hp}{s:Shared}{d':Drawn}(I:Inv X pins σ H s):Inv X pins σ H {s with drawn:=d'}:=
 ⟨I.ok,I.os,I.bare,I.base,I.loc,I.cell,I.free,I.cJ,I.pin,I.hok,I.len⟩
noncomputable def RK(X:Cx)(K:W.Frag):List V->Hp->VK->Prop:=λxs H Q=>∃(l:Addr) (ns:List Int),xs = [.ref l]/\ao K H l (ns.map V.int)/\ns.length<=1000/\∀p ks,H p=none->ks.Nodup->(∀k,k∈ks ↔ k∈ns)->Q (.ref p) (upd H p (kj X.prog X.w p ks))
theorem JK (h:X.K=K) (hr:aV 0 X.A):da X (.type "set") (RK X K):=by
 subst h;intro pins s σ H vs us Q I rv h;obtain⟨l,ns,rfl,hl,hz,q⟩:=h;obtain⟨u,rfl,ru⟩:=rv.one;cases ru;obtain⟨its,r,pl,_⟩:=I.list hl;have hI:=nL r;have hlen:its.length=ns.length:=by rw[<- r.length,ay]
 refine Sy hr.hd pl.isList (by simpa using hI) (by rw[bz,hlen];show ns.length+1<4096;omega) λh' tk hG hk=>?_;have kept:∀b o,s.heap.get? b=some o->h'.get? b=some o:=λb o e=>hk b o (aI e) e;refine⟨.ref s.heap.objs.size,_,I.laid (o:=kj X.prog X.w s.heap.objs.size _) kept (aC _) (SJ hG),rfl,q _ _ I.fresh ?_ λk=>?_⟩
 ·obtain⟨_,_,_,_,_,_,_,H⟩:=hG
  exact H.nd
 ·rw[DX,bz,hlen]
  constructor
  ·rintro⟨j,h1,h2⟩
   rw[<- h2,aQ,aK h1];exact j7 h1
  ·intro hk
   obtain⟨j,h1,h2⟩:=j8 hk;exact⟨j,h1,by rw[aQ,aK h1];exact h2⟩
noncomputable def RM(X:Cx):List V->Hp->VK->Prop:=λxs H Q=>∃(a:Addr) (ks:List Int),xs = [.ref a]/\H a=some (kj X.prog X.w a ks)/\ks.length<=1000/\∀(p:Addr) (ms:List Int),H p=none->ms.length=ks.length->(ks.length<64->ms.Perm ks/\ms.Pairwise (·<=·))->Q (.ref p) (upd H p (.lst (ms.map V.int)))
theorem GZ {h:Heap} {a:Addr} {vs:List Value} {out:Array Value} {n:Nat} (e:h.get? a=some (seqObj "list" vs.toArray n)):(∃c,(sortedHeap h a vs out).get? a=some (seqObj "list" out c))/\∀b o,b≠a->h.get? b=some o->(sortedHeap h a vs out).get? b=some o:=by
 unfold sortedHeap;obtain⟨e1,h1⟩:∃e1,(h.update a (Obj.mapSeq λ_=>(#[]:Array Value))).get? a=some (seqObj "list" #[] e1):=⟨_,pe e λ_=>#[]⟩;refine⟨⟨_,pe (aB _ (aB _ h1)) λ_=>out⟩,λb o hb q=>?_⟩;rw[mB _ _ _ _ hb];refine aB _ (aB _ ?_);rw[mB _ _ _ _ hb];exact q
theorem JM (hr:aV 0 X.A):da X (.builtin "sorted") (RM X):=by
 intro pins s σ H vs us Q I rv h;obtain⟨a,ks,rfl,ha,hz,q⟩:=h;obtain⟨u,rfl,ru⟩:=rv.one;cases ru;have hG:dq X.prog X.w s.heap a ks:=(show aN X.prog X.w H s.heap a (kj X.prog X.w a ks)from I.hok a _ ha).1;refine yT kind_sorted plain_sorted entry_sorted (args_sorted1 (.ref a)) ?_;unfold Builtin.«sorted»;refine ae (m:=checkCount "sorted" 1 1 _) (ah (ae (JW (A:=X.A.in1) hr.hd hG (by omega) λvs ns h1 d1 tk hI hp k1 _=>ae (jm ?_ ?_))))
 ·have I1:Inv X pins σ H {s with heap:=h1,drawn:=d1,toks:=tk}:=(I.kept (t':=tk) k1).Ke
  have ea:(h1.push {cls:=.type "list", data:=.seq vs.toArray}).get? h1.objs.size=some (seqObj "list" vs.toArray 0):=aX _ rfl;refine ae (dG (yV slot_list_sort ⟨_,ea,rfl⟩ entry_list_sort ?_ (args_list_sort _)));show wpAny (model X.prog X.w) X.A.in1.in1 (Builtin.«list.sort» ⟨[.ref h1.objs.size],[]⟩) _ _ _;have hvl:vs.length<=1000:=by rw[hI.length,hp.length_eq];exact hz
  refine Df (s:={s with heap:=h1.push {cls:=.type "list", data:=.seq vs.toArray},drawn:=d1,toks:=tk}) (vs:=vs) (n:=0) ea hI (cy hvl (by decide)) λout ns' hI' hp' hs'=>?_;obtain⟨⟨c,g1⟩,g2⟩:=GZ (out:=out) ea;have hol:out.toList.length<=sizeLine:=by rw[hI'.length,hp',<- hI.length];exact eJ (rM (by omega))
  have I5:Inv X pins σ (upd H h1.objs.size (.lst (ns'.map V.int))) {s with heap:=sortedHeap (h1.push {cls:=.type "list", data:=.seq vs.toArray}) h1.objs.size vs out,drawn:=d1,toks:=tk}:=by
   refine I1.laid (t':=tk) (λb o e=>?_) (aC _) ⟨by rw[ay,<- hI'.length];exact hol,out.toList,c,sJ hI',by simpa using g1⟩;exact g2 b o (aY (aI e)) (aB _ e)
  exact⟨_,rfl,ah ⟨_,rfl,.ref h1.objs.size,_,I5,rfl,q _ ns' I1.fresh (hp'.trans hp.length_eq) λz=>⟨(hs' (by rw[hp.length_eq];exact z)).1.trans hp,(hs' (by rw[hp.length_eq];exact z)).2⟩⟩⟩
 ·rw[hI.length,hp.length_eq]
  exact eJ (rM (by omega))
end
noncomputable def RL(K:W.Frag):List V->Hp->VK->Prop:=λxs H Q=>∃(l:Addr) (ns:List Int),xs = [.ref l]/\ao K H l (ns.map V.int)/\ns.length<=2000/\∀(p:Addr) (ms:List Int),H p=none->ms.length=ns.length->(ns.length<64->ms.Perm ns/\ms.Pairwise (·<=·))->Q (.ref p) (upd H p (.lst (ms.map V.int)))
theorem JL {X:Cx} {K:W.Frag} (h:X.K=K) (hr:aV 0 X.A):da X (.builtin "sorted") (RL K):=by
 subst h;intro pins s σ H vs us Q I rv h;obtain⟨l,ns,rfl,hl,hz,q⟩:=h;obtain⟨u,rfl,ru⟩:=rv.one;refine yT kind_sorted plain_sorted entry_sorted (args_sorted1 u) ?_;unfold Builtin.«sorted»;refine ae (m:=checkCount "sorted" 1 1 _) (ah (ae (JX (A:=X.A.in1) hr.hd I ru (.inr ⟨l,rfl,hl⟩) (by rw[ay];omega) λits s1 rt I1=>ae (jm ?_ ?_))))
 ·have hI:=nL rt
  have ea:(s1.heap.push {cls:=.type "list", data:=.seq its.toArray}).get? s1.heap.objs.size=some (seqObj "list" its.toArray 0):=aX _ rfl;refine ae (dG (yV slot_list_sort ⟨_,ea,rfl⟩ entry_list_sort ?_ (args_list_sort _)));show wpAny (model X.prog X.w) X.A.in1.in1 (Builtin.«list.sort» ⟨[.ref s1.heap.objs.size],[]⟩) _ _ _;have hvl:its.length<=2000:=by rw[hI.length];exact hz
  refine Df (s:={s1 with heap:=s1.heap.push {cls:=.type "list", data:=.seq its.toArray}}) (vs:=its) (n:=0) ea hI hvl λout ns' hI' hp' hs'=>?_;obtain⟨⟨c,g1⟩,g2⟩:=GZ (out:=out) ea;have hol:out.toList.length<=sizeLine:=by rw[hI'.length,hp',<- hI.length];exact eJ (lZ (by omega:_<=2000) (by decide))
  have I5:Inv X pins σ (upd H s1.heap.objs.size (.lst (ns'.map V.int))) {s1 with heap:=sortedHeap (s1.heap.push {cls:=.type "list", data:=.seq its.toArray}) s1.heap.objs.size its out,toks:=s1.toks}:=by
   refine I1.laid (t':=s1.toks) (λb o e=>?_) (aC _) ⟨by rw[ay,<- hI'.length];exact hol,out.toList,c,sJ hI',by simpa using g1⟩;exact g2 b o (aY (aI e)) (aB _ e)
  exact⟨_,rfl,ah ⟨_,rfl,.ref s1.heap.objs.size,_,I5,rfl,q _ ns' I1.fresh hp' hs'⟩⟩
 ·rw[<- rt.length,ay]
  exact eJ (lZ (by omega:_<=2000) (by decide))
end L2
namespace My
open PySem PySem.Spec PyProof.Rows L2
theorem qA{M:List Nat}{a:Nat}(h:a<M.length):(M.map nV)[a]?=some (nV (M.getD a 0)):=by
 rw[bT,aK h,aQ,aK h];rfl
theorem Same.nS{H H':Hp}{a:Addr}(s:Same H H')(h:H' a = .none):H a = .none:=by
 cases e:H a with
 |none=>rfl
 |some o=>rw[s a o e]at h;cases h
theorem Ti{K:W.Frag}{a:Addr}{xs:List V}{ρ:L2.St}{H1:Hp}(h:ao K H1 a xs):ft (tE K a xs.length) (bq 0) (none::ρ) H1 xs.length (λi=>some (xs.getD (xs.length - 1 - i) .non)::ρ) where
 go:=λi H hi hs=>⟨hi,xs,xs[xs.length - 1 - i],hs.seq h,aK (by omega)⟩
 stop:=λH hs=>rfl
 step:=λi H x H' K hi hs hy hk=>by
  obtain⟨rfl,hx⟩:=hy;have e:=hx xs (hs.seq h);have e2:xs.getD (xs.length - 1 - i) .non=x:=by rw[aQ,e];rfl
  refine⟨Wk.set (Wk.refl _) rfl,?_⟩;have:=hk _ (Same.refl _);rw[e2]at this;exact this
theorem RQ{β:Type}(r:List Nat)(p:Nat->Bool)(g:Nat->β):((List.range r.length).filter λi=>p (r.getD i 0)).map (λi=>g (r.getD i 0))=(r.filter p).map g:=by
 have e:r=(List.range r.length).map λi=>r.getD i 0:=by
  apply jg
  ·simp
  ·intro i h1 h2
   simp[aQ,aK h1]
 conv=>rhs;rw[e]
 rw[List.filter_map,dn];rfl
theorem rev_getD(l:List Nat){i:Nat}(h:i<l.length):l.reverse.getD i 0=l.getD (l.length - 1 - i) 0:=by
 rw[aQ,aQ,List.getElem?_reverse h]
noncomputable def jq(l:List Nat)(i j:Nat):Bool:=decide (l.getD j 0 % l.getD i 0=0)
theorem hW{l:List Nat}{i j:Nat}:jq l i j=true ↔ l.getD i 0 ∣ l.getD j 0:=by
 unfold jq;rw[cQ];exact⟨yH,yL⟩
theorem LQ{n:Nat}{l:List Nat}(A:Dv.All n l)(h0:0<n):Good l.length (jq l):=by
 have g:∀i,i<l.length->l.getD i 0 ∣ n:=λi hi=>(A.mem _).mp (Ev.getD_mem hi);refine⟨λi hi=>hW.mpr (o6 _),λi j hi hj h1 h2=>Ev.getD_inj A.nd hi hj (Nat.dvd_antisymm (hW.mp h1) (hW.mp h2)),λi j hi hj=>?_,λi j hi hj=>?_⟩
 ·obtain⟨k,hk,e⟩:=Ev.Ay ((A.mem (Nat.lcm (l.getD i 0) (l.getD j 0))).mpr (Nat.lcm_dvd (g i hi) (g j hj)))
  refine⟨k,hk,λx hx=>?_⟩;rw[dw,cq,hW,hW,hW,e];exact⟨λh=>⟨fq (Nat.dvd_lcm_left _ _) h,fq (Nat.dvd_lcm_right _ _) h⟩,λh=>Nat.lcm_dvd h.1 h.2⟩
 ·obtain⟨k,hk,e⟩:=Ev.Ay ((A.mem (Nat.gcd (l.getD i 0) (l.getD j 0))).mpr (fq (yI _ _) (g i hi)))
  refine⟨k,hk,λx hx=>?_⟩;rw[dw,cq,hW,hW,hW,e];exact⟨λh=>⟨fq h (yI _ _),fq h (Nat.gcd_dvd_right _ _)⟩,λh=>Nat.dvd_gcd h.1 h.2⟩
theorem Ou(n:Nat):((List.range 1000).filter λj=>decide ((1+j)*(1+j)<=n)&&decide (n % (1+j)=0)).map (λj=>nV (1+j))=(Dv.lesser n).map nV:=by
 unfold Dv.lesser;rw[List.range'_eq_map_range,List.filter_map,dn];rfl
section
variable {P:Program} {w:World} {K:W.Frag} {mg:Str->Option Value} {base:Heap} {f:Addr} {fd:FuncData}
abbrev ou:Stmt:=top 42
theorem FT:bf ["number","lesser","greater"] ["number"] (aq ou):=⟨rfl,rfl,rfl,by decide +kernel,rfl,by decide +kernel,by decide +kernel⟩
abbrev rA:Stmt:=top 43
theorem FV:bf ["number"] ["number"] (aq rA):=⟨rfl,rfl,rfl,by decide +kernel,rfl,by decide +kernel,by decide +kernel⟩
abbrev mZ:Pos:=⟨165,38,165,73⟩
abbrev m6:Str:=("dividing" : Str) ++ ".<locals>." ++ "<lambda>"
end
end My
namespace L2
open PySem PySem.Spec PyProof.Rows
section
variable {prog:Program} {w:World} {A:Around} {E:Value->Shared->Prop} {h:Heap} {g:Array GenState} {d:Drawn} {t:Nat} {os:OsState}
variable {nm q:Str} {C N:Addr} {bs bm bmB:List Value} {hdct:Bool} {sn:List Str} {sub:List Value} {ab:Bool} {col:Option Bool} {dd:Option Addr} {k0 k1 k2 k3 k5:Option Value} {B newId initId:String}
end
section
variable {M:Model} {A:Around} {E:Value->Shared->Prop} {env:Env}
variable {nm q:Str} {C N:Addr} {bs bm:List Value} {hdct:Bool} {sn:List Str} {sub:List Value} {ab:Bool} {col:Option Bool} {dd:Option Addr} {k0 k1 k2 k3 k5:Option Value} {newId:String}
end
section
variable {prog:Program} {w:World} {A:Around} {E:Value->Shared->Prop} {h:Heap} {g:Array GenState} {d:Drawn} {t:Nat} {os:OsState}
variable {nm q:Str} {C N:Addr} {bs bm bmB:List Value} {hdct:Bool} {sn:List Str} {sub:List Value} {ab:Bool} {col:Option Bool} {dd:Option Addr} {k0 k1 k2 k3 k5:Option Value} {B newId initId:String}
end
end L2
namespace L2
open PySem PySem.Spec PyProof.Rows PySem.W
open Builtin Builtin.ObjectAttr
section
variable {prog:Program} {w:World} {A:Around} {E:Value->Shared->Prop} {h:Heap} {g:Array GenState} {d:Drawn} {t:Nat} {os:OsState} {K:Frag} {e C D:Addr} {cd:ClassData} {sl:Array (Option Value)} {vs:Array Value} {name:Str} {v:Value}
end
section
variable {X:Cx} {pins:List (Addr × Obj)} {σ:St} {H:Hp} {s:Shared}
end
section
variable {X:Cx} {E:XK} {x:Str} {C fI:Addr} {fd:FuncData} {ps:List Str} {k:Nat} {sp:Sp} {np cpos pos:Pos} {e0:Expr} {es:List Expr} {ta:TA}
end
section
variable {X:Cx} {o value:Expr} {ta tv:TE} {f:Str} {pos pos':Pos}
end
section
variable {X:Cx} {e:Expr} {te:TE} {a:Str} {j} {p1 p2 pos:Pos}
end
section
variable {X:Cx} {c:Str} {C0:Addr} {np apos pos:Pos} {e0:Expr} {es:List Expr} {ta:TA}
end
section
variable {X:Cx} {o:Expr} {te:TE} {f:Str} {pos:Pos}
end
section
variable {X:Cx} {E:XK} {x:Str} {C:Addr} {ps:List Str} {k k':Nat} {sp:Sp} {np cpos pos:Pos} {e0:Expr} {es:List Expr} {ta:TA}
end
noncomputable def Jb(h:Heap)(ea C:Addr)(dx:Option Addr)(T L:Addr):Prop:=(∃oe vs,h.get? ea=some oe/\oe.cls = .ref C/\oe.dict=dx/\oe.data = .fields vs/\vs[1]?=some .none)\/dA h ea (.ref C) dx T .none\/dA h ea (.ref C) dx T (rawInt L)
section
variable {P:Program} {w:World} {K:W.Frag} {mg:Str->Option Value} {base:Heap} {N:List Str} {qual:Str} {scope:Scope} {f:Addr} {cd:Value} {A:Around} {outer:List Env} {s:Shared} {H:Hp} {E:XK}
noncomputable def XS(P:Program)(w:World)(base:Heap)(Ar:Around)(env:Env)(outer:List Env)(s:Shared)(H:Hp)(E:XK):Value->Shared->Prop:=λex s'=>∃ea C dx T H',Ar.frames=some (env::outer)/\ex = .ref ea/\s'.os=s.os/\AllBare s'.gens/\Un (frs outer) [] H H' s.heap s'.heap/\aU P w H' s'.heap/\s'.heap.FunFrames base (env::outer) /\
 (∀b∈frs (env::outer),H' b=none)/\Jb s'.heap ea C dx T s.heap.objs.size/\H' ea=none/\H' T=none/\s.heap.get? ea=none/\s.heap.get? T=none/\E (.ref C) dx H'
theorem sG{env:Env}{H H':Hp}{h h2 h3:Heap}{ch:List Addr}(hf:env.frame=some h.objs.size)(un:Un (frs outer) [] H H' h h2)(m:Moved (frs (env::outer)) ch h2 h3)(hc:∀b∈ch,h.get? b=none):Un (frs outer) [] H H' h h3:=by
 have sub:∀b o,h.get? b=some o->b ∉ frs outer->b ∉ frs (env::outer):=λb o e n z=>by
  unfold frs at z;rw[gN,hf]at z
  rcases aP.mp z with q|q
  ·have h2:=aI e
   rw[q]at h2;exact absurd h2 (dz _)
  ·exact n q
 have eu:∀b o,h.get? b=some o->b ∉ ch:=λb o e z=>by rw[hc b z]at e;cases e
 refine⟨λb o q n hb hx=>m.keep b o (un.keep b o q n hb hx) (sub b o q hb) (eu b o q),λb o q n hb hx=>?_,un.free,λb o q hx=>?_,un.tups,un.dM,un.eB⟩
 ·obtain⟨sl,e1⟩:=un.slot b o q n hb hx
  obtain⟨oy,e3⟩:=m.any e1 (eu b _ q);exact⟨oy,e3⟩
 ·obtain⟨o2,e2⟩:=un.there b o q hx
  exact m.there b o2 e2
theorem Ap{M:Model}{A:Around}{E:Value->Shared->Prop}{s:Shared}{e T:Addr}{cls fl:Value}{dx:Option Addr}{Q:Unit->Shared->Prop}(fr:Option Addr)(xr:dA s.heap e cls dx T fl)(h:∀h',Moved [] [T] s.heap h'->dA h' e cls dx T (fr.elim .none λf=>rawInt f)->Q () {s with heap:=h'}):wpAny M A (setFlight (.ref e) fr) Q E s:=by
 obtain⟨⟨oe,vs,he,hc,hdx,hd,h1⟩,hTe,oT,ts,hT,hdT,h3⟩:=xr;have hsz3:3<ts.size:=(oG.mp h3).1;unfold setFlight;refine ae (df he hd h1 ?_);rw[if_pos (show(Value.ref T != Value.none)=true from by simp)];refine jn hT hdT hsz3 ?_;have other:∀b,b≠T->(s.heap.update T (Obj.mapFields (·.setIfInBounds 3 (fr.elim Value.none λf=>rawInt f)))).get? b=s.heap.get? b:=λb hb=>gT _ _ (bK hb);have hT':=gf (Obj.mapFields (·.setIfInBounds 3 (fr.elim Value.none λf=>rawInt f))) hT (kg (gj hdT _));refine h _ ⟨λb o hb _ n=>(other b (λz=>n (by simp[z]))).trans hb,λb o hb _ n=>⟨o.slots,(other b (λz=>n (by simp[z]))).trans hb⟩,λb o hb=>?_,by rw[pj];exact aC _⟩ ?_
 ·by_cases hbT:b=T
  ·subst hbT;exact⟨_,hT'⟩
  ·exact⟨o,(other b hbT).trans hb⟩
 ·exact⟨⟨oe,vs,(other e (bK hTe)).trans he,hc,hdx,hd,h1⟩,hTe,_,_,hT',gj hdT _,by simp[hsz3]⟩
theorem P6{M:Model}{A:Around}{E:Value->Shared->Prop}{s:Shared}{env:Env}{e T L:Addr}{cls:Value}{dx:Option Addr}{Q:Unit->Shared->Prop}(hf:env.frame=some L)(xr:dA s.heap e cls dx T (rawInt L))(h:Q () s):wpAny M A (noteFrame (.ref e) env) Q E s:=by
 obtain⟨⟨oe,vs,he,hc,hdx,hd,h1⟩,hTe,oT,ts,hT,hdT,h3⟩:=xr;unfold noteFrame;simp only[hf];refine ae (df he hd h1 ?_);rw[if_pos (show(Value.ref T != Value.none)=true from by simp)];refine ae (df hT hdT h3 ?_);rw[if_pos (show((rawInt L==rawInt L)=true)from by simp)];exact ah h
theorem DS{M:Model}{A':Around}{E':Value->Shared->Prop}{env:Env}{ex:Value}{s':Shared}{Q:Unit->Shared->Prop}(hf:env.frame=some s.heap.objs.size)(x:XS P w base A' env outer s H E ex s')
  (h:∀ea C dx T H' h3,A'.frames=some (env::outer)->ex = .ref ea->s'.os=s.os->Un (frs outer) [] H H' s.heap h3->aU P w H' h3->h3.FunFrames base (env::outer)->(∀b∈frs (env::outer),H' b=none)->dA h3 ea (.ref C) dx T (rawInt s.heap.objs.size)->H' ea=none->H' T=none->s.heap.get? ea=none->s.heap.get? T=none->AllBare s'.gens->E (.ref C) dx H'->Q () {s' with heap:=h3}) :
  wpAny M A' (noteFrame ex env) Q E' s':=by
 obtain⟨ea,C,dx,T,H',hfr,rfl,os,bare,un,hok,ff,fr,Vm,n1,n2,f1,f2,hE⟩:=x;have Px:∀b∈[ea],s.heap.get? b=none:=λb z=>by rw[bJ.mp z];exact f1
 have Pq:∀b∈[ea],H' b=none:=λb z=>by rw[bJ.mp z];exact n1
 have Py:∀b∈[ea,T],s.heap.get? b=none:=λb z=>by
  rcases aP.mp z with z|z
  ·rw[z];exact f1
  ·rw[bJ.mp z];exact f2
 have Pr:∀b∈[ea,T],H' b=none:=λb z=>by
  rcases aP.mp z with z|z
  ·rw[z];exact n1
  ·rw[bJ.mp z];exact n2
 rcases Vm with⟨oe,vs,e1,e2,e3,e4,e5⟩|xr|xr
 ·refine P5 hfr ff hf e1 e4 e5 λh3 T' m hT x=>?_
  rw[e2,e3]at x;refine h ea C dx T' H' h3 hfr rfl os (sG hf un m Px) (jE hok m fr Pq) (m.bZ (λb hb z=>?_) ff) fr x n1 (hok.fresh hT) f1 (qF un hT) bare hE;exact jz ff e1 e4 (bJ.mp z▸hb)
 ·refine wq hfr ff hf xr λh3 T' m hT x=>?_
  refine h ea C dx T' H' h3 hfr rfl os (sG hf un m Py) (jE hok m fr Pr) (m.bZ (λb hb z=>?_) ff) fr x n1 (hok.fresh hT) f1 (qF un hT) bare hE;obtain⟨⟨oe,vs,he,hc,hdx,hd,h1⟩,hTe,oT,ts,hT,hdT,h3⟩:=xr
  rcases aP.mp z with z|z
  ·exact jz ff he hd (z▸hb)
  ·exact jz ff hT hdT ((bJ.mp z)▸hb)
 ·exact P6 hf xr (h ea C dx T H' s'.heap hfr rfl os un hok ff fr xr n1 n2 f1 f2 bare hE)
theorem Dr{env:Env}{h2 h3:Heap}{T:Addr}(m:Moved [] [T] h2 h3):Moved (frs (env::outer)) [T] h2 h3:=m.mono (λ_ z=>nomatch z) λ_ z=>z
theorem QC{A':Around}{env:Env}(hf:env.frame=some s.heap.objs.size):PassesOwn (model P w) A' env (XS P w base A' env outer s H E):=by
 intro ex s' x;unfold notedBy;refine DS hf x λea C dx T H' h3 hfr e os un hok ff fr xr n1 n2 f1 f2 bare hE=>?_;subst e;unfold cameBackBy;obtain⟨⟨oe,vs,he,hc,hdx,hd,h1⟩,hTe,oT,ts,hT,hdT,h3'⟩:=id xr;refine ae (df he hd h1 ?_);rw[if_neg (show ¬ ((Value.ref T==Value.none)=true)from by simp)];rw[hf];refine Ap (some s.heap.objs.size) xr λh4 m x4=>?_;have m':=Dr (env:=env) (outer:=outer) m;have nT:∀b∈[T],s.heap.get? b=none:=λb z=>by rw[bJ.mp z];exact f2
 have wa:∀b∈[T],H' b=none:=λb z=>by rw[bJ.mp z];exact n2
 exact⟨ea,C,dx,T,H',hfr,rfl,os,bare,sG hf un m' nT,jE hok m' fr wa,m'.bZ (λb hb z=>jz ff hT hdT ((bJ.mp z)▸hb)) ff,fr,.inr (.inr x4),n1,n2,f1,f2,hE⟩
abbrev Cx.own (P:Program) (w:World) (K:W.Frag) (mg:Str->Option Value) (base:Heap) (N:List Str) (qual:Str) (scope:Scope) (f:Addr) (cd:Value) (A:Around) (outer:List Env) (s:Shared) (H:Hp) (E:XK):Cx:=
 (bu (aZ P w) P w K mg base N qual scope f cd A outer s H E).wish (XS P w base (bu (aZ P w) P w K mg base N qual scope f cd A outer s H E).A (bu (aZ P w) P w K mg base N qual scope f cd A outer s H E).env outer s H E)
theorem Fb:PassesOwn (model P w) (Cx.own P w K mg base N qual scope f cd A outer s H E).A (Cx.own P w K mg base N qual scope f cd A outer s H E).env (Cx.own P w K mg base N qual scope f cd A outer s H E).xe:=QC rfl
theorem Qz{ex:Value}{s':Shared}(x:XS P w base (bu (aZ P w) P w K mg base N qual scope f cd A outer s H E).A (bu (aZ P w) P w K mg base N qual scope f cd A outer s H E).env outer s H E ex s'):(bu (aZ P w) P w K mg base N qual scope f cd A outer s H E).xe ex s':=by
 show wpAny _ _ (leaving _ _) _ _ _;unfold leaving;refine ae (DS rfl x λea C dx T H' h3 hfr e os un hok ff fr xr n1 n2 f1 f2 bare hE=>?_);subst e;refine Ap none xr λh4 m x4=>?_;have m':=Dr (env:=(bu (aZ P w) P w K mg base N qual scope f cd A outer s H E).env) (outer:=outer) m;have nT:∀b∈[T],s.heap.get? b=none:=λb z=>by rw[bJ.mp z];exact f2
 have wa:∀b∈[T],H' b=none:=λb z=>by rw[bJ.mp z];exact n2
 exact⟨ea,C,dx,T,H',rfl,os,bare,sG rfl un m' nT,jE hok m' fr wa,x4,n1,n2,f1,f2,hE⟩
theorem w4:Raises (Cx.own P w K mg base N qual scope f cd A outer s H E) E:=by
 intro pins σ H1 s1 ea C oe vs I he hc hd h1 hH h0 hE;have I:=I.dZ;have un:Un (frs (bu (aZ P w) P w K mg base N qual scope f cd A outer s H E).stack) [] H1 H1 s1.heap s1.heap:=Un.refl;have T0:∃T,s1.heap.get? T=none:=⟨s1.heap.objs.size,Heap.get?_none_of_le (aC _)⟩;obtain⟨T,hT⟩:=T0;refine⟨ea,C,oe.dict,T,H1,I.ok.frames,rfl,I.os,I.bare,I.base,I.hok,I.stack,G5 I un,.inl ⟨oe,vs,he,hc,rfl,hd,h1⟩,hH,DR I.hok hT,h0,wo I hT,hE⟩
theorem cB.own{body:List Stmt}{t:TS}(h:cB (Cx.own P w K mg base N qual scope f cd A outer s H E) body t):cB (bu (aZ P w) P w K mg base N qual scope f cd A outer s H E) body t:=by
 intro pins s1 σ H1 D I q;exact dg (h pins s1 σ H1 D (I.wish _) q) (λfl s2 z=>z.dZ) λex s2 z=>Qz z
theorem aO.P_{x:Str}{st:Stmt}{f:Addr}{fd:FuncData}{ps:List Str}{k:Nat}{sp:Sp}(F:aO K x qual st f fd)(S:bf N ps (aq st))(len:∀vs H Q E,sp vs H Q E->vs.length=ps.length)(hbody:∀(cdv:Value) (A:Around) (outer:List Env) (s:Shared) (H:Hp) (vs:List V) (Q:VK) (E:XK),aV k (A.deeper (envOfC qual (aq st) s.heap.objs.size f cdv))->sp vs H Q E->∃t,cB (Cx.own P w K mg base N qual (aq st) f cdv A outer s H E) (dI st) t/\t {nx:=λ_ H'=>Q .non H',rt:=Q} (start N vs) H):aL P w K mg base (aZ P w) (k+1) f fd ps sp:=
 F.Qb S len λcdv A outer s H vs Q E hr hsp=>by
  obtain⟨t,h1,h2⟩:=hbody cdv A outer s H vs Q E hr hsp;exact⟨t,h1.own,h2⟩
end
theorem aO.wA{P:Program}{w:World}{K:W.Frag}{mg:Str->Option Value}{base:Heap}{x qual:Str}{st:Stmt}{f c:Addr}{fd:FuncData}{N ps:List Str}{k:Nat}{sp:Sp}(F:aO K x qual st f fd)(hc:fd.code = .ref c)(S:bf N ps (aq st))(len:∀vs H Q E,sp vs H Q E->vs.length=ps.length)(hbody:∀(A:Around) (outer:List Env) (s:Shared) (H:Hp) (vs:List V) (Q:VK) (E:XK),aV k (A.deeper (envOfC qual (aq st) s.heap.objs.size f (.ref c)))->sp vs H Q E->∃t,cB (bu (aZ P w) P w K mg base N qual (aq st) f (.ref c) A outer s H E) (dI st) t/\t {nx:=λ_ H'=>Q .non H',rt:=Q} (start N vs) H):aL P w K mg base (aZ P w) (k+1) f fd ps sp:=by
 obtain⟨oc,od,kV,doc,pm,an,cdv,ct,osl,rfl,lk,hcd⟩:=F.ex;obtain rfl:cdv = .ref c:=hc;exact vb lk hcd S len λA outer s H vs Q E hr hsp=>hbody A outer s H vs Q E hr hsp
theorem aO.Qa{P:Program}{w:World}{K:W.Frag}{mg:Str->Option Value}{base:Heap}{x qual:Str}{st:Stmt}{f c:Addr}{fd:FuncData}{N ps:List Str}{k:Nat}{sp:Sp}(F:aO K x qual st f fd)(hc:fd.code = .ref c)(S:bf N ps (aq st))(len:∀vs H Q E,sp vs H Q E->vs.length=ps.length)(hbody:∀(A:Around) (outer:List Env) (s:Shared) (H:Hp) (vs:List V) (Q:VK) (E:XK),aV k (A.deeper (envOfC qual (aq st) s.heap.objs.size f (.ref c)))->sp vs H Q E->∃t,cB (Cx.own P w K mg base N qual (aq st) f (.ref c) A outer s H E) (dI st) t/\t {nx:=λ_ H'=>Q .non H',rt:=Q} (start N vs) H):aL P w K mg base (aZ P w) (k+1) f fd ps sp:=
 F.wA hc S len λA outer s H vs Q E hr hsp=>by
  obtain⟨t,h1,h2⟩:=hbody A outer s H vs Q E hr hsp;exact⟨t,h1.own,h2⟩
end L2
namespace My
open PySem PySem.Spec PyProof.Rows L2
theorem aH.Jw{P:Program}{w:World}{K:W.Frag}{mg:Str->Option Value}{base h:Heap}{x:Str}{st:Stmt}{ps:List Str}{k:Nat}{sp:Sp}(A:aH K x st)(X:K.In h)(G:h.Ns mainGlobals mg)(hb:sW x st ps)(ok:∀{f:Addr} {fd:FuncData},aO K x x st f fd->aL P w K mg base (aZ P w) k f fd ps sp):eE P w K mg base x ps k sp:=by
 obtain⟨f,fd,a,F⟩:=A.ex;exact⟨f,fd,ok F,W.mg_of X G a,F.kp,F.binds hb⟩
section
variable {P:Program} {w:World} {K:W.Frag} {mg:Str->Option Value} {base:Heap} {f:Addr} {fd:FuncData} {a0 a1 a2 a3 a4 a5 a6 a7 a8 a9 a10 a11 a12 a13 a14 aE:Addr}
noncomputable def ez(z:Int):Prop:=1<=z/\z<=1000000/\(Dv.divs z.toNat).length<=24
instance (z:Int):Decidable (ez z):=inferInstanceAs (Decidable (_/\_))
noncomputable def rO(cN:Addr):Sp:=λvs H Q E=>∃z:Int,vs = [.int z]/\(ez z->∀L H',Same H H'->H L=none->H' L=some (.lst ((Dv.divs z.toNat).map nV))->Q (.ref L) H')/\(¬ ez z->∀H',Same H H'->E (.ref cN) none H')
theorem Qm (F:aO K "dividers" "dividers" ou f fd) (T:Txt mg) (vf:mg "reversed" = none) (xZ:∃t,mg "MOST_DIVIDED" = some (.int 1000000 t)) (yb:∃t,mg "ROOT_OF_MOST_DIVIDED" = some (.int 1000 t)) (Er:lN mg a0 a1 a2 a3 a4 a5 a6 a7 a8 a9 a10 a11 a12 a13 a14 aE) (iF:W.excIn K a8 ye "ValueError.__new__" = true) (dH:aG P w K mg base "is_whole" ["value"] 1 jS):aL P w K mg base (aZ P w) 2 f fd ["number"] (rO a8):=by
 refine F.P_ FT (λvs H Q E h=>?_) (λcdv A outer s H vs Q E hr h=>?_)
 ·obtain⟨z,rfl,_⟩:=h
  rfl
 ·obtain⟨z,rfl,kk,ke⟩:=h
  have nd:=FT.nd;obtain⟨Tz,uP⟩:=T.most;obtain⟨tM,eM⟩:=xZ;obtain⟨tR,eR⟩:=yb;refine⟨_,(aF (cp (PW.pt (iZ (iz (fA (bw dH hr rfl (ag (pv 0) ai)))) (jP (iz (qW eU eU ak (pv 0) (cF (v:=.int 1000000) rfl eM ⟨_,rfl⟩)))))) (aA (wW w4 Er.NoNumber iF yZ rfl rfl rfl (ag gF ai))) c7)
   (aF (wX (i:=1) nd rfl rfl (own:=["low"]) (fr:=[("number", 0)]) rfl (cM (aq ou) ["number","lesser","greater"] rfl rfl (by decide +kernel)) (wU rfl T.range (ag ak (ag (aD dQ (cF (v:=.int 1000) rfl eR ⟨_,rfl⟩) ak) ai))) (λ_ _ _ _=>⟨(bx (i:=0) (by decide +kernel:(["low","number"]:List Str).Nodup) rfl (Or.inl rfl)),(og (PW.pt (qX (bR eU (aD dR (pv 0) (pv 0)) (pv 1) (bN _)) (qY (bR fU (aD cL (pv 1) (pv 0)) ak (bN _)))))),(pv 0)⟩))
   (aF (wX (i:=2) nd rfl rfl (own:=["low"]) (fr:=[("number", 0)]) rfl (cM (aq ou) ["number","lesser","greater"] rfl rfl (by decide +kernel)) (Q6 (K:=K) rfl rfl vf (ag (pv 1) ai)) (λ_ _ _ _=>⟨(bx (i:=0) (by decide +kernel:(["low","number"]:List Str).Nodup) rfl (Or.inl rfl)),(og (bR jM (aD dR (pv 0) (pv 0)) (pv 1) (bN _))),(aD iY (pv 1) (pv 0))⟩))
   (aF (cp (bR wC (aD dQ (bB (iR (K:=K) rfl) rfl T.len jl (ag (pv 1) ai)) (bB (iR (K:=K) rfl) rfl T.len jl (ag (pv 2) ai))) (cF (v:=.int 24) rfl uP ⟨_,rfl⟩) (bN _)) (aA (wW w4 Er.NoNumber iF yZ rfl rfl rfl (ag gF ai))) c7)
   (aA (bC (aD iX (pv 1) (pv 2)))))))),?_⟩
  refine⟨_,rfl,⟨z,rfl⟩,λv H1 s1 hv=>?_⟩;subst hv;refine⟨true,rfl,bF ?_⟩;refine⟨_,rfl,_,_,rfl,rfl,_,rfl,?_⟩
  by_cases hz1:1<=z
  case neg =>
   rw[if_neg (by simpa using hz1)];refine⟨false,rfl,?_⟩;exact dv ⟨by show 1<=sizeLine;decide,ke (λh=>hz1 h.1) _ s1⟩
  rw[if_pos (bE hz1)];refine⟨_,_,rfl,rfl,_,rfl,?_⟩
  by_cases hz2:z<=1000000
  case neg =>
   rw[cI hz2];exact dv ⟨by show 1<=sizeLine;decide,ke (λh=>hz2 h.2.1) _ s1⟩
  rw[bE hz2];refine bF ?_;dsimp only;obtain⟨n,rfl⟩:∃n:Nat,z=n:=⟨z.toNat,by omega⟩;have h1:1<=n:=by omega
  have hn:n<=1000000:=by omega
  have ok1:ez (n:Int) ↔ (Dv.divs n).length<=24:=⟨λh=>h.2.2,λh=>⟨hz1,hz2,h⟩⟩;rw[ok1,bX]at kk;rw[ok1]at ke;show cU _ _ _ [some (.int (n:Int)),none,none] _;refine⟨_,_,rfl,rfl,_,_,rfl,⟨by decide,by decide,by decide,by decide⟩,λD hD=>pO (λj=>decide ((1+j)*(1+j)<=n)&&decide (n % (1+j)=0)) (λj=>nV (1+j)) src_range hD (by decide) (λj H3 Kt Kf hj hs hkt hkf=>?_) (λH2 s2 hl2=>?_)⟩
  ·have hj:j<1000:=hj
   have e1:(1:Int)+(j:Int)=((1+j:Nat):Int):=by push_cast;rfl
   refine⟨_,rfl,_,rfl,_,_,rfl,rfl,.inl ⟨by omega,by omega⟩,_,rfl,_,_,rfl,rfl,_,rfl,?_⟩;rw[e1];have ed:decide (((1+j:Nat):Int)*((1+j:Nat):Int)<=(n:Int))=decide ((1+j)*(1+j)<=n):=by
    congr 1
    apply propext
    rw[<- j2];exact Int.ofNat_le
   rw[ed];refine cn (λh=>?_) (λh=>?_)
   ·refine⟨_,rfl,_,rfl,_,_,rfl,rfl,by omega,rfl,_,rfl,?_⟩
    have em:decide (V.int ((n:Int) % ((1+j:Nat):Int))=V.int 0)=decide (n % (1+j)=0):=by
     rw[<- yn,dw,cQ,cQ];exact⟨λh=>by have:=V.int.inj h;omega,λh=>by rw[h];rfl⟩
    rw[em];refine cn (λh'=>?_) (λh'=>?_)
    ·exact⟨_,rfl,hkt _ (by rw[h,h'];rfl) (Same.refl _)⟩
    ·exact hkf _ (by rw[h,sZ];simpa using h') (Same.refl _)
   ·have h':decide ((1+j)*(1+j)<=n)=false:=by simpa using h
    exact bF (hkf _ (by rw[h',sY]) (Same.refl _))
  rw[show((1000+1:Int) - 1).toNat=1000 from rfl,Ou]at hl2;have hll:(Dv.lesser n).length<=1000:=by unfold Dv.lesser;refine cy (lT _ _) ?_;rw[List.length_range'];exact aC _
  dsimp only[bq];show cU _ _ _ [some (.int (n:Int)),some (.ref D),none] _;refine⟨_,rfl,D,_,rfl,ao.of hl2,λD2 hD2=>pO (λi=>!decide ((Dv.lesser n).reverse.getD i 0*(Dv.lesser n).reverse.getD i 0=n)) (λi=>nV (n / (Dv.lesser n).reverse.getD i 0)) (Ti (ao.of hl2)) hD2 (by rw[ay];exact gH (by omega)) (λi H3 Kt Kf hi hs hkt hkf=>?_) (λH3 s3 hl3=>?_)⟩
  ·rw[ay]at hi
   have hi2:(Dv.lesser n).length - 1 - i<(Dv.lesser n).length:=by omega
   have eg:((Dv.lesser n).map nV).getD (((Dv.lesser n).map nV).length - 1 - i) .non=nV ((Dv.lesser n).reverse.getD i 0):=by
    rw[ay,aQ,qA hi2,rev_getD _ hi];rfl
   have hd:=(Dv.jI hn h1).mp (Ev.getD_mem hi2);rw[<- rev_getD _ hi]at hd;generalize (Dv.lesser n).reverse.getD i 0=d at eg hd hkt hkf;have hd0:0<d:=yO hd.2 h1;have hd1:d<=1000000:=cy (Nat.le_of_dvd h1 hd.2) hn;rw[eg];refine⟨_,rfl,_,rfl,_,_,rfl,rfl,.inl ⟨by omega,by omega⟩,_,rfl,rfl,_,rfl,?_⟩;have ed:(!decide (V.int ((d:Int)*(d:Int))=V.int (n:Int))) = !decide (d*d=n):=by
    congr 1
    rw[<- j2,dw,cQ,cQ];exact⟨λh=>by have:=V.int.inj h;exact Int.natCast_inj.mp this,λh=>by rw[h]⟩
   rw[ed];refine cn (λh=>?_) (λh=>?_)
   ·refine⟨_,rfl,_,rfl,_,_,rfl,rfl,⟨by omega,by omega⟩,?_⟩
    dsimp only;rw[<- Int.natCast_ediv];exact hkt _ h (Same.refl _)
   ·exact hkf _ (by simpa using h) (Same.refl _)
  have eg:((List.range ((Dv.lesser n).map nV).length).filter λi=>!decide ((Dv.lesser n).reverse.getD i 0*(Dv.lesser n).reverse.getD i 0=n)).map (λi=>nV (n / (Dv.lesser n).reverse.getD i 0))=(Dv.greater n).map nV:=by
   rw[ay,<- List.length_reverse,RQ (Dv.lesser n).reverse (λd=>!decide (d*d=n)) λd=>nV (n / d)];unfold Dv.greater;rw[dn];rfl
  rw[eg]at hl3;dsimp only[bq];show cU _ _ _ [some (.int (n:Int)),some (.ref D),some (.ref D2)] _;have Bo:=s3 _ _ hl2;refine⟨_,rfl,D,_,rfl,.inl (ao.of Bo),_,rfl,D2,_,rfl,.inl (ao.of hl3),_,_,rfl,rfl,_,_,rfl,rfl,_,rfl,?_⟩;have el:(Dv.divs n).length=(Dv.lesser n).length+(Dv.greater n).length:=by unfold Dv.divs;rw[dm]
  by_cases nh:(Dv.divs n).length<=24
  case neg =>
   rw[bE (show(24:Int)<((((Dv.lesser n).map nV).length:Nat):Int)+((((Dv.greater n).map nV).length:Nat):Int)by rw[ay,ay];omega)];exact dv ⟨by show 1<=sizeLine;decide,ke nh _ (s1.trans (s2.trans s3))⟩
  have hf:¬ ((24:Int)<((((Dv.lesser n).map nV).length:Nat):Int)+((((Dv.greater n).map nV).length:Nat):Int)):=by
   rw[ay,ay];unfold Dv.divs at nh;rw[dm]at nh;omega
  rw[cI hf];refine bF ?_;refine⟨_,rfl,_,rfl,D,D2,_,_,rfl,rfl,Bo,hl3,by rw[ay,ay];exact eJ (gH (by omega)),λp hp=>?_⟩;refine kk nh p _ ((s1.trans (s2.trans s3)).trans (Same.put hp)) (Same.nS (s1.trans (s2.trans s3)) hp) ?_;rw[av,<- f6];rfl
noncomputable def xA(C Pt cN:Addr):Sp:=λvs H Q E=>∃z:Int,vs = [.int z]/\H Pt=some (.lam mZ m6)/\(ez z->∀x H',Same H H'->tX C H' x (Dv.divs z.toNat).length (jq (Dv.divs z.toNat))->Q (.ref x) H')/\(¬ ez z->∀H',Same H H'->E (.ref cN) none H')
theorem Qn {C c Pt cN:Addr} (F:aO K "dividing" "dividing" rA f fd) (hc:fd.code = .ref c) (tb:TabAt base mg c Pt) (T:Txt mg) (TC:oI K C) (kE:eE P w K mg base "dividers" ["number"] 2 (rO cN)) (kB:j0 P w K mg "order_by" ["things","is_at_most"] 7 1 2 (r9 K C)):aL P w K mg base (aZ P w) 8 f fd ["number"] (xA C Pt cN):=by
 refine F.wA hc FV (λvs H Q E h=>?_) (λA outer s H vs Q E hr h=>?_)
 ·obtain⟨z,rfl,_⟩:=h
  rfl
 ·obtain⟨z,rfl,hP,kk,ke⟩:=h
  have nd:=FV.nd;refine⟨_,(aA (bC (QJ (qs:=["one","other"]) (fr:=[]) kB tb rfl hr rfl ⟨cM (aq rA) ["number"] rfl rfl (by decide +kernel),⟨rfl,rfl,rfl,by decide +kernel,by decide +kernel,by decide +kernel,by decide +kernel⟩,λ_ _ _ _ us hl=>match us,hl with | [_,_],_=>rfl,λ_ _ _ _ _ _ _ _ _=>wO fU (aD cL (pv 1) (pv 0)) ak (bN _)⟩ (λ_=>rfl) qN rfl (lu kE E_ hr rfl (ag (pv 0) ai))))),?_⟩;refine⟨_,rfl,z,rfl,λok lb H1 s1 MP hlb=>?_,ke⟩;have kk:=kk ok;obtain⟨n,rfl⟩:∃n:Nat,z=n:=⟨z.toNat,by have:=ok.1;omega⟩;have h1:1<=n:=by have:=ok.1;omega
  have hn:n<=1000000:=by have:=ok.2.1;omega
  have nh:(Dv.divs n).length<=24:=ok.2.2;rw[bX]at kk hlb;obtain⟨A1,_⟩:=Dv.uM hn h1;refine⟨s1 _ _ hP,λq H2 s2 hq jC=>?_⟩;have lA:=s1.trans s2;have hpos:1<=(Dv.divs n).length:=List.length_pos_of_mem ((A1.mem 1).mpr (Nat.one_dvd n));refine⟨q,jC,lb,(Dv.divs n).map nV,jq (Dv.divs n),rfl,ao.of (s2 _ _ hlb),by rw[ay];exact hpos,by rw[ay];omega,⟨_,_,_,_,_,jC⟩,by rw[ay];exact LQ A1 h1,λi j x y H' Q' hx hy s' hQ=>⟨jC.same s',?_⟩,λz H' s' ni=>kk z H' (lA.trans s') (by rw[ay]at ni;exact ni)⟩;have hi:i<(Dv.divs n).length:=by have:=(cw.mp hx).1;rwa [ay]at this
  have hj:j<(Dv.divs n).length:=by have:=(cw.mp hy).1;rwa [ay]at this
  rw[qA hi]at hx;rw[qA hj]at hy;cases hx;cases hy;have gi:0<(Dv.divs n).getD i 0:=yO ((A1.mem _).mp (Ev.getD_mem hi)) h1;refine⟨_,rfl,_,rfl,_,_,rfl,rfl,by omega,rfl,?_⟩;have em:decide (V.int ((((Dv.divs n).getD j 0:Nat):Int) % (((Dv.divs n).getD i 0:Nat):Int))=V.int 0)=jq (Dv.divs n) i j:=by
   unfold jq;rw[<- yn,dw,cQ,cQ];exact⟨λh=>by have:=V.int.inj h;omega,λh=>by rw[h];rfl⟩
  dsimp only;rw[em];exact hQ _ (Same.refl _)
end
end My
namespace L2
open PySem PySem.Spec PyProof.Rows
section
variable {X:Cx} {k v:Expr} {tk tv:TE} {pos:Pos}
end
noncomputable def d4(h:Heap)(d:Addr)(ks:List Value)(ep:Nat):Prop:=∃o es,h.get? d=some o/\o.ExactDict/\o.data = .dict es ep/\es.toList.map (·.key)=ks
theorem d4.mv{h h':Heap}{d:Addr}{ks:List Value}{ep:Nat}(x:d4 h d ks ep)(e:∀o,h.get? d=some o->h'.get? d=some o):d4 h' d ks ep:=let⟨o,es,ho,r⟩:=x;⟨o,es,e _ ho,r⟩
theorem d4.lt{h:Heap}{d:Addr}{ks:List Value}{ep:Nat}(x:d4 h d ks ep):d<h.objs.size:=let⟨_,_,ho,_⟩:=x;aI ho
theorem d4.ty {s:Shared} {d:Addr} {ks:List Value} {ep:Nat} (x:d4 s.heap d ks ep):s.TypeIs (.ref d) "dict" :=let⟨o,_,ho,hc,_⟩:=x;⟨o,ho,hc.1⟩
section
variable {prog:Program} {w:World} {A:Around} {E:Value->Shared->Prop} {s:Shared} {d it:Addr} {ks:List Value} {ep i:Nat}
theorem Kv{Q:Value->Shared->Prop}(lo:(d==sysModules)=false)(x:d4 s.heap d ks ep)
  (q:Q (.ref s.heap.objs.size) {s with heap:=s.heap.push {cls:=.type "dict_keyiterator", data:=.fields #[.ref d,.int 0 0,.int ks.length 0,.int ep 0]}}):wpAny (model prog w) A (pyIter (.ref d)) Q E s:=by
 have T:=x.ty;obtain⟨o,es,e1,e2,e3,rfl⟩:=x;have z:es.size=(es.toList.map (·.key)).length:=by simp
 refine zo T F.slot_dict_iter (eN F.slot_dict_iter T F.entry_dict_iter (ae ?_) (F.args_dict_iter_1 _));unfold Builtin.Dict.dictSlotNone;refine ae (wpAny_notOrdered_dict T ?_);show wpAny (model prog w) A.in1 (pure (Value.ref d)) _ _ s;refine ah (show wpAny (model prog w) A.in1 (Builtin.Dict.showsAll d>>=_) _ _ s from ?_);unfold Builtin.Dict.showsAll;rw[if_neg (by simp[lo])];refine ae (ah (ae (zk e1 e3 (ae (zl e1 e3 (ae (gX (ah ⟨_,rfl,"dict_keyiterator", _,⟨_,aX _ rfl,rfl⟩,ph.lookup,?_⟩))))))));rw[<- z]at q;exact q
theorem Ku{Q:Option Value->Shared->Prop}{key:Value}(hit:s.heap.IsKeyIter it d i ks.length ep)(x:d4 s.heap d ks ep)(hx:ks[i]?=some key)
  (q:∀h',h'.IsKeyIter it d (i+1) ks.length ep->Heap.SameBut it s.heap h'->Q (some key) {s with heap:=h'}):wpAny (model prog w) A (pyNext (.ref it)) Q E s:=by
 have T:=hit.typeIs;obtain⟨o,ho,hc,hd⟩:=id hit;obtain⟨od,es,e1,e2,e3,rfl⟩:=x;have z:es.size=(es.toList.map (·.key)).length:=by simp
 have hi:i<es.size:=by have:=(cw.mp hx).1;omega
 have hkey:es[i].key=key:=by
  have:=(cw.mp hx).2;simpa using this
 have own:Builtin.Dict_items.ownsTuple "dict_keyiterator" = false:=by decide
 unfold pyNext;refine ae (fL (gW (name:=Str.ofString "__next__") T ph (eN ph T Iz (ae (ah (ae (ae ?_)))) (Iv _))));refine ae (ug T (ah (ae (mC ho hd ?_))));simp only[own,fc,dC];show wpAny (model prog w) A.in1 (if(Value.ref d==Value.none)=true then _ else _) _ _ s;rw[if_neg (by exact Bool.false_ne_true)];refine ae (ah (ae (zk e1 e3 ?_)));rw[if_neg (by rw[z];simp)];refine ae (ah (ae (zl e1 e3 ?_)));rw[if_neg (by simp)];refine ah ?_;simp only[show ¬ ((i:Int)<0)from by omega,dC,bX,gK hi];refine ae (ae (ug T (ah (ae (wpAny_isOneOf_keyiter T ?_)))));show wpAny (model prog w) A.in1 (setField (.ref it) 1 (rawInt ((i:Int)+1))>>=_) _ _ s;refine ae (jn ho hd (by simp) ?_);have h2:(s.heap.update it (Obj.mapFields (·.setIfInBounds 1 (rawInt ((i:Int)+1))))).IsKeyIter it d (i+1) (es.toList.map (·.key)).length ep:=
  ⟨_,gf _ ho (kg (gj hd _)),(y9 ..).trans hc,by rw[gj hd];simp[rawInt]⟩
 refine ae (dG (ae (wpAny_isOneOf_keyiter (s:={s with heap:=s.heap.update it (Obj.mapFields (·.setIfInBounds 1 (rawInt ((i:Int)+1))))}) h2.typeIs ?_)));show wpAny (model prog w) A.in1 (pure es[i].key) _ _ _;rw[hkey];exact ah (ah ⟨_,rfl,ah (q _ h2 (mz ..))⟩)
theorem Ks{Q:Option Value->Shared->Prop}(hh:A.handled=none)(hit:s.heap.IsKeyIter it d i ks.length ep)(x:d4 s.heap d ks ep)(hx:ks.length<=i)
  (q:∀h',Heap.ExtBut it s.heap h'->Q none {s with heap:=h'}):wpAny (model prog w) A (pyNext (.ref it)) Q E s:=by
 have T:=hit.typeIs;obtain⟨o,ho,hc,hd⟩:=id hit;obtain⟨od,es,e1,e2,e3,rfl⟩:=x;have z:es.size=(es.toList.map (·.key)).length:=by simp
 have own:Builtin.Dict_items.ownsTuple "dict_keyiterator" = false:=by decide
 unfold pyNext;refine ae (fL (gW (name:=Str.ofString "__next__") T ph (eN ph T Iz (ae (ah (ae (ae ?_)))) (Iv _))));refine ae (ug T (ah (ae (mC ho hd ?_))));simp only[own,fc,dC];show wpAny (model prog w) A.in1 (if(Value.ref d==Value.none)=true then _ else _) _ _ s;rw[if_neg (by exact Bool.false_ne_true)];refine ae (ah (ae (zk e1 e3 ?_)));rw[if_neg (by rw[z];simp)];refine ae (ah (ae (zl e1 e3 ?_)));rw[if_neg (by simp)];refine ah ?_;simp only[show ¬ ((i:Int)<0)from by omega,dC,bX,sU (show es.size<=i by omega)];refine ae (ae (ug T (ah ?_)));show wpAny (model prog w) A.in1 (setField (.ref it) 0 .none>>=_) _ _ s;refine ae (jn ho hd (by simp) ?_);show wpAny (model prog w) A.in1 (newExc (.type "StopIteration") []>>=_) _ _ _;refine ae ?_;simp only[newExc,newTuple];refine ae (gX (ae (m:=firstArgMember _ _) (pz (a:=Value.none) (by first|rfl | (simp only[firstArgMember];rfl)) (gX ?_ (by size_fits)))) (by size_fits));simp only[raiseNew];refine ae (wpAny_handled ?_);rw[show A.in1.handled=none from hh];refine ae (ah (wpAny_throw ?_));refine ae (pq (T:= "StopIteration") (b:=true) ⟨_,aX _ rfl,rfl⟩ t9 ?_);exact ah (q _ (((mz ..).extBut.push _).push _))
end
theorem Kw{prog:Program}{w:World}{A:Around}(hh:A.handled=none)(I d:Addr)(hne:d≠I)(ks:List Value)(ep:Nat):Walks prog w A I [I,d] [I] ks.length (λi v=>ks[i]?=some v) (λi h=>h.IsKeyIter I d i ks.length ep/\d4 h d ks ep) where
 sub:=λb hb=>by simp at hb;simp[hb]
 frame:=λ_ _ _ st hk=>⟨st.1.at λo e=>hk I (by simp) o e,st.2.mv λo e=>hk d (by simp) o e⟩
 item:=λi s Q E hi st hQ=>Ku st.1 st.2 (aK hi) λh' h1 h2=>hQ _ h' s.toks (aK hi) ⟨h1,st.2.mv λo e=>h2.extBut d o hne e⟩ λb o hb e=>h2.extBut b o (λz=>hb (by simp[z])) e
 done:=λs Q E st hQ=>Ks hh st.1 st.2 (aC _) λh' h1=>hQ h' s.toks λb o hb e=>h1 b o (λz=>hb (by simp[z])) e
 self:=λ_ _ _ _ st hQ=>wpAny_pyIter_keyiter st.1 hQ
theorem Ah {prog:Program} {w:World} {d:Addr} {ks:List Value} {ep:Nat} (lo:(d==sysModules)=false):W.KdlSrc prog w "dict" d d ks.length (λi v=>ks[i]?=some v) (λh=>d4 h d ks ep) where
 type:=λ_ x=>x.ty
 there:=λ_ x=>⟨x.lt,x.lt⟩
 keep:=λ_ _ x hk=>x.mv λo e=>hk d (.inl rfl) o e
 notList:=by decide
 notTuple:=by decide
 hint:=λ_ _ _ _ x hq=>W.kdl_hint_dict x.ty hq
 iter:=λ_ _ hh x=>⟨_,_,(λ_ _ hq=>Kv lo x hq),Kw hh _ d (aY x.lt) ks ep,⟨⟨_,aX _ rfl,rfl,rfl⟩,x.mv λo e=>aB _ e⟩⟩
end L2
namespace L2
open PySem PySem.Spec PyProof.Rows PySem.Builtin PySem.Builtin.Str
abbrev tuples' (b:Bool):SortKind:=(sortPriv% PySem.Builtin.KeyKind.tuples) b
section
variable {prog:Program} {w:World} {A:Around} {E:Value->Shared->Prop} {s:Shared}
theorem Qq{b:Bool}{i j:Int}{t u:Tok}{Q:Bool->Shared->Prop}(h:Q (decide (i<j)) s):wpAny (model prog w) A (oneLt' b (.int i t) (.int j u)) Q E s:=by
 cases b with
 |true=>exact oneLt_int h
 |false =>
  rw[oneLt'_eq];simp only[fc,dC];refine ae ?_;exact PyProof.Rows.lt_int (gu h)
end
end L2
namespace L2
open PySem PySem.W PyProof.Rows
section
variable {α β:Type} {n:Nat} {rk:Nat->Int}
noncomputable def bH(n:Nat)(rk:Nat->Int):KasT α->(α->Prop)->Prop
 |.ret a,Q=>Q a
 |.ask i j k,Q=>i<n/\j<n/\bH n rk (k (decide (rk i<rk j))) Q
theorem bH.mono{Q Q':α->Prop}:∀{t:KasT α},bH n rk t Q->(∀a,Q a->Q' a)->bH n rk t Q'
 |.ret a,h,q=>q a h
 |.ask i j k,⟨h1,h2,h3⟩,q=>⟨h1,h2,bH.mono h3 q⟩
theorem bH.bind{f:α->KasT β}{Q:β->Prop}:∀{t:KasT α},bH n rk t (λa=>bH n rk (f a) Q)->bH n rk (t.bind f) Q
 |.ret a,h=>h
 |.ask i j k,⟨h1,h2,h3⟩=>⟨h1,h2,bH.bind h3⟩
theorem bH.wp{cmp:Nat->Nat->(Bool->Shared->Prop)->Shared->Prop}{s:Shared}{Q:α->Prop}(hc:∀i j C,i<n->j<n->C (decide (rk i<rk j)) s->cmp i j C s):∀{t:KasT α},bH n rk t Q->t.kasWp cmp (λa s'=>s'=s/\Q a) s
 |.ret a,h=>⟨rfl,h⟩
 |.ask i j k,⟨h1,h2,h3⟩=>hc i j _ h1 h2 (bH.wp hc h3)
end
noncomputable def Pm(n:Nat)(p:Array Nat):Prop:=p.Perm (List.range n).toArray
theorem Pm.size{n:Nat}{p:Array Nat}(h:Pm n p):p.size=n:=by
 have:=h.size_eq;simpa using this
theorem Pm.lt{n i:Nat}{p:Array Nat}(h:Pm n p)(hi:i<n):p.getD i 0<n:=by
 have hs:=h.size;have hi':i<p.size:=by omega
 have e:p.getD i 0=p[i]:=by simp[Array.getD,hi']
 have hm:p[i]∈(List.range n).toArray:=h.mem_iff.mp (sV hi');rw[e];simpa using hm
theorem Pm.qz{n i j d:Nat}{p:Array Nat}(h:Pm n p):Pm n (mirror p i j d):=(mirror_perm p i j d).trans h
theorem Pm.Jv{n i j:Nat}{p:Array Nat}(h:Pm n p):Pm n (bubble p i j):=(bubble_perm p i j).trans h
theorem jB(p:Array Nat)(i:Nat):p.getD i 0=p[i]?.getD 0:=by
 by_cases h:i<p.size
 ·simp[Array.getD,h]
 ·simp[Array.getD,h]
theorem vh{p:Array Nat}{i j:Nat}(hj:j<=p.size)(k:Nat):(kas_rev p i j).getD k 0=if i<=k/\k<j then p.getD (i+j - 1 - k) 0 else p.getD k 0:=by
 unfold kas_rev;rw[jB,getElem?_mirror_all hj,jB,jB]
 split<;>rfl
theorem Ax{p:Array Nat}{k l:Nat}(hk:k<p.size)(hl:l<=k)(i:Nat):(bubble p k (k - l)).getD i 0=if i=l then p.getD k 0 else if l<i/\i<=k then p.getD (i - 1) 0 else p.getD i 0:=by
 rw[jB,getElem?_bubble hk _ (Nat.sub_le _ _),jB,jB,jB];have e:k - (k - l)=l:=by omega
 rw[e]
 repeat' split
 all_goals rfl
section
variable {n:Nat} {rk:Nat->Int} {p:Array Nat}
noncomputable def Up(rk:Nat->Int)(p:Array Nat)(m:Nat):Prop:=∀i j,i<=j->j<m->rk (p.getD i 0)<=rk (p.getD j 0)
noncomputable def Dn(rk:Nat->Int)(p:Array Nat)(m:Nat):Prop:=∀i j,i<=j->j<m->rk (p.getD j 0)<=rk (p.getD i 0)
theorem Up.rev{m:Nat}(hm:m<=p.size)(h:Dn rk p m):Up rk (kas_rev p 0 m) m:=λi j h1 h2=>by
 rw[vh hm,vh hm,if_pos ⟨cA _,by omega⟩,if_pos ⟨cA _,h2⟩];exact h _ _ (by omega) (by omega)
theorem w6{i j:Nat}(hj:j<=p.size)(heq:∀k,i<=k->k<j->rk (p.getD k 0)=rk (p.getD (j - 1) 0))(k:Nat):rk ((kas_rev p i j).getD k 0)=rk (p.getD k 0):=by
 rw[vh hj]
 split
 ·rw[heq (i+j - 1 - k) (by omega) (by omega),heq k (by omega) (by omega)]
 ·rfl
theorem uo(P:Pm n p):∀(f a:Nat),1<=a->a+f<=n->Up rk p a->bH n rk (kas_asc p f a) λm=>a<=m/\m<=a+f/\Up rk p m/\(m<a+f->rk (p.getD m 0)<rk (p.getD (m - 1) 0))
 |0,a,h1,h2,h3=>⟨aC _,aC _,h3,λz=>absurd z (dz _)⟩
 |f+1,a,h1,h2,h3=>by
  refine⟨P.lt (by omega),P.lt (by omega),?_⟩
  by_cases c:rk (p.getD a 0)<rk (p.getD (a - 1) 0)
  ·rw[bE c];dsimp only;rw[if_pos rfl]
   exact⟨aC _,by omega,h3,λ_=>c⟩
  ·rw[cI c];dsimp only;rw[if_neg Bool.false_ne_true]
   refine(uo P f (a+1) (by omega) (by omega) λi j hij hj=>?_).mono λm ⟨z1,z2,z3,z4⟩=>⟨by omega,by omega,z3,λz=>z4 (by omega)⟩
   by_cases hj2:j=a
   ·subst hj2
    by_cases hi:i=j
    ·rw[hi];exact je _
    ·exact oN (h3 i (j - 1) (by omega) (by omega)) (oO.mp c)
   ·exact h3 i j hij (by omega)
theorem uq:∀(f:Nat) (p:Array Nat) (a q:Nat),Pm n p->q+1<=a->a+f<=n->Dn rk p a->(∀k,a - (q+1)<=k->k<a->rk (p.getD k 0)=rk (p.getD (a - 1) 0))->bH n rk (kas_desc f p a q) λr=>Pm n r.1/\a<=r.2.1/\r.2.1<=a+f/\r.2.2+1<=r.2.1/\Dn rk r.1 r.2.1/\∀k,r.2.1 - (r.2.2+1)<=k->k<r.2.1->rk (r.1.getD k 0)=rk (r.1.getD (r.2.1 - 1) 0)
 |0,p,a,q,P,h1,h2,h3,h4=>⟨P,aC _,aC _,h1,h3,h4⟩
 |f+1,p,a,q,P,h1,h2,h3,h4=>by
  have hs:=P.size;refine⟨P.lt (by omega),P.lt (by omega),?_⟩
  by_cases c:rk (p.getD a 0)<rk (p.getD (a - 1) 0)
  ·rw[bE c];dsimp only;rw[if_pos rfl]
   have go:∀p':Array Nat,Pm n p'->(∀k,rk (p'.getD k 0)=rk (p.getD k 0))->bH n rk (kas_desc f p' (a+1) 0) λr=>Pm n r.1/\a<=r.2.1/\r.2.1<=a+(f+1)/\r.2.2+1<=r.2.1/\Dn rk r.1 r.2.1/\∀k,r.2.1 - (r.2.2+1)<=k->k<r.2.1->rk (r.1.getD k 0)=rk (r.1.getD (r.2.1 - 1) 0):=by
    intro p' P' e;refine(uq f p' (a+1) 0 P' (by omega) (by omega) (λi j hij hj=>?_) λk k1 k2=>?_).mono λr ⟨z1,z2,z3,z4⟩=>⟨z1,by omega,by omega,z4⟩
    ·rw[e,e]
     by_cases hj2:j=a
     ·subst hj2
      by_cases hi:i=j
      ·rw[hi];exact je _
      ·exact oN (tD c) (h3 i (j - 1) (by omega) (by omega))
     ·exact h3 i j hij (by omega)
    ·obtain rfl:k=a+1 - 1:=by omega
     rfl
   split
   ·exact go _ P.qz λk=>w6 (by omega) (λk k1 k2=>h4 k k1 k2) k
   ·exact go p P λ_=>rfl
  ·rw[cI c];dsimp only;rw[if_neg Bool.false_ne_true]
   refine⟨P.lt (by omega),P.lt (by omega),?_⟩
   by_cases d:rk (p.getD (a - 1) 0)<rk (p.getD a 0)
   ·rw[bE d];dsimp only;rw[if_pos rfl]
    exact⟨P,aC _,by show a<=a+(f+1);omega,h1,h3,h4⟩
   ·rw[cI d];dsimp only;rw[if_neg Bool.false_ne_true]
    have e:rk (p.getD a 0)=rk (p.getD (a - 1) 0):=ym (oO.mp d) (oO.mp c);refine(uq f p (a+1) (q+1) P (by omega) (by omega) (λi j hij hj=>?_) λk k1 k2=>?_).mono λr ⟨z1,z2,z3,z4⟩=>⟨z1,by omega,by omega,z4⟩
    ·by_cases hj2:j=a
     ·subst hj2
      by_cases hi:i=j
      ·rw[hi];exact je _
      ·rw[e];exact h3 i (j - 1) (by omega) (by omega)
     ·exact h3 i j hij (by omega)
    ·rw[show a+1 - 1=a from rfl]
     by_cases hk:k=a
     ·rw[hk]
     ·rw[e];exact h4 k (by omega) (by omega)
noncomputable def tj(n:Nat)(rk:Nat->Int)(nrem:Nat)(r:Nat × Array Nat):Prop:=Pm n r.2/\1<=r.1/\r.1<=nrem/\Up rk r.2 r.1
theorem zC{a nrem:Nat}(P:Pm n p)(h1:1<=a)(h2:a<=nrem)(h3:nrem<=n)(h4:Dn rk p a):bH n rk (kas_tail3 a nrem p) (tj n rk nrem):=by
 have hs:=P.size;have P':Pm n (kas_rev p 0 a):=P.qz;exact bH.bind ((uo P' (nrem - a) a h1 (by omega) (Up.rev (by omega) h4)).mono λm ⟨z1,z2,z3,_⟩=>⟨P',by omega,by show m<=nrem;omega,z3⟩)
theorem zB{a nrem:Nat}(P:Pm n p)(h1:a+1<=nrem)(h3:nrem<=n)(h4:Dn rk p (a+1)):bH n rk (kas_descPart a nrem p) (tj n rk nrem):=by
 refine bH.bind ((uq (nrem - (a+1)) p (a+1) 0 P (by omega) (by omega) h4 λk k1 k2=>?_).mono λr ⟨z1,z2,z3,z4,z5,z6⟩=>?_)
 ·obtain rfl:k=a+1 - 1:=by omega
  rfl
 ·have hs:=z1.size
  split
  ·refine zC z1.qz (by omega) (by omega) h3 λi j hij hj=>?_
   have q:=w6 (rk:=rk) (p:=r.1) (i:=r.2.1 - (r.2.2+1)) (j:=r.2.1) (by omega) z6;rw[q,q];exact z5 i j hij hj
  ·exact zC z1 (by omega) (by omega) h3 z5
theorem Jf{nrem:Nat}(P:Pm n p)(h1:1<=nrem)(h3:nrem<=n):bH n rk (kas_count nrem p) (tj n rk nrem):=by
 have hs:=P.size;refine bH.bind ((uo P (nrem - 1) 1 (aC _) (by omega) λi j hij hj=>?_).mono λm ⟨z1,z2,z3,z4⟩=>?_)
 ·obtain rfl:i=j:=by omega
  exact je _
 ·split
  ·exact⟨P,z1,by show m<=nrem;omega,z3⟩
  ·rename_i ne
   have hm:m<nrem:=by
    have:m≠nrem:=λe=>ne (by simp[e]);omega
   have lt:=z4 (by omega)
   split
   ·refine⟨P.lt (by omega),P.lt (by omega),?_⟩
    by_cases c:rk (p.getD 0 0)<rk (p.getD (m - 1) 0)
    ·rw[bE c];dsimp only;rw[if_pos rfl]
     exact⟨P,z1,by show m<=nrem;omega,z3⟩
    ·rw[cI c];dsimp only;rw[if_neg Bool.false_ne_true]
     have all:∀k,k<m->rk (p.getD k 0)=rk (p.getD (m - 1) 0):=λk hk=>ym (z3 k (m - 1) (by omega) (by omega)) (oN (oO.mp c) (z3 0 k (by omega) hk));have q:=w6 (rk:=rk) (p:=p) (i:=0) (j:=m) (by omega) λk _ hk=>all k hk;refine zB P.qz (by omega) h3 λi j hij hj=>?_;rw[q,q]
     by_cases hj2:j=m
     ·subst hj2
      by_cases hi:i=j
      ·rw[hi];exact je _
      ·rw[all i (by omega)];exact tD lt
     ·rw[all i (by omega),all j (by omega)];exact je _
   ·obtain rfl:m=1:=by omega
    refine zB P (by omega) h3 λi j hij hj=>?_
    by_cases hj2:i=j
    ·rw[hj2];exact je _
    ·obtain rfl:i=0:=by omega
     obtain rfl:j=1:=by omega
     exact tD lt
theorem ur{k:Nat}(P:Pm n p)(hk:k<n)(hU:Up rk p k):∀(f l r:Nat),l<=r->r<=k->r - l<=f->(∀i,i<l->rk (p.getD i 0)<=rk (p.getD k 0))->(∀i,r<=i->i<k->rk (p.getD k 0)<=rk (p.getD i 0))->bH n rk (kas_place p k f l r) λm=>m<=k/\(∀i,i<m->rk (p.getD i 0)<=rk (p.getD k 0))/\∀i,m<=i->i<k->rk (p.getD k 0)<=rk (p.getD i 0)
 |0,l,r,h1,h2,h3,h4,h5=>by
  obtain rfl:l=r:=by omega
  exact⟨h2,h4,h5⟩
 |f+1,l,r,h1,h2,h3,h4,h5=>by
  unfold kas_place
  split
  ·obtain rfl:l=r:=by omega
   exact⟨h2,h4,h5⟩
  ·rename_i g
   refine⟨P.lt hk,P.lt (by omega),?_⟩
   by_cases c:rk (p.getD k 0)<rk (p.getD ((l+r) / 2) 0)
   ·rw[bE c];dsimp only;rw[if_pos rfl]
    refine ur P hk hU f l ((l+r) / 2) (by omega) (by omega) (by omega) h4 λi i1 i2=>?_;exact oN (tD c) (hU _ _ i1 i2)
   ·rw[cI c];dsimp only;rw[if_neg Bool.false_ne_true]
    refine ur P hk hU f ((l+r) / 2+1) r (by omega) h2 (by omega) (λi i1=>?_) h5;exact oN (hU i ((l+r) / 2) (by omega) (by omega)) (oO.mp c)
theorem zA:∀(f:Nat) (p:Array Nat) (k:Nat),Pm n p->k+f<=n->Up rk p k->bH n rk (kas_bin f p k) λr=>Pm n r/\Up rk r (k+f)
 |0,p,k,P,h1,h2=>⟨P,h2⟩
 |f+1,p,k,P,h1,h2=>by
  have hs:=P.size;refine bH.bind ((ur P (by omega) h2 k 0 k (cA _) (aC _) (by omega) (λi hi=>by omega) (λi i1 i2=>by omega)).mono λl ⟨z1,z2,z3⟩=>?_);refine(zA f (bubble p k (k - l)) (k+1) P.Jv (by omega) λi j hij hj=>?_).mono λr ⟨y1,y2⟩=>⟨y1,by rw[show k+(f+1)=k+1+f by omega];exact y2⟩
  ·rw[Ax (by omega) z1,Ax (by omega) z1]
   repeat' split
   all_goals first|exact je _ | (exfalso;omega)|exact h2 _ _ (by omega) (by omega)|exact z3 _ (by omega) (by omega)|exact z2 _ (by omega)
theorem Jg(h1:1<=n):bH n rk (kas_sort n) λr=>Pm n r/\Up rk r n:=by
 refine bH.bind ((Jf (nrem:=n) (Array.Perm.refl _) h1 (aC _)).mono λr ⟨z1,z2,z3,z4⟩=>?_)
 split
 ·have e:max r.1 1=r.1:=by omega
  rw[e];exact(zA (n - r.1) r.2 r.1 z1 (by omega) z4).mono λq ⟨y1,y2⟩=>⟨y1,by rw[show r.1+(n - r.1)=n by omega]at y2;exact y2⟩
 ·obtain e:r.1=n:=by omega
  rw[e]at z4;exact⟨z1,z4⟩
end
end L2
namespace L2
open PySem PySem.Spec PyProof.Rows PySem.W
section
variable {prog:Program} {w:World} {A:Around} {E:Value->Shared->Prop} {s:Shared} {M:Model}
theorem mapM_some{α β:Type}{f:α->Sem β}{P:β->Prop}:∀(l:List α) {Q:List β->Shared->Prop},(∀v∈l,∃r,P r/\∀Q':β->Shared->Prop,Q' r s->wpAny M A (f v) Q' E s)->(∀rs:List β,rs.length=l.length->(∀r∈rs,P r)->Q rs s)->wpAny M A (l.mapM f) Q E s
 | [],Q,_,h=>by rw[List.mapM_nil];exact ah (h [] rfl λr z=>nomatch z)
 |x::l,Q,hf,h=>by
  rw[List.mapM_cons];obtain⟨r,pr,hr⟩:=hf x (.head _);refine ae (hr _ (ae (mapM_some (P:=P) l (λv hv=>hf v (.tail _ hv)) λrs hl hp=>ah (h (r::rs) (by simp[hl]) λq hq=>?_))))
  rcases aP.mp hq with rfl|hq
  ·exact pr
  ·exact hp q hq
theorem Ce:∀(rs:List (Option Value)),(∀r∈rs,∃a t,r=some (Value.int a t))->∃ns,IntsAre (rs.filterMap id) ns/\ns.length=rs.length
 | [],_=>⟨[],.nil,rfl⟩
 |r::rs,h=>by
  obtain⟨a,t,rfl⟩:=h r (.head _);obtain⟨ns,h1,h2⟩:=Ce rs λq hq=>h q (.tail _ hq);exact⟨a::ns,.cons a t h1,by simp[h2]⟩
theorem Qs {vs:List Value} {ns:List Int} (h:IntsAre vs ns) (hn:ns≠[]):oneTypeOnly' vs.toArray=pure (some (Value.type "int")):=by
 rw[oneTypeOnly'_eq,List.mapM_toArray,mapM_typeOf_ints h];simp only[map_pure,pure_bind];cases h with
 |nil=>exact absurd rfl hn
 |cons n t h=>simp
theorem Oe {keys:List Value} (h2:keys≠[]) (hk:∀v∈keys,∃(x:Addr) (o:Obj) (n:Nat) (its:Array Value) (a:Int) (t:Tok),v = .ref x/\s.heap.get? x=some o/\o.cls = .type "tuple" /\ o.data = .seq its n/\its[0]?=some (.int a t)) {Q:SortKind->Shared->Prop} (h:Q (tuples' true) s) :
  wpAny M A (keyKind' keys.toArray) Q E s:=by
 rw[keyKind'_eq,List.mapM_toArray,map_eq_pure_bind];refine ae (ae (mapM_some (P:=λr=>∃a t,r=some (Value.int a t)) _ (λv hv=>?_) λrs hl hr=>ah ?_))
 ·obtain⟨x,o,n,its,a,t,rfl,ho,hc,hd,hi⟩:=hk v hv
  refine⟨_,⟨a,t,rfl⟩,λQ' hq=>?_⟩;rw[kas_first_eq];refine ae (wpAny_typeOf_ref ho ?_);rw[hc,if_neg (by decide)];refine ae (mw ho hd (ah ?_));rw[hi];exact hq
 ·obtain⟨ns,hI,hn⟩:=Ce rs hr
  have all:(rs.toArray.all λx=>x.isSome)=true:=by
   rw[List.all_toArray,fh];intro r h;obtain⟨a,t,rfl⟩:=hr r h;rfl
  rw[if_pos all];refine ae (iM ?_);have e:(rs.toArray.filterMap id)=(rs.filterMap id).toArray:=by simp
  rw[e,Qs hI (λz=>h2 (by rw[z]at hn;exact Ii.mp (by simpa[hl]using hn.symm)))];exact ae (ah (ah h))
section
variable {a kS:Addr} {e1:Nat} {keys its:List Value} {kz:List Int} {κ:SortKind}
theorem item_at(hl:keys.length=its.length){i:Nat}(hi:i<its.length):kas_item (keys.toArray.zip its.toArray) i=(keys.getD i Value.none,its.getD i Value.none):=by
 unfold kas_item;have h1:i<keys.length:=by omega
 have h2:i<min keys.length its.length:=by omega
 simp[Array.getD,h1,hi,h2]
theorem Tb{R:PySem.Fin->Shared->Prop}(hl:keys.length=its.length)(hz:kz.length=its.length)(h64:its.length<64)(hkind:2<=its.length->∀Q:SortKind->Shared->Prop,Q κ s->wpAny (model prog w) A (keyKind' keys.toArray) Q E s)(hcmp:∀i j,i<its.length->j<its.length->∀Q:Bool->Shared->Prop,Q (decide (kz.getD i 0<kz.getD j 0)) s->wpAny (model prog w) A (keyLt' κ (keys.getD i Value.none) (keys.getD j Value.none)) Q (λ_ _=>False) s)(h:∀st:SortSt,failedOf st=none->KskOut false kz its ((arrOf st).map (·.2)).toList->((arrOf st).map (·.2)).toList.length=its.length->wpAny (model prog w) A (ksk_tail a false e1 (.ref kS) st) R E s):wpAny (model prog w) A (ksk_end a false its.toArray e1 (.ref kS) keys.toArray) R E s:=by
 have zs:(keys.toArray.zip its.toArray).size=its.length:=by simp[hl]
 unfold ksk_end;simp only[fc,dC]
 by_cases few:its.toArray.size<2
 ·simp only[if_pos few]
  refine ae (ah ?_);rw[StateT.run_pure];rw[bz]at few;have e:((keys.toArray.zip its.toArray).map (·.2)).toList=its:=by
   rw[yh,ksk_zip];exact List.map_snd_zip (by simp[hl])
  refine ae (ah (h _ rfl ?_ ?_))
  ·show KskOut false kz its ((keys.toArray.zip its.toArray).map (·.2)).toList
   rw[e];refine⟨kz.zip its,.refl _,(List.map_snd_zip (by omega)).symm,?_⟩;have:(kz.zip its).length<=1:=by simp;omega
   generalize kz.zip its=l at this ⊢;cases l with
   |nil=>exact .nil
   |cons x r =>
    cases r with
    |nil=>exact List.pairwise_singleton _ _
    |cons y r=>exact absurd this (by simp)
  ·show((keys.toArray.zip its.toArray).map (·.2)).toList.length=its.length
   rw[e]
 ·simp only[if_neg few]
  rw[bz]at few;refine ae (hkind (by omega) _ ?_);have est:SortSt.mk' κ (keys.toArray.zip its.toArray) #[] 7 none=kas_st κ (keys.toArray.zip its.toArray) (List.toArray (List.range its.length)):=by
   have e:=kas_range (keys.toArray.zip its.toArray);rw[zs]at e;show SortSt.mk' κ (keys.toArray.zip its.toArray) #[] 7 none=SortSt.mk' κ ((List.toArray (List.range its.length)).map (kas_item (keys.toArray.zip its.toArray))) #[] 7 none;rw[e]
  have run:=kas_runs (prog:=prog) (w:=w) (A:=A) (E:=E) (κ:=κ) (it:=keys.toArray.zip its.toArray) (n:=its.length)
   (Q:=λ_ st' s'=>s'=s/\∃p:Array Nat,Pm its.length p/\Up (λi=>kz.getD i 0) p its.length/\arrOf st'=p.map (kas_item (keys.toArray.zip its.toArray))/\failedOf st'=none)
   (G:=λp s'=>s'=s/\Pm its.length p/\Up (λi=>kz.getD i 0) p its.length) (s:=s) (by omega) h64
   (λp' st' s' _ a2 a3 a4=>⟨a4.1,p',a4.2.1,a4.2.2,a2,a3⟩)
   (bH.wp (λi j C hi hj hC=>by
    unfold kas_cmp;rw[item_at hl hi,item_at hl hj];exact hcmp i j hi hj C hC) (Jg (by omega)))
  rw[<- est]at run;refine ae (dg run ?_ λ_ _ z=>z);rintro⟨⟨⟩,st⟩ s' ⟨rfl,p,hp,hu,ha,hf⟩;have ps:=hp.size;have lt:∀i∈p.toList,i<its.length:=λi hi=>by
   have:=hp.mem_iff.mp (yg.mp hi);simpa using this
  have eo:((arrOf st).map (·.2)).toList=p.toList.map λi=>its.getD i Value.none:=by
   rw[ha,Array.map_map,yh];refine oX λi hi=>?_;show(kas_item (keys.toArray.zip its.toArray) i).2=_;rw[item_at hl (lt i hi)]
  refine h st hf ?_ ?_
  ·rw[eo]
   refine⟨p.toList.map λi=>(kz.getD i 0,its.getD i Value.none),?_,?_,?_⟩
   ·have e1:p.toList.Perm (List.range its.length):=by simpa using Array.perm_iff_toList_perm.mp hp
    refine(e1.map _).trans (.of_eq ?_);refine jg (by simp[hz]) λi h1 h2=>?_;have hi:i<its.length:=by simpa using h1
    have hi':i<kz.length:=by omega
    simp[hi,hi']
   ·rw[dn]
    rfl
   ·rw[f7,Il]
    intro i j hi hj hij;have hj':j<p.size:=by simpa using hj
    have:=hu i j (eJ hij) (by omega);have g:∀k (hk:k<p.size),p.getD k 0=p.toList[k]:=λk hk=>by simp[Array.getD,hk]
    rw[g i (by omega),g j hj']at this;exact this
  ·rw[eo,ay,fC,ps]
end
end
section
variable {X:Cx} {pins:List (Addr × Obj)} {σ:St} {H:Hp} {s:Shared} {qual x:Str} {params:Arguments} {body:Expr} {scope:Scope} {fr:List (Str × Nat)} {tb:TE} {p:Addr} {v:V} {u:Value} {xs:List V} {kz:List Int} {kw:List (List V)} {Q:VK} {E:Value->Shared->Prop}
structure pD (X:Cx) (H:Hp) (kw:List (List V)) (kz:List Int):Prop where
 head:∀ws∈kw,∃a:Int,ws[0]?=some (.int a)
 cmp:∀(i j:Nat) (H3:Hp) (A:Around) (s:Shared) (E:Value->Shared->Prop) (pins:List (Addr × Obj)) (σ:St) (r q:Addr) (ws vs:List V),A.units<=X.A.units+2->Same H H3->Inv X pins σ H3 s->kw[i]?=some ws->kw[j]?=some vs->H3 r=some (.tup ws)->H3 q=some (.tup vs) ->
  ∀Q:Bool->Shared->Prop,Q (decide (kz.getD i 0<kz.getD j 0)) s->wpAny (model X.prog X.w) A (keyLt' (tuples' true) (.ref r) (.ref q)) Q E s
theorem Td{A:Around}{a:Addr}{its:List Value}{R:PySem.Fin->Shared->Prop}(hA:A.frames=X.A.frames)(hd:A.handled=none)(hr:A.depth<recursionLimit)(kN:A.guards=X.A.guards/\A.units<=X.A.units+2/\A.depth=X.A.depth)(KL:oR X qual x params body scope fr tb)
  (I:Inv X pins σ H s) (fa:cu X pins H a) (ea:s.heap.get? a=some (seqObj "list" its.toArray 0)) (rv:Vals xs its) (L:cW H p qual params body scope (bh X.env.cells scope.names [])) (hl:kz.length=xs.length) (hw:kw.length=xs.length) (h64:xs.length<64)
  (TK:pD X H kw kz)
  (turn:∀(i:Nat) y ws,xs[i]?=some y->kw[i]?=some ws->∀H3,Same H H3->tb (some y::lamσ fr σ) H3 λz H4=>(∃r,z = .ref r/\H4 r=some (.tup ws))/\Same H3 H4)
  (q:∀ys H3 s',Same H H3->H3 a=some (.lst ys)->mE kz xs ys->Inv X pins σ H3 s'->R (.done (.ret .none)) s') :
  wpAny (model X.prog X.w) A (ksk_tree a (.ref p) false) R E s:=by
 have big:(64:Nat)<=sizeLine:=by decide +kernel
 have l1:=rv.length;have al:a<s.heap.objs.size:=aI ea;unfold ksk_tree;refine ae (mw ea rfl (ae (mx ea rfl ?_ (by show(its.toArray).size<=sizeLine;rw[bz];omega) (cA _))));obtain⟨e1,kG⟩:∃e1,(s.heap.update a (Obj.mapSeq λ_=>(#[]:Array Value))).get? a=some (seqObj "list" #[] e1):=⟨_,pe ea λ_=>#[]⟩;have I1:Inv X pins σ H {s with heap:=s.heap.update a (Obj.mapSeq λ_=>(#[]:Array Value)),toks:=s.toks}:=
  I.turned (λb o hb e=>by rw[mB _ _ _ _ hb];exact e) fa.1 fa.2.1 fa.2.2.2.1 fa.2.2.2.2.1 fa.2.2.2.2.2
 refine ae (seqEpoch_at kG rfl (ae (ub (ae (jm (dG ?_) (cA _))) (by show its.length<=sizeLine;omega))));have I2:Inv X pins σ H {s with heap:=(s.heap.update a (Obj.mapSeq λ_=>(#[]:Array Value))).push {cls:=.type "tuple", data:=.seq its.toArray},toks:=s.toks}:=I1.kept λb o e=>aB _ e;have I3:=I2.vW (its:=[]) (ys:=[]) (t':=s.toks) .nil (cA _);have Ad:((s.heap.update a (Obj.mapSeq λ_=>(#[]:Array Value))).push {cls:=.type "tuple", data:=.seq its.toArray}).get? a=some (seqObj "list" #[] e1):=aB _ kG;have nH:H ((s.heap.update a (Obj.mapSeq λ_=>(#[]:Array Value))).push {cls:=.type "tuple", data:=.seq its.toArray}).objs.size=none:=I2.fresh;have nk:a≠((s.heap.update a (Obj.mapSeq λ_=>(#[]:Array Value))).push {cls:=.type "tuple", data:=.seq its.toArray}).objs.size:=aY (aI Ad);generalize hkS:((s.heap.update a (Obj.mapSeq λ_=>(#[]:Array Value))).push {cls:=.type "tuple", data:=.seq its.toArray}).objs.size=kS at I3 nH nk;have KR:cu X pins (upd H kS (.lst [])) a:=⟨by rw[ax nk];exact fa.1,fa.2⟩;have I4:Inv X ((a,seqObj "list" #[] e1)::pins) σ (upd H kS (.lst [])) _:=I3.qU λq hq=>by
  rcases aP.mp hq with rfl|hq
  ·exact⟨aB _ Ad,KR.1,fa.2.1,fa.2.2.1,λv z=>by cases z⟩
  ·exact I3.pin q (eI _ hq)
 have sm:Same H (upd H kS (.lst [])):=Same.put nH;refine sort_keys (Kp:=λi z G=>∀ws,kw[i]?=some ws->∃r,z = .ref r/\r≠kS/\G r=some (.tup ws)) hA hd hr kN KL (by omega) I4 av (L.same sm) rv (λi z G G' hz sx ws e=>?_) (λi y hy H3 s3 hk3=>?_) (λkv G s' keys n hkv hK J hG sX ek rk=>?_)
 ·obtain⟨r,h1,h2,h3⟩:=hz ws e
  exact⟨r,h1,h2,sx r _ h2 h3⟩
 ·have hi:i<kw.length:=by rw[hw];exact(cw.mp hy).1
  have:=turn i y _ hy (aK hi) H3 (ck.of nH λb o hb e=>s3 b o hb (sm b o e));have e:(λ(z:V) (H4:Hp)=>(∃r,z = .ref r/\H4 r=some (.tup kw[i]))/\Same H3 H4)=λz H4=>(∀ws,kw[i]?=some ws->∃r,z = .ref r/\r≠kS/\H4 r=some (.tup ws))/\Same H3 H4:=by
   obtain⟨kv,hk3⟩:=hk3
   funext z H4
   refine propext ⟨λ⟨⟨r,h1,h2⟩,h3⟩=>⟨λws ek=>?_,h3⟩,λ⟨h1,h2⟩=>⟨?_,h2⟩⟩
   ·rw[aK hi]at ek;cases ek
    exact⟨r,h1,iq h2 (h3 _ _ hk3) (by intro z;cases z),h2⟩
   ·obtain⟨r,z1,_,z3⟩:=h1 _ (aK hi)
    exact⟨r,z1,z3⟩
  rw[e]at this;exact this
 ·have GR:Same H G:=λb o e=>sX b o (cK e nH) (sm b o e)
  have hkl:keys.length=its.length:=by rw[<- rk.length];omega
  have key:∀i,i<its.length->∃(r:Addr) (ws:List V),kw[i]?=some ws/\keys.getD i Value.none = .ref r/\G r=some (.tup ws):=λi hi=>by
   have hi1:i<kw.length:=by omega
   have hi2:i<kv.length:=by omega
   obtain⟨r,h1,_,h3⟩:=hK i _ (aK hi2) _ (aK hi1);obtain⟨u,e1,e2⟩:=rk.get (aK hi2);rw[h1]at e2;exact⟨r,_,aK hi1,by rw[aQ,e1];exact e2,h3⟩
  refine Tb (κ:=tuples' true) (kz:=kz) hkl (by omega) (by omega) (λh2 Q hq=>Oe (λz=>by rw[z]at hkl;simp at hkl;omega) (λv hv=>?_) hq) (λi j hi hj Q hq=>?_) λst z1 z2 z3=>?_
  ·obtain⟨i,hi,rfl⟩:=j8 hv
   obtain⟨r,ws,e1,e2,e3⟩:=key i (by omega);obtain⟨b,e4⟩:=TK.head ws (cX e1);obtain⟨_,its',rv',⟨o,ho,hc,m,hd'⟩,_⟩:=(show aN X.prog X.w G s'.heap r (.tup ws)from J.hok r _ e3);obtain⟨u,e5,t,rfl⟩:=rv'.get e4;rw[aQ,aK hi]at e2;exact⟨r,o,m,its'.toArray,b,t,e2,ho,hc,hd',by simpa using e5⟩
  ·obtain⟨r,ws,e1,e2,e3⟩:=key i hi
   obtain⟨r',ws',e1',e2',e3'⟩:=key j hj;rw[e2,e2'];exact TK.cmp i j G A s' _ _ _ r r' ws ws' kN.2.1 GR J e1 e1' e3 e3' Q hq
  ·obtain⟨ys,hv,hs⟩:=Tf rv z2
   have fG:cu X pins G a:=⟨(J.pin (a,seqObj "list" #[] e1) (eI _ (bO ..))).2.1,fa.2⟩;refine Tc J hG ek (by omega) fG z1 rfl hv (by omega) λs2 J2=>q ys _ s2 (λb o e=>?_) av hs J2;have b1:b≠kS:=cK e nH;have b2:b≠a:=cK e fa.1;rw[ax b2,ax b1];exact GR b o e
end
section
variable {X:Cx} {x:Str} {params:Arguments} {body e:Expr} {scope:Scope} {fr:List (Str × Nat)} {tb ti:TE} {c P:Addr} {p0 bW kpos pos:Pos}
end
end L2
namespace L2
open PySem PySem.Spec PyProof.Rows PySem.Builtin PySem.Builtin.Str
section
variable {prog:Program} {w:World} {A:Around} {E:Value->Shared->Prop} {s:Shared}
theorem Dd:∀l:List Int,HT.lexLt l l=false
 | []=>rfl
 |x::l=>by rw[HT.C_,if_pos rfl];exact Dd l
theorem Qr{l b:Addr}{items items2:Array Value}{ns ms:List Int}{Q:Bool->Shared->Prop}(hl:IsTup s.heap l items)(hb:IsTup s.heap b items2)(hi:IntsAre items.toList ns)(hj:IntsAre items2.toList ms)(hu:A.units<cLine)(h:Q (HT.lexLt ns ms) s):wpAny (model prog w) A (oneLt' false (.ref l) (.ref b)) Q E s:=by
 rw[oneLt'_eq];simp only[fc,dC];exact ae (HT.O1 hl hb hi hj hu (gu h))
theorem Cg:∀{vs:List Value} {ns ms:List Int},IntsAre vs ns->IntsAre vs ms->ns=ms
 | [],_,_,.nil,.nil=>rfl
 |_::_,_,_,.cons a t h,.cons _ _ h'=>by rw[Cg h h']
noncomputable def k_(p q:Int)(ns ms:List Int):Bool:=if p=q then HT.lexLt ns ms else decide (p<q)
theorem Oa{b:Bool}{x y tx ty:Addr}{n m:Nat}{o1 o2:Obj}{p q:Int}{t1 u1:Tok}{ix iy:Array Value}{ns ms:List Int}(hx:s.heap.get? x=some o1)(dx:o1.data = .seq #[.int p t1,.ref tx] n)(hy:s.heap.get? y=some o2)(dy:o2.data = .seq #[.int q u1,.ref ty] m)(hl:IsTup s.heap tx ix)(hb:IsTup s.heap ty iy)(hi:IntsAre ix.toList ns)(hj:IntsAre iy.toList ms)(hu:A.units<cLine){Q:Bool->Shared->Prop}(h:Q (k_ p q ns ms) s):wpAny (model prog w) A (keyLt' (tuples' b) (.ref x) (.ref y)) Q E s:=by
 show wpAny _ _ (do
  let xs <- Builtin.List.listItems (.ref x);let ys <- Builtin.List.listItems (.ref y)
  for ((p,q),i) in (xs.toList.zip ys.toList).zipIdx do
   if !(<- eqBool p q)then return <- oneLt' (b&&i==0) p q
  return xs.size<ys.size) _ _ _
 refine ae (mw hx dx (ae (mw hy dy ?_)));simp only[lV,List.zip_nil_right,yD,yE,oS,tG];unfold k_ at h;refine ae ?_;refine ae (ae (wpAny_eqBool_int ?_))
 by_cases e1:p=q
 ·rw[show(p==q)=true from eP.mpr e1]
  rw[if_pos e1]at h;simp only[Bool.not_true,fc,dC];refine ah ?_;dsimp only;have zx:ix.size=ns.length:=by rw[<- hi.length];simp
  have zy:iy.size=ms.length:=by rw[<- hj.length];simp
  have eq:∃k:Bool,SeqAt.EqAt A s (.ref tx) (.ref ty) k/\(k=true->ns=ms):=by
   by_cases et:tx=ty
   ·subst et
    refine⟨true,SeqAt.EqAt.same _,λ_=>?_⟩;obtain⟨o,ho,hc,k,hd⟩:=hl;obtain⟨o',ho',hc',k',hd'⟩:=hb;rw[ho]at ho';cases ho';rw[hd]at hd';cases hd';exact Cg hi hj
   ·refine⟨_,SeqAt.EqAt.of_refs et (SeqAt.RcAt.tuples (e:=λj=>ns.getD j 0==ms.getD j 0) hl hb hu λj h1 h2=>?_),λhk=>?_⟩
    ·obtain⟨t,q1⟩:=hi.get j _ (aK (show j<ns.length by omega))
     obtain⟨u,q2⟩:=hj.get j _ (aK (show j<ms.length by omega));have g1:ix[j] = .int ns[j] t:=by have:=(cw.mp q1).2;simpa using this
     have g2:iy[j] = .int ms[j] u:=by have:=(cw.mp q2).2;simpa using this
     rw[g1,g2,aQ,aQ,aK (show j<ns.length by omega),aK (show j<ms.length by omega)];exact za _ _ _ _
    ·rw[cq,eP,fh]at hk
     refine jg (by omega) λj h1 h2=>?_;have:=hk.1 j (j9.mpr (by omega));rw[aQ,aQ,aK h1,aK h2]at this;simpa using this
  obtain⟨k,he,hk⟩:=eq;refine ae (ae (he prog w _ _ ?_));cases k with
  |true =>
   rw[hk rfl,Dd]at h;simp only[Bool.not_true,fc,dC];refine ah (ah ?_);dsimp only;exact ah h
  |false =>
   simp only[Bool.not_false,ig];have:(b&&(0+1==0))=false:=by cases b<;>rfl
   rw[this];refine ae (Qr hl hb hi hj hu (ah (ah ?_)));dsimp only;exact ah h
 ·rw[show(p==q)=false from jo.mpr e1]
  rw[if_neg e1]at h;simp only[Bool.not_false,ig];refine ae (Qq (ah (ah ?_)));dsimp only;exact ah h
end
section
variable {X:Cx} {pins:List (Addr × Obj)} {σ:St} {H:Hp} {s:Shared} {A:Around} {E:Value->Shared->Prop} {d:Addr} {kvs:List (List Key × V)}
theorem yd:∀(ts:List Addr),Vals (ts.map V.ref) (ts.map Value.ref)
 | []=>.nil
 |_::ts=>.cons rfl (yd ts)
theorem Ck{acc:Array Value}{ks:List Value}(h:ItemsOf (λi v=>ks[i]?=some v) acc ks.length):acc.toList=ks:=by
 apply List.ext_getElem?
 intro i
 by_cases hi:i<acc.toList.length
 ·have h1:=h.2 i acc.toList[i] (by rw[<- oH];exact aK hi)
  rw[h1];exact aK hi
 ·rw[tH (by omega),tH (by have:=h.1;simp at hi;omega)]
end
end L2
namespace L2
open PySem PySem.Spec PyProof.Rows PySem.Builtin PySem.Builtin.Str PySem.W
section
variable {X:Cx} {pins:List (Addr × Obj)} {σ:St} {H:Hp} {s:Shared} {E:Value->Shared->Prop} {qual x:Str} {params:Arguments} {body:Expr} {scope:Scope} {fr:List (Str × Nat)} {tb:TE} {p d:Addr} {kvs:List (List Key × V)} {Q:VK}
end
section
variable {X:Cx} {x:Str} {params:Arguments} {body e:Expr} {scope:Scope} {fr:List (Str × Nat)} {tb ti:TE} {c P:Addr} {p0 bW kpos pos:Pos}
end
theorem Ob{P:Program}{w:World}{H:Hp}{A:Around}{s:Shared}{E:Value->Shared->Prop}{r q t u:Addr}{p p':Int}{f g:List Int}(hu:A.units<cLine)(ok:aU P w H s.heap)(h1:H r=some (.tup [.int p,.ref t]))(h2:H q=some (.tup [.int p',.ref u]))(ht:H t=some (.tup (f.map V.int)))(hu':H u=some (.tup (g.map V.int))){Q:Bool->Shared->Prop}(hq:Q (k_ p p' f g) s):wpAny (model P w) A (keyLt' (tuples' true) (.ref r) (.ref q)) Q E s:=by
 obtain⟨_,its,rv,⟨o,ho,_,n,hd⟩,_⟩:=(show aN P w H s.heap r _ from ok r _ h1);obtain⟨_,its',rv',⟨o',ho',_,n',hd'⟩,_⟩:=(show aN P w H s.heap q _ from ok q _ h2);obtain⟨_,jts,jv,jt,_⟩:=(show aN P w H s.heap t _ from ok t _ ht);obtain⟨_,VP,N4,N3,_⟩:=(show aN P w H s.heap u _ from ok u _ hu');cases rv with
 |cons a1 rv =>
  cases rv with
  |cons a2 rv =>
   cases rv;cases rv' with
   |cons b1 rv' =>
    cases rv' with
    |cons b2 rv' =>
     cases rv';obtain⟨k1,rfl⟩:=a1;obtain⟨k2,rfl⟩:=b1;cases a2;cases b2;exact Oa ho hd ho' hd' jt N3 (by simpa using nL jv) (by simpa using nL N4) hu hq
theorem wJ{α β:Type}{R:α->β->Prop}{a:α}:∀{l:List α} {m:List β} {i:Nat},Paired R l m->l[i]?=some a->∃b,m[i]?=some b/\R a b
 |_,_,0,.cons h _,e=>by cases e;exact⟨_,rfl,h⟩
 |_,_,i+1,.cons _ r,e=>by
  obtain⟨b,h1,h2⟩:=wJ (i:=i) r (by simpa using e);exact⟨b,by simpa using h1,h2⟩
theorem Uw{X:Cx}{H:Hp}(hX:X.A.units+2<cLine){fs:List (List Int)}{ts:List Addr}{kz:List Int}(hl:Paired (λf t=>H t=some (.tup (f.map V.int))) fs ts)(hz:∀(i j:Nat) a b,fs[i]?=some a->fs[j]?=some b->k_ a.length b.length a b=decide (kz.getD i 0<kz.getD j 0)):pD X H ((fs.zip ts).map λq=>[.int (q.1.length:Int),.ref q.2]) kz where
 head:=λws h=>by
  obtain⟨k,_,rfl⟩:=cx.mp h;exact⟨_,rfl⟩
 cmp:=λi j H3 A s E pins σ r q ws vs hu sm I e1 e2 h1 h2 Q hq=>by
  rw[bT]at e1 e2;have get:∀{i:Nat} {ws:List V},((fs.zip ts)[i]?).map (λq:List Int × Addr=>[V.int (q.1.length:Int),.ref q.2])=some ws->∃a t,fs[i]?=some a/\H t=some (.tup (a.map V.int))/\ws = [.int (a.length:Int),.ref t]:=λ{i ws} e=>by
   cases z:(fs.zip ts)[i]? with
   |none=>rw[z]at e;cases e
   |some a =>
    rw[z]at e;obtain⟨z1,z2⟩:=yx.mp z;obtain⟨t,z3,z4⟩:=wJ hl z1;rw[z2]at z3;cases z3;exact⟨a.1,a.2,z1,z4,by simpa using e.symm⟩
  obtain⟨a,t,f1,f2,rfl⟩:=get e1;obtain⟨b,u,g1,g2,rfl⟩:=get e2;rw[<- hz i j a b f1 g1]at hq;exact Ob (by omega) I.hok h1 h2 (sm _ _ f2) (sm _ _ g2) hq
end L2
namespace Fl
open L2
noncomputable def fw(f:List Nat)(r:Nat):List Nat:=(List.range 8).filter λx=>f.contains x||f.contains (x ^^^ r)
noncomputable def aR(fs:List (List Nat))(g:List Nat):List (List Nat):=if g∈fs then fs else fs++[g]
noncomputable def G4(fs:List (List Nat))(r:Nat):List (List Nat):=(fs.map λf=>fw f r).foldl aR fs
noncomputable def cE(k:Nat):List (List Nat):=(List.range k).foldl (λfs i=>G4 fs (1+i)) [[0]]
noncomputable def found(w:Nat):List (List Nat):=cE (2 ^ w - 1)
noncomputable def qu:List Nat->List Nat->Bool
 | [],[]=>false
 | [],_::_=>true
 |_::_,[]=>false
 |x::xs,y::ys=>if x=y then qu xs ys else decide (x<y)
noncomputable def lg(f g:List Nat):Bool:=if f.length=g.length then qu f g else decide (f.length<g.length)
noncomputable def BZ(f:List Nat):List (List Nat)->List (List Nat)
 | []=>[f]
 |g::r=>if lg f g then f::g::r else g::BZ f r
noncomputable def bL(w:Nat):List (List Nat):=(found w).foldr BZ []
noncomputable def rk(w:Nat)(f:List Nat):Int:=(((bL w).findIdx (· = f):Nat):Int)
noncomputable def rowsOf(w b:Nat):List Nat:=(List.range (2 ^ w)).filter λr=>b / 2 ^ r % 2=1
noncomputable def isF(f:List Nat):Bool:=f.all λx=>f.all λy=>f.contains (x ^^^ y)
noncomputable def Om(w:Nat):List (List Nat):=((List.range (2 ^ 2 ^ w / 2)).map λi=>rowsOf w (1+2*i)).filter isF
end Fl
namespace My
open PySem PySem.Spec PyProof.Rows L2
theorem Vl{x y:Nat}(hx:x<8)(hy:y<8):Builtin.bitXor (x:Int) (y:Int)=((x ^^^ y:Nat):Int):=by
 have h:∀x,x<8->∀y,y<8->((x ||| y:Nat):Int) - ((x&&& y:Nat):Int)=((x ^^^ y:Nat):Int):=by decide +kernel
 rw[<- h x hx y hy,<- Qx,<- zz];rfl
theorem Du{M:List Nat}{a:Nat}(h:a<M.length):(M.map nV)[a]?=some (nV (M.getD a 0)):=by
 rw[bT,aK h,aQ,aK h];rfl
theorem Same.noneF{H H':Hp}{a:Addr}(s:Same H H')(h:H' a = .none):H a = .none:=by
 cases e:H a with
 |none=>rfl
 |some o=>rw[s a o e]at h;cases h
noncomputable def grown(g:List Nat)(r:Nat):List Int:=(g.map λx=>((x ^^^ r:Nat):Int))++g.map λx=>((x:Nat):Int)
theorem L8(g:List Nat)(r:Nat):(List.range (g.map nV).length).map (λj=>nV (g.getD j 0 ^^^ r))++g.map nV=(grown g r).map V.int:=by
 unfold grown;rw[f6,dn,dn,ay]
 congr 1
 apply jg
 ·simp
 ·intro i h1 h2
  have:i<g.length:=by simpa using h2
  simp[aQ,aK this]
theorem PN{ks ns:List Int}(nd:ks.Nodup)(h:∀k∈ks,k∈ns):ks.length<=ns.length:=nd.length_le_of_subset h
theorem zD:∀{l m:List Int},l.Pairwise (· < ·)->m.Pairwise (· < ·)->(∀x,x∈l ↔ x∈m)->l=m
 | [],[],_,_,_=>rfl
 | [],y::m,_,_,h=>absurd ((h y).mpr (bO ..)) (by simp)
 |x::l,[],_,_,h=>absurd ((h x).mp (bO ..)) (by simp)
 |x::l,y::m,hl,hm,h=>by
  obtain⟨h1,h2⟩:=tO.mp hl;obtain⟨h3,h4⟩:=tO.mp hm;have e:x=y:=by
   rcases aP.mp ((h x).mp (bO ..))with e|e
   ·exact e
   ·rcases aP.mp ((h y).mpr (bO ..))with e'|e'
    ·exact e'.symm
    ·have:=h1 _ e';have:=h3 _ e;omega
  subst e;rw[zD h2 h4 λz=>?_]
  constructor
  ·intro hz
   rcases aP.mp ((h z).mp (bI _ hz))with e|e
   ·have:=h1 z hz;omega
   ·exact e
  ·intro hz
   rcases aP.mp ((h z).mpr (bI _ hz))with e|e
   ·have:=h3 z hz;omega
   ·exact e
theorem K8{g:List Nat}{r:Nat}{ks ms:List Int}(h8:∀x∈g,x<8)(hr:r<8)(nd:ks.Nodup)(hk:∀k,k∈ks ↔ k∈grown g r)(hp:ms.Perm ks)(hs:ms.Pairwise (·<=·)):ms.map V.int=(Fl.fw g r).map nV:=by
 have e:ms=(Fl.fw g r).map λx=>((x:Nat):Int):=by
  refine zD ?_ ?_ λx=>?_
  ·exact(hs.and (hp.symm.nodup nd)).imp λ⟨h1,h2⟩=>by omega
  ·refine f7.mpr (((Im).filter _).imp λh=>?_)
   omega
  ·have x8:∀x,x<8->∀r,r<8->x ^^^ r<8/\x ^^^ r ^^^ r=x:=by decide +kernel
   rw[hp.mem_iff,hk];unfold grown Fl.fw;rw[iJ,cx,cx,cx]
   constructor
   ·rintro(⟨y,hy,rfl⟩|⟨y,hy,rfl⟩)
    ·obtain⟨h1,h2⟩:=x8 y (h8 y hy) r hr
     refine⟨y ^^^ r,fF.mpr ⟨j9.mpr h1,?_⟩,rfl⟩;rw[h2,jd];exact .inr (by simpa using hy)
    ·refine⟨y,fF.mpr ⟨j9.mpr (h8 y hy),?_⟩,rfl⟩
     rw[jd];exact .inl (by simpa using hy)
   ·rintro⟨y,hy,rfl⟩
    obtain⟨h1,h2⟩:=fF.mp hy;obtain⟨h3,h4⟩:=x8 y (j9.mp h1) r hr
    rcases jd _ _▸h2 with h|h
    ·exact .inr ⟨y,by simpa using h,rfl⟩
    ·exact .inl ⟨y ^^^ r,by simpa using h,by rw[h4]⟩
 rw[e,dn];rfl
section
variable {P:Program} {w:World} {K:W.Frag} {mg:Str->Option Value} {base:Heap} {f:Addr} {fd:FuncData}
abbrev rE:Stmt:=top 44
theorem Ga:bf ["field","row"] ["field","row"] (aq rE):=⟨rfl,rfl,rfl,by decide +kernel,rfl,by decide +kernel,by decide +kernel⟩
noncomputable def xC:Sp:=λvs H Q _=>∃(t:Addr) (g:List Nat) (r:Nat),vs = [.ref t,.int (r:Int)]/\H t=some (.tup (g.map nV))/\g.length<=8/\(∀x∈g,x<8)/\r<8/\∀p H',Same H H'->H p=none->H' p=some (.tup ((Fl.fw g r).map nV))->Q (.ref p) H'
theorem Qf (F:aO K "field_with" "field_with" rE f fd) (T:Txt mg) (vg:mg "set" = none):aL P w K mg base aW 2 f fd ["field","row"] xC:=by
 refine F.ok Ga (λvs H Q E h=>?_) (λcdv A outer s H vs Q E hr h=>?_)
 ·obtain⟨t,g,r,rfl,_⟩:=h
  rfl
 ·obtain⟨t,g,r,rfl,ht,hl,h8,Bw,kk⟩:=h
  have nd:=Ga.nd;have hr0:=hr.mono (cA _);refine⟨_,(aA (bC (eW (iS (K:=K) rfl) rfl T.tuple iQ (ag (bB (JM hr0) rfl T.sorted zM (ag (eW (JK (K:=K) rfl hr0) rfl vg Ju (ag (aD iX (dS (own:=["known"]) (fr:=[("row", 1)]) rfl (cM (aq rE) ["field","row"] rfl rfl (by decide +kernel)) (qT (K:=K) rfl (pv 0)) (λ_ _ _ _=>⟨(bx (i:=0) (by decide +kernel:(["known","row"]:List Str).Nodup) rfl (Or.inl rfl)),eX,(aD Qw (pv 0) (pv 1))⟩)) (eW (zP (K:=K) rfl) rfl T.list uA (ag (pv 0) ai))) ai)) ai)) ai)))),?_⟩;refine⟨_,rfl,t,rfl,⟨_,aJ.of ht⟩,λD hD=>iT (λj=>nV (g.getD j 0 ^^^ r)) (sj (aJ.of ht)) hD (dY (by rw[ay];omega)) (λj H3 Kt hj hs hk=>?_) (λH3 hs3 hl3=>?_)⟩
  ·rw[ay]at hj
   have hx:g.getD j 0<8:=h8 _ (Ev.getD_mem hj);refine⟨_,rfl,_,rfl,_,_,by rw[aQ,Du hj];rfl,rfl,?_⟩;dsimp only;rw[Vl hx Bw];exact hk _ (Same.refl _)
  ·have h3:=hs3 _ _ ht
   refine⟨_,rfl,t,_,rfl,.inr (aJ.of h3),λp1 hp1=>?_⟩;have s1:=Same.put (o:=.lst (g.map nV)) hp1;refine⟨D,p1,_,_,rfl,rfl,s1 _ _ hl3,av,eJ (gH (by simp;omega)),λp2 hp2=>?_⟩;rw[L8];have s2:=Same.put (o:=.lst ((grown g r).map V.int)) hp2;have gl:(grown g r).length<=16:=by unfold grown;simp;omega
   refine⟨p2,grown g r,rfl,ao.of av,by omega,λq ks hq hnd hks=>?_⟩;have s3:=Same.put (o:=kj P w q ks) hq;have hkl:ks.length<=16:=cy (PN hnd λk hk=>(hks k).mp hk) gl;refine⟨q,ks,rfl,av,by omega,λm ms hm _ hms=>?_⟩;obtain⟨hp,hs⟩:=hms (by omega);have s4:=Same.put (o:=.lst (ms.map V.int)) hm;refine⟨m,_,rfl,.inl ⟨ao.of av,λz hz=>?_⟩⟩;have sA:=((hs3.trans s1).trans (s2.trans s3)).trans s4;refine kk z _ (sA.trans (Same.put hz)) (Same.noneF sA hz) ?_;rw[av,K8 h8 Bw hnd hks hp hs]
end
end My
namespace Fl
open L2 PySem
noncomputable def nI(f:List Nat):List Int:=f.map λx=>((x:Nat):Int)
theorem Ds:∀{f g:List Nat},nI f=nI g->f=g
 | [],[],_=>rfl
 | [],_::_,h=>by cases h
 |_::_,[],h=>by cases h
 |x::f,y::g,h=>by
  unfold nI at h;rw[cH,cH,yt]at h;rw[Int.natCast_inj.mp h.1,Ds (f:=f) (g:=g) h.2]
theorem Dt(f:List Nat):(nI f).length=f.length:=by unfold nI;simp
theorem De:∀f g:List Nat,HT.lexLt (nI f) (nI g)=qu f g
 | [],[]=>rfl
 | [],_::_=>rfl
 |_::_,[]=>rfl
 |x::f,y::g=>by
  show(if(x:Int)=(y:Int)then HT.lexLt (nI f) (nI g)else decide ((x:Int)<y))=if x=y then qu f g else decide (x<y)
  rw[De f g]
  by_cases h:x=y
  ·rw[if_pos h,if_pos (by omega)]
  ·rw[if_neg h,if_neg (by omega)]
   congr 1
   exact propext yo
theorem Ot(f g:List Nat):k_ (nI f).length (nI g).length (nI f) (nI g)=lg f g:=by
 unfold k_ lg;rw[De,Dt,Dt]
 by_cases h:f.length=g.length
 ·rw[if_pos h,if_pos (by omega)]
 ·rw[if_neg h,if_neg (by omega)]
  congr 1
  exact propext yo
structure tm (w:Nat) (fs:List (List Nat)):Prop where
 perm:fs.Perm (bL w)
 lt:∀f∈fs,∀g∈fs,lg f g=decide (rk w f<rk w g)
noncomputable def mX(w:Nat):Bool:=decide ((found w).isPerm (bL w)=true)&&decide ((Om w).isPerm (bL w)=true)&&(bL w).all (λf=>(bL w).all λg=>(lg f g==decide (rk w f<rk w g))&&(decide (f=g)||decide (rk w f≠rk w g)))&&decide ((bL w).Pairwise λf g=>rk w f<=rk w g)&&decide (1<=(bL w).length)&&decide ((bL w).length<=16)
theorem pJ:∀w,w<4->mX w=true:=by decide +kernel
section
variable {w:Nat} (hw:w<4)
include hw
theorem Ao{f g:List Nat}(hf:f∈bL w)(hg:g∈bL w):lg f g=decide (rk w f<rk w g)/\(rk w f=rk w g->f=g):=by
 have h:=pJ w hw;unfold mX at h;simp only[cq,fh,cQ,eP,jd]at h;obtain⟨h1,h2⟩:=h.1.1.1.2 f hf g hg;exact⟨h1,λe=>h2.elim id λz=>absurd e z⟩
theorem KY:(bL w).Pairwise λf g=>rk w f<=rk w g:=by
 have h:=pJ w hw;unfold mX at h;simp only[cq,fh,cQ]at h;exact h.1.1.2
theorem Am:1<=(bL w).length/\(bL w).length<=16:=by
 have h:=pJ w hw;unfold mX at h;simp only[cq,fh,cQ]at h;exact⟨h.1.2,h.2⟩
theorem K5:tm w (found w):=by
 have h:=pJ w hw;unfold mX at h;simp only[cq,fh,cQ]at h;have p:(found w).Perm (bL w):=List.isPerm_iff.mp h.1.1.1.1.1;exact⟨p,λf hf g hg=>(Ao hw (p.mem_iff.mp hf) (p.mem_iff.mp hg)).1⟩
end
theorem QX{α β:Type}{f:α->β}:∀{l:List α} {ps:List β},ps.Perm (l.map f)->∃m:List α,ps=m.map f/\m.Perm l:=by
 intro l ps h
 induction ps generalizing l with
 |nil =>
  have:l = []:=by simpa using h.symm.eq_nil
  exact⟨[],rfl,by rw[this]⟩
 |cons p ps ih =>
  obtain⟨x,hx,rfl⟩:=cx.mp (h.mem_iff.mp (bO ..));obtain⟨l1,l2,rfl⟩:=List.append_of_mem hx;have h2:(f x::ps).Perm (f x::(l1++l2).map f):=h.trans (by rw[f6,cH,f6];exact yC);obtain⟨m,rfl,hm⟩:=ih (List.Perm.cons_inv h2);exact⟨x::m,rfl,(hm.cons x).trans yC.symm⟩
theorem Te{w:Nat}(hw:w<4){F:List Nat->V->Prop}{fs:List (List Nat)}{us ys:List V}(hf:tm w fs)(hp:Paired F fs us)(h:mE (fs.map (rk w)) us ys):Paired F (bL w) ys:=by
 obtain⟨ps,h1,rfl,h3⟩:=h;have e:(fs.map (rk w)).zip us=(fs.zip us).map λq=>(rk w q.1,q.2):=by
  have:=List.zip_map_left (f:=rk w) (l₁:=fs) (l₂:=us);rw[this];rfl
 rw[e]at h1;obtain⟨l,rfl,hl⟩:=QX h1;have p1:(l.map Prod.fst).Perm (bL w):=by
  have:=hl.map Prod.fst;rw[List.map_fst_zip (lX (dF hp))]at this;exact this.trans hf.perm
 have e2:l.map Prod.fst=bL w:=by
  refine List.Perm.eq_of_pairwise (le:=λf g=>rk w f<=rk w g) (λa b ha hb h1 h2=>(Ao hw (p1.mem_iff.mp ha) hb).2 (by omega)) ?_ (KY hw) p1;rw[f7]at h3 ⊢;exact h3
 rw[<- e2,dn];have all:∀q∈l,F q.1 q.2:=λq hq=>by
  have hq:=hl.mem_iff.mp hq;obtain⟨i,hi,e⟩:=j8 hq;have hi1:i<fs.length:=by have:=hi;rw[yB]at this;omega
  have hi2:i<us.length:=by have:=hi;rw[yB]at this;omega
  rw[List.getElem_zip]at e;obtain⟨x,hx,hF⟩:=wJ hp (aK hi1);rw[aK hi2]at hx;cases hx;rw[<- e];exact hF
 clear hl h1 h3 e hp e2 p1
 induction l with
 |nil=>exact .nil
 |cons q l ih=>exact .cons (all q (bO ..)) (ih λq hq=>all q (bI _ hq))
end Fl
namespace L2
open PySem PySem.Spec PyProof.Rows
end L2
namespace L2
open PySem PySem.Spec PyProof.Rows PySem.W
section
variable {prog:Program} {w:World} {A:Around} {E:Value->Shared->Prop} {s:Shared}
end
noncomputable def kI(f:List Int):List Key:=f.map Sum.inl
noncomputable def d_(xs:List (List Int × Addr)):List (List Key × Addr × Value):=xs.map λq=>(kI q.1,q.2,Value.bool true)
noncomputable def fe(P:Program)(w:World)(h:Heap)(d:Addr)(xs:List (List Int × Addr)):Prop:=(d==sysModules)=false/\xs.length<=1000/\(xs.map (·.1)).Nodup /\
 ∃o es ep,h.get? d=some o/\o.ExactDict/\o.data = .dict es ep/\es.toList=(d_ xs).map (entryOfKey (tupleKind (cS P w)))
noncomputable def cV(P:Program)(w:World)(d:Addr)(xs:List (List Int × Addr)):HO:=.ext λh=>fe P w h d xs
theorem Ab{P:Program}{w:World}{H:Hp}{h:Heap}{d:Addr}{xs:List (List Int × Addr)}(g:fe P w h d xs):aN P w H h d (cV P w d xs):=
 ⟨g,let⟨_,_,_,o,_,_,e,_⟩:=g;⟨o,e⟩,λh1 h2 g k=>let⟨a,b,c,o,es,ep,e,r⟩:=g;⟨a,b,c,o,es,ep,k _ e,r⟩⟩
noncomputable def dk(H:Hp)(xs:List (List Int × Addr)):Prop:=∀q∈xs,H q.2=some (.tup (q.1.map V.int))
theorem Cq{f g:List Int}(h:kI f=kI g):f=g:=by
 induction f generalizing g with
 |nil=>cases g with|nil=>rfl|cons y g=>cases h
 |cons x f ih =>
  cases g with
  |nil=>cases h
  |cons y g =>
   unfold kI at h;rw[cH,cH,yt]at h;rw[Sum.inl.inj h.1,ih h.2]
theorem vJ(f:List Int):qp (kI f) (f.map V.int):=by
 induction f with
 |nil=>exact .nil
 |cons x f ih=>exact .cons (.inl rfl) ih
section
variable {P:Program} {w:World} {H:Hp} {h:Heap} {d:Addr} {xs:List (List Int × Addr)}
theorem fe.Uu(ok:aU P w H h)(kt:dk H xs)(g:fe P w h d xs):h.DictOfH (tupleKind (cS P w)) d (d_ xs):=by
 obtain⟨lo,z,nd,o,es,ep,e1,e2,e3,e4⟩:=g;refine⟨o,es,ep,e1,e2,e3,e4,λx hx=>?_,?_⟩
 ·obtain⟨q,hq,rfl⟩:=cx.mp hx
  exact kZ ok ⟨_,vJ q.1,kt q hq⟩
 ·unfold d_
  rw[dn];exact f7.mpr ((f7.mp nd).imp λhne e=>hne (Cq e))
theorem fe.DY(lo:(d==sysModules)=false)(z:xs.length<=1000)(nd:(xs.map (·.1)).Nodup)(g:h.DictOfH (tupleKind (cS P w)) d (d_ xs)):fe P w h d xs:=by
 obtain⟨o,es,ep,e1,e2,e3,e4,_⟩:=g;exact⟨lo,z,nd,o,es,ep,e1,e2,e3,e4⟩
noncomputable def eY(xs:List (List Int × Addr))(f:List Int)(b:Addr):List (List Int × Addr):=if f∈xs.map (·.1)then xs else xs++[(f,b)]
theorem Rn(f:List Int)(b:Addr)(nd:(xs.map (·.1)).Nodup):((eY xs f b).map (·.1)).Nodup:=by
 unfold eY
 split
 ·exact nd
 ·rename_i hn
  rw[f6];exact tN.mpr ⟨nd,by simp,λx hx y hy e=>by simp at hy;subst hy;subst e;exact hn hx⟩
theorem Rm(f:List Int)(b:Addr):(eY xs f b).length<=xs.length+1:=by
 unfold eY
 split
 ·omega
 ·simp
theorem zF(f:List Int):atKey (d_ xs) (kI f)=none ↔ f ∉ xs.map (·.1):=by
 unfold atKey d_;rw[Option.map_eq_none_iff,List.find?_eq_none]
 constructor
 ·intro h hf
  obtain⟨q,hq,rfl⟩:=cx.mp hf;exact h _ (cx.mpr ⟨q,hq,rfl⟩) (by simp)
 ·intro h x hx
  obtain⟨q,hq,rfl⟩:=cx.mp hx;rw[cQ];exact λe=>h (cx.mpr ⟨q,hq,Cq e⟩)
theorem Tr(f:List Int)(b:Addr):storedH (d_ xs) (kI f) b (.bool true)=d_ (eY xs f b):=by
 by_cases hf:f∈xs.map (·.1)
 ·have:atKey (d_ xs) (kI f)≠none:=λz=>(zF f).mp z hf
  obtain⟨p,hp⟩:=Option.ne_none_iff_exists'.mp this;rw[storedH_old hp];unfold eY;rw[if_pos hf];unfold d_;rw[dn];refine oX λq _=>?_;show putAt (kI f) (.bool true) (kI q.1,q.2,Value.bool true)=_;unfold putAt
  split<;>simp_all
 ·rw[storedH_new ((zF f).mpr hf)]
  unfold eY d_;rw[if_neg hf,f6];rfl
end
section
variable {X:Cx} {pins:List (Addr × Obj)} {σ:St} {H:Hp} {s:Shared} {A:Around} {E:Value->Shared->Prop} {d:Addr} {xs:List (List Int × Addr)}
theorem Kg{b:Addr}{f:List Int}{u r:Value}{Q:Unit->Shared->Prop}(hu:A.units+1<cLine)(I:Inv X pins σ H s)(e:H d=some (cV X.prog X.w d xs))(kt:dk H xs)(eb:H b=some (.tup (f.map V.int)))(z:xs.length<1000)(ry:RelV (.ref b) u)(rv:RelV (.bl true) r)(h:∀s',Inv X pins σ (upd H d (cV X.prog X.w d (eY xs f b))) s'->Q () s'):wpAny (model X.prog X.w) A (setItem (.ref d) u r) Q E s:=by
 obtain rfl:u = .ref b:=ry;obtain rfl:r = .bool true:=rv;have g:fe X.prog X.w s.heap d xs:=(show aN X.prog X.w H s.heap d (cV X.prog X.w d xs)from I.hok d _ e).1;have dd:=g.Uu I.hok kt;have big:(1000:Nat)<=sizeLine:=by decide +kernel
 refine wpAny_setItem_heap (hsz:=by unfold d_;rw[ay];omega) (zi hu) (kZ I.hok ⟨_,vJ f,eb⟩) dd λh' gC hs=>h _ ?_;rw[Tr]at gC;obtain⟨lo,z1,nd,_⟩:=g;have hl:=Rm (xs:=xs) f b;obtain⟨q,hq⟩:∃q,h'.get? d=some q:=let⟨q,_,_,hq,_⟩:=gC;⟨q,hq⟩
 exact pQ I (by rw[e];exact True.intro) hs ⟨q,hq⟩ (Ab (fe.DY lo (by omega) (Rn f b nd) gC))
end
noncomputable def Sl(P:Program)(w:World)(td ty tv:TE):TS:=λD σ H=>tv σ H λv H1=>td σ H1 λx H2=>ty σ H2 λy H3=>v = .bl true/\∃(d b:Addr) (xs:List (List Int × Addr)) (f:List Int),x = .ref d/\y = .ref b/\H3 d=some (cV P w d xs)/\dk H3 xs/\H3 b=some (.tup (f.map V.int))/\xs.length<1000/\D.nx σ (upd H3 d (cV P w d (eY xs f b)))
section
variable {X:Cx} {o i value k v:Expr} {td ty tv tk:TE} {pos pos':Pos}
theorem Rf(hu:X.A.units+1<cLine)(ho:PE X o td)(hi:PE X i ty)(hv:PE X value tv)(hs:swapsWith value (some (.Subscript o i pos')) pos.line X.env=pure false):PS X (.Assign [.Subscript o i pos'] value pos) (Sl X.prog X.w td ty tv):=by
 intro pins s σ H D I h;refine wpAny_Assign_Subscript (au (hv pins s σ H _ I h) λr s1 ⟨v,H1,I1,rv,q1⟩=>au (ho pins s1 σ H1 _ I1 q1) λu s2 ⟨x,H2,I2,rx,q2⟩=>au (hi pins s2 σ H2 _ I2 q2) λiv s3 ⟨y,H3,I3,ry,ev,d,b,xs,f,ex,ey,h1,h2,h3,h4,q3⟩=>?_) hs;subst ev ex ey;obtain rfl:u=Value.ref d:=rx;exact Kg hu I3 h1 h2 h3 h4 ry rv λs4 I4=>⟨σ,_,I4,q3⟩
noncomputable def TY(P:Program)(w:World)(tk tv:TE):TE:=λσ H Q=>∀p,H p=none->tk σ (upd H p (.dT [])) λx H1=>tv σ H1 λy H2=>H2 p=some (.dT [])/\y = .bl true/\∃(b:Addr) (f:List Int),x = .ref b/\H2 b=some (.tup (f.map V.int))/\Q (.ref p) (upd H2 p (cV P w p [(f,b)]))
theorem QL(hu:X.A.units<cLine)(hk:PE X k tk)(hv:PE X v tv):PE X (.Dict [some k] [v] pos) (TY X.prog X.w tk tv):=by
 intro pins s σ H Q I q;have hn:=I.hok.fresh (aC s.heap.objs.size);have I1:=I.laid (a:=s.heap.objs.size) (o:=.dT []) (h':=s.heap.push {cls:=.type "dict", data:=.dict #[]}) (t':=s.toks) (λ_ _ q=>aB _ q) (aC _) (z_ s.heap I.big);have q1:=q _ hn;have PP:o_ X pos [some k] [v] [(tk,tv)]:=Ra hk hv Rb;refine wpAny_Dict_any rfl rfl (by simp) (by simp) (au (PP pins _ σ _ (λps H2=>match ps with
  | [(x,y)]=>H2 s.heap.objs.size=some (.dT [])/\y = .bl true/\∃(b:Addr) (f:List Int),x = .ref b/\H2 b=some (.tup (f.map V.int))/\Q (.ref s.heap.objs.size) (upd H2 s.heap.objs.size (cV X.prog X.w s.heap.objs.size [(f,b)]))
  |_=>False) I1 q1) λws s2 ⟨ps,H2,I2,rel,hq⟩=>?_)
 match ps,hq with
 | [(x,y)],hq =>
  obtain⟨e,ey,b,f,ex,eb,q2⟩:=hq;subst ey ex;cases rel with
  | @cons p r ps rs h t =>
   cases t;obtain⟨u,r⟩:=r;obtain⟨h1,h2⟩:=h;cases(show u=Value.ref b from h1);cases(show r=Value.bool true from h2);obtain⟨z,hd,xs,rel,dd⟩:=Aa I2.hok e;cases rel;unfold storeAll;rw[oS];refine ae (ae (wpAny_dictSet_heap hu (kZ I2.hok ⟨_,vJ f,eb⟩) dd λh' gC hs=>ah ?_));show wpAny _ _ (forIn [] PUnit.unit _) _ _ _;rw[tG];refine ah ⟨.ref s.heap.objs.size,_,?_,rfl,q2⟩;have dd2:h'.DictOfH (tupleKind (cS X.prog X.w)) s.heap.objs.size (d_ [(f,b)]):=gC;obtain⟨q,hq⟩:∃q,h'.get? s.heap.objs.size=some q:=let⟨q,_,_,hq,_⟩:=dd2;⟨q,hq⟩
   exact pQ I2 (by rw[e];exact True.intro) hs ⟨q,hq⟩ (Ab (fe.DY hd (by simp) (by simp) dd2))
end
end L2
namespace L2
open PySem PySem.Spec PyProof.Rows PySem.Builtin PySem.Builtin.Str PySem.W
theorem fe.ent{P:Program}{w:World}{h:Heap}{d:Addr}{xs:List (List Int × Addr)}(g:fe P w h d xs):∃ep,d4 h d ((xs.map (·.2)).map Value.ref) ep:=by
 obtain⟨_,_,_,o,es,ep,e1,e2,e3,e4⟩:=g;refine⟨ep,o,es,e1,e2,e3,?_⟩;rw[e4,dn,dn];unfold d_;rw[dn];rfl
section
variable {X:Cx} {pins:List (Addr × Obj)} {σ:St} {H:Hp} {s:Shared} {A:Around} {E:Value->Shared->Prop} {d:Addr} {xs:List (List Int × Addr)}
theorem Cz(I:Inv X pins σ H s)(e:H d=some (cV X.prog X.w d xs)):∃ep,d4 s.heap d ((xs.map (·.2)).map Value.ref) ep/\(d==sysModules)=false/\xs.length<=sizeLine:=by
 have g:fe X.prog X.w s.heap d xs:=(show aN X.prog X.w H s.heap d (cV X.prog X.w d xs)from I.hok d _ e).1;obtain⟨ep,x⟩:=g.ent;have big:(1000:Nat)<=sizeLine:=by decide +kernel
 exact⟨ep,x,g.1,cy g.2.1 big⟩
noncomputable def RD(P:Program)(w:World):List V->Hp->VK->Prop:=λvs H Q=>∃d xs,vs = [.ref d]/\H d=some (cV P w d xs)/\∀l,H l=none->Q (.ref l) (upd H l (.lst ((xs.map (·.2)).map V.ref)))
theorem JG (hr:aV 0 X.A):da X (.type "list") (RD X.prog X.w):=by
 intro pins s σ H vs us Q I r h;obtain⟨d,xs,rfl,e,q⟩:=h;obtain⟨u,rfl,ru⟩:=r.one;obtain rfl:u = .ref d:=ru;obtain⟨ep,x,lo,z⟩:=Cz I e;refine W.kdl_call (Ah lo) hr.hd x (by rw[ay,ay];omega) λh' tk acc c' keep hD hacc=>?_;have ea:=Ck hacc;refine⟨.ref s.heap.objs.size,_,I.laid (t':=tk) (o:=.lst ((xs.map (·.2)).map V.ref)) keep (aC _) ⟨by rw[ay,ay];omega,(xs.map (·.2)).map Value.ref,c',yd _,?_⟩,rfl,q _ I.fresh⟩;rw[hD,<- ea]
theorem JV{R:List Value->Shared->Prop}(hh:A.handled=none)(I:Inv X pins σ H s)(e:H d=some (cV X.prog X.w d xs))(q:∀s',Inv X pins σ H s'->R ((xs.map (·.2)).map Value.ref) s'):wpAny (model X.prog X.w) A (collect (.ref d)) R E s:=by
 obtain⟨ep,x,lo,z⟩:=Cz I e;generalize hts:xs.map (·.2)=ts at *;have hl:ts.length=xs.length:=by rw[<- hts,ay]
 have old:∀b o,s.heap.get? b=some o->(s.heap.push (seqObj "list" #[] 0)).get? b=some o:=λb o e=>aB _ e;have dl:=eK x.lt;unfold collect;refine ae (uf (gU yU ?_));show wpAny _ _ (newList []>>=λl=>again (.builtin "list.__iadd__" ⟨[l,.ref d],[]⟩)) _ _ s;have add:codeAny (model X.prog X.w) A (.builtin "list.__iadd__" ⟨[.ref s.heap.objs.size,.ref d],[]⟩) (λr s'=>r = .ok (.ret (.ref s.heap.objs.size))/\∃h' tk acc c',s' = {s with heap:=h',toks:=tk}/\(∀b o,s.heap.get? b=some o->h'.get? b=some o) /\
   h'.get? s.heap.objs.size=some {cls:=.type "list", dict:=none,data:=.seq acc c',slots:=#[]}/\acc.toList=ts.map Value.ref) {s with heap:=s.heap.push (seqObj "list" #[] 0)}:=by
  refine gU entry_list_iadd' ?_;show wpAny _ A.in1 (Builtin.List.listExtendWith (.ref s.heap.objs.size) (.ref d) (.ref s.heap.objs.size)) _ _ _;exact W.kdl_extend (A:=A) (s:={s with heap:=s.heap.push (seqObj "list" #[] 0)}) (R:=λr s'=>r = .ok (.ret (.ref s.heap.objs.size))/\∃h' tk acc c',s' = {s with heap:=h',toks:=tk}/\(∀b o,s.heap.get? b=some o->h'.get? b=some o) /\
   h'.get? s.heap.objs.size=some {cls:=.type "list", dict:=none,data:=.seq acc c',slots:=#[]}/\acc.toList=ts.map Value.ref)
   (Ah lo) hh (x.mv λo e=>old d o e) s.heap.objs.size dl dl (.ref s.heap.objs.size) 0 (aX _ rfl) (λh' tk acc c' hk hS hacc =>
    ⟨rfl,h',tk,acc,c',rfl,λb o e=>hk b o (aY (aI e)) (old b o e),hS,Ck hacc⟩) (by rw[ay];omega)
 refine ae (jm (ah ⟨tY _ (by decide +kernel),eL add λr s' hr=>?_⟩));obtain⟨rfl,h',tk,acc,c',rfl,keep,hS,hv⟩:=hr;show wpAny _ A (load s.heap.objs.size>>=λo=>match o.data with | .seq xs _=>pure xs.toList|_=>unsupported "internal:collect") _ _ _;refine ae (wpAny_load hS (ah ?_));rw[hv];exact q _ (I.kept keep)
end
section
variable {X:Cx} {pins:List (Addr × Obj)} {σ:St} {H:Hp} {s:Shared} {E:Value->Shared->Prop} {qual x:Str} {params:Arguments} {body:Expr} {scope:Scope} {fr:List (Str × Nat)} {tb:TE} {p d:Addr} {xs:List (List Int × Addr)} {ts:List Addr} {Q:VK} {kz:List Int} {kw:List (List V)}
theorem JN(hr:aV 0 X.A)(KL:oR X qual x params body scope fr tb)(I:Inv X pins σ H s)(e:H d=some (cV X.prog X.w d xs))(L:cW H p qual params body scope (bh X.env.cells scope.names []))(pS:ts=xs.map (·.2))(h64:ts.length<64)(hl:kz.length=ts.length)(hw:kw.length=ts.length)(TK:pD X H kw kz)(turn:∀(i:Nat) y ws,(ts.map V.ref)[i]?=some y->kw[i]?=some ws->∀H3,Same H H3->tb (some y::lamσ fr σ) H3 λz H4=>(∃r,z = .ref r/\H4 r=some (.tup ws))/\Same H3 H4)(q:∀ys r H3,Same H H3->H r=none->H3 r=some (.lst ys)->mE kz (ts.map V.ref) ys->Q (.ref r) H3):
  wpAny (model X.prog X.w) X.A (call (.builtin "sorted") [.ref d] [(Str.ofString "key", .ref p)]) (EP X pins σ Q) E s:=by
 have big:(64:Nat)<=sizeLine:=by decide +kernel
 refine yT kind_sorted plain_sorted entry_sorted (ksk_s1 (.ref d) (.ref p)) ?_;unfold Builtin.«sorted»;refine ae (m:=checkCount "sorted" 1 1 _) (ah (ae (JV (A:=X.A.in1) hr.hd I e λs1 I1=>ae (jm ?_ (by rw[<- pS,ay];omega)))));rw[<- pS];have I2:Inv X pins σ H {s1 with heap:=s1.heap.push {cls:=.type "list", data:=.seq (ts.map Value.ref).toArray},toks:=s1.toks}:=I1.kept λb o e=>aB _ e;have fa:cu X pins H s1.heap.objs.size:=I1.jy (aC _) I1.fresh;have ea:(s1.heap.push {cls:=.type "list", data:=.seq (ts.map Value.ref).toArray}).get? s1.heap.objs.size=some (seqObj "list" (ts.map Value.ref).toArray 0):=aX _ rfl;refine ae (dG (yV slot_list_sort ⟨_,ea,rfl⟩ entry_list_sort ?_ (ksk_l1 _ _)));show wpAny (model X.prog X.w) X.A.in1.in1 (Builtin.«list.sort» ⟨[.ref s1.heap.objs.size],[(Str.ofString "key", .ref p)]⟩) _ _ _;rw[ksk_t1];exact Td (s:={s1 with heap:=s1.heap.push {cls:=.type "list", data:=.seq (ts.map Value.ref).toArray},toks:=s1.toks}) rfl hr.hd hr.depth ⟨rfl,aC _,rfl⟩ KL I2 fa ea (yd ts) L (by rw[ay];exact hl) (by rw[ay];exact hw) (by rw[ay];omega) TK turn
  λys H3 s3 sm g3 so I3=>⟨_,rfl,ah ⟨_,rfl,.ref s1.heap.objs.size,H3,I3,rfl,q ys _ H3 sm fa.1 g3 so⟩⟩
end
section
variable {X:Cx} {x:Str} {params:Arguments} {body e:Expr} {scope:Scope} {fr:List (Str × Nat)} {tb ti:TE} {c P:Addr} {p0 bW kpos pos:Pos}
noncomputable def Fs(X:Cx)(P:Addr)(pos:Pos)(qual:Str)(fr:List (Str × Nat))(tb:TE)(σ:St)(Q:VK)(v:V)(H1:Hp):Prop:=H1 P=some (.lam pos qual)/\∃(d:Addr) (xs:List (List Int × Addr)) (ts:List Addr) (kz:List Int) (kw:List (List V)),v = .ref d/\H1 d=some (cV X.prog X.w d xs)/\ts=xs.map (·.2)/\ts.length<64/\kz.length=ts.length/\kw.length=ts.length /\
 ∀H2,Same H1 H2->pD X H2 kw kz /\
  (∀(i:Nat) y ws,(ts.map V.ref)[i]?=some y->kw[i]?=some ws->∀H3,Same H2 H3->tb (some y::lamσ fr σ) H3 λz H4=>(∃r,z = .ref r/\H4 r=some (.tup ws))/\Same H3 H4) /\
  ∀ys r H3,Same H2 H3->H2 r=none->H3 r=some (.lst ys)->mE kz (ts.map V.ref) ys->Q (.ref r) H3
noncomputable def Ui(X:Cx)(ti:TE)(P:Addr)(pos:Pos)(qual:Str)(fr:List (Str × Nat))(tb:TE):TE:=λσ H Q=>ti σ H (Fs X P pos qual fr tb σ Q)
theorem QV (hg:Gl X "sorted") (hm:X.mg "sorted" = none) (T:TabAt X.base X.mg c P) (hcode:X.env.code = .ref c) (hr:aV 0 X.A) (KL:oR X (X.env.qual ++ "<lambda>") x params body scope fr tb) (hi:PE X e ti)
  (hdef:defaultsOf params X.env=([],[]):=by rfl) (he:starEach [e] X.env = [(false,eval e X.env)]:=by rfl) :
  PE X (.Call (.Name "sorted" p0) [e] [⟨some "key", .Lambda params body scope bW,kpos⟩] pos) (Ui X ti P bW (X.env.qual ++ "<lambda>") fr tb):=by
 intro pins s σ H Q I h;refine iK (il I hg hm boot_sorted ?_ (by decide) (by decide));refine callWith_kw (kws:=[⟨some "key", .Lambda params body scope bW,kpos⟩]) (au (ag hi ai he pos pins s σ H (qI (Fs X P bW (X.env.qual ++ "<lambda>") fr tb σ Q)) I h) λus s1 hq=>?_) (by rw[he];rfl) (by rw[he];rfl) (by rfl) (by rfl);obtain⟨vs,H1,I1,r1,hq⟩:=hq;obtain⟨v,rfl,hP,d,xs,ts,kz,kw,rfl,hd,pS,h64,hl,hw,q⟩:=hq.get;obtain⟨u,rfl,ru⟩:=r1.one;obtain rfl:u = .ref d:=ru;refine kws_cons (au (wQ T hcode (λok y hy hk=>ok.has _ (KL.blk.free y hy hk)) hdef pins s1 σ H1 (λf H2=>∃p,f = .ref p/\Same H1 H2/\cW H2 p (X.env.qual ++ "<lambda>") params body scope (bh X.env.cells scope.names [])) I1 ⟨hP,λp H2 s2 _ L=>⟨p,rfl,s2,L⟩⟩) λfv s2 ⟨f,H2,I2,rf,p,ef,sm,L⟩=>kws_nil ?_);subst ef;obtain rfl:fv = .ref p:=rf;obtain⟨q1,q2,q3⟩:=q H2 sm;exact JN hr KL I2 (sm _ _ hd) L pS h64 hl hw q1 q2 q3
end
end L2
namespace My
open PySem PySem.Spec PyProof.Rows L2
theorem K4(k:Nat):Fl.cE (k+1)=Fl.G4 (Fl.cE k) (1+k):=by
 unfold Fl.cE;rw[o5,yu];rfl
theorem K3{k:Nat}(hk:k<8):(Fl.cE k).length<=16/\∀g∈Fl.cE k,g.length<=8/\∀x∈g,x<8:=by
 have h:∀k,k<8->(decide ((Fl.cE k).length<=16)&&(Fl.cE k).all λg=>decide (g.length<=8)&&g.all λx=>decide (x<8))=true:=by decide +kernel
 have h:=h k hk;simp only[cq,fh,cQ]at h;exact h
theorem wc(g:List Nat):(Fl.nI g).map V.int=g.map nV:=by
 unfold Fl.nI;rw[dn];rfl
theorem FK{H H3:Hp}{l:Addr}{o:HO}(h:H l=none)(s:Same H H3):Same H (upd H3 l o):=λb q e=>by
 have hne:b≠l:=λz=>by rw[z,h]at e;cases e
 rw[ax hne];exact s b q e
noncomputable def fZ(P:Program)(w:World)(H2:Hp)(d:Addr)(fs:List (List Nat)):Prop:=∃xs:List (List Int × Addr),H2 d=some (cV P w d xs)/\dk H2 xs/\xs.map (·.1)=fs.map Fl.nI
theorem fZ.len{P:Program}{w:World}{H2:Hp}{d:Addr}{fs:List (List Nat)}{xs:List (List Int × Addr)}(e:xs.map (·.1)=fs.map Fl.nI):xs.length=fs.length:=by
 have:=congrArg List.length e;simpa using this
theorem Ro{xs:List (List Int × Addr)}{fs:List (List Nat)}{g:List Nat}{b:Addr}(e:xs.map (·.1)=fs.map Fl.nI):(eY xs (Fl.nI g) b).map (·.1)=(Fl.aR fs g).map Fl.nI:=by
 have hm:Fl.nI g∈xs.map (·.1) ↔ g∈fs:=by
  rw[e,cx];exact⟨λ⟨y,hy,h⟩=>Fl.Ds h▸hy,λh=>⟨g,h,rfl⟩⟩
 unfold eY Fl.aR
 by_cases h:g∈fs
 ·rw[if_pos (hm.mpr h),if_pos h,e]
 ·rw[if_neg (λz=>h (hm.mp z)),if_neg h,f6,f6,e]
  rfl
theorem fZ.put{P:Program}{w:World}{H3:Hp}{d b:Addr}{fs:List (List Nat)}{xs:List (List Int × Addr)}{g:List Nat}(hd:H3 d=some (cV P w d xs))(kt:dk H3 xs)(e:xs.map (·.1)=fs.map Fl.nI)(hb:H3 b=some (.tup ((Fl.nI g).map V.int))):fZ P w (upd H3 d (cV P w d (eY xs (Fl.nI g) b))) d (Fl.aR fs g):=by
 refine⟨_,av,λq hq=>?_,Ro e⟩;have hq2:H3 q.2=some (.tup (q.1.map V.int)):=by
  unfold eY at hq
  split at hq
  ·exact kt q hq
  ·rcases iJ.mp hq with h|h
   ·exact kt q h
   ·rw[bJ.mp h]
    exact hb
 have hne:q.2≠d:=λz=>by rw[z,hd]at hq2;cases hq2
 rw[ax hne];exact hq2
theorem Cv{H:Hp}:∀{xs:List (List Int × Addr)},dk H xs->Paired (λ(g:List Int) (t:Addr)=>H t=some (.tup (g.map V.int))) (xs.map (·.1)) (xs.map (·.2))
 | [],_=>.nil
 |q::xs,h=>.cons (h q (bO ..)) (Cv λp hp=>h p (bI _ hp))
theorem Cu{H:Hp}:∀{xs:List (List Int × Addr)} {fs:List (List Nat)},xs.map (·.1)=fs.map Fl.nI->dk H xs->Paired (λ(g:List Nat) (u:V)=>∃t,u = .ref t/\H t=some (.tup (g.map nV))) fs ((xs.map (·.2)).map V.ref)
 | [],[],_,_=>.nil
 | [],_::_,e,_=>by cases e
 |_::_,[],e,_=>by cases e
 |q::xs,g::fs,e,h=>by
  rw[cH,cH,yt]at e;have h1:=h q (bO ..);rw[e.1,wc]at h1;exact .cons ⟨_,rfl,h1⟩ (Cu e.2 λp hp=>h p (bI _ hp))
theorem Aq:∀(l fs:List (List Nat)),(l.foldl Fl.aR fs).length<=fs.length+l.length
 | [],fs=>aC _
 |g::l,fs=>by
  rw[List.foldl_cons];have h:=Aq l (Fl.aR fs g);have h2:(Fl.aR fs g).length<=fs.length+1:=by unfold Fl.aR;split<;>simp
  rw[fE];omega
theorem dk.same{H H':Hp}{xs:List (List Int × Addr)}(h:dk H xs)(s:Same H H'):dk H' xs:=λq hq=>s _ _ (h q hq)
section
variable {P:Program} {w:World} {K:W.Frag} {mg:Str->Option Value} {base:Heap} {f:Addr} {fd:FuncData}
noncomputable def yj (K:W.Frag) (mg:Str->Option Value):Prop:=∃a:Addr,mg "ROW_COUNTS" = some (.ref a)/\∀H,aJ K H a (([1,2,4,8]:List Int).map V.int)
abbrev jQ:Stmt:=top 45
theorem Gb:bf ["width","found","row","field"] ["width"] (aq jQ):=⟨rfl,rfl,rfl,by decide +kernel,rfl,by decide +kernel,by decide +kernel⟩
abbrev kJ:Pos:=⟨175,29,175,62⟩
abbrev kK:Str:=("fields_of" : Str) ++ ".<locals>." ++ "<lambda>"
noncomputable def HX(H:Hp)(l:Addr)(wd:Nat):Prop:=∃us:List V,H l=some (.lst us)/\Paired (λ(g:List Nat) (u:V)=>∃t,u = .ref t/\H t=some (.tup (g.map nV))) (Fl.bL wd) us
end
end My
namespace Fl
noncomputable def xO(f g:List Nat):Bool:=f.all λx=>g.contains x
noncomputable def lC(w i j:Nat):Bool:=xO ((bL w).getD i []) ((bL w).getD j [])
noncomputable def mR(ms:List Nat)(i j:Nat):Bool:=Nat.beq (Nat.land (ms.getD i 0) (ms.getD j 0)) (ms.getD i 0)
noncomputable def vi(n:Nat)(R:Nat->Nat->Bool):Bool:=(List.range n).all λa=>R a a&&(List.range n).all λb=>(!(R a b&&R b a)||Nat.beq a b)&&(List.range n).any (λc=>(List.range n).all λx=>R c x==(R a x&&R b x))&&(List.range n).any (λc=>(List.range n).all λx=>R x c==(R x a&&R x b))
noncomputable def iU:Nat->List (List Nat)
 |0=>[[0]]
 |1=>[[0],[0,1]]
 |2=>[[0],[0,1],[0,2],[0,3],[0,1,2,3]]
 |_=>[[0],[0,1],[0,2],[0,3],[0,4],[0,5],[0,6],[0,7],[0,1,2,3],[0,1,4,5],[0,1,6,7],[0,2,4,6],[0,2,5,7],[0,3,4,7],[0,3,5,6],[0,1,2,3,4,5,6,7]]
noncomputable def v7:Nat->List Nat
 |0=>[1]
 |1=>[1,3]
 |2=>[1,3,5,9,15]
 |_=>[1,3,5,9,17,33,65,129,15,51,195,85,165,153,105,255]
theorem u_:∀w,w<4->bL w=iU w:=by decide +kernel
theorem Tw:∀w,w<4->∀i,i<(iU w).length->∀j,j<(iU w).length->xO ((iU w).getD i []) ((iU w).getD j [])=mR (v7 w) i j:=by decide +kernel
theorem LR:∀w,w<4->vi (iU w).length (mR (v7 w))=true:=by decide +kernel
theorem LK{n:Nat}{R:Nat->Nat->Bool}(h:vi n R=true):(∀a,a<n->R a a=true)/\(∀a b,a<n->b<n->R a b=true->R b a=true->a=b)/\(∀a b,a<n->b<n->∃c,c<n/\∀x,x<n->R c x=(R a x&&R b x))/\∀a b,a<n->b<n->∃c,c<n/\∀x,x<n->R x c=(R x a&&R x b):=by
 unfold vi at h;simp only[fh,List.any_eq_true,j9,cq,jd,eP,Nat.beq_eq,Bool.not_eq_true']at h;refine⟨λa ha=>(h a ha).1,λa b ha hb h1 h2=>?_,λa b ha hb=>((h a ha).2 b hb).1.2,λa b ha hb=>((h a ha).2 b hb).2⟩
 rcases((h a ha).2 b hb).1.1 with z|z
 ·rw[h1,h2]at z
  cases z
 ·exact z
theorem KZ{w:Nat}(hw:w<4){f:List Nat}(hf:f∈bL w):f.length<=8/\∀x∈f,x<8:=by
 have h:∀w,w<4->((iU w).all λf=>decide (f.length<=8)&&f.all λx=>decide (x<8))=true:=by decide +kernel
 have h:=h w hw;rw[u_ w hw]at hf;simp only[fh,cq,cQ]at h;exact h f hf
end Fl
namespace L2
open PySem PySem.Spec PyProof.Rows
abbrev uJ (P:Program) (w:World) (K:W.Frag) (mg:Str->Option Value) (base:Heap) (ps:List Str) (qual:Str) (scope:Scope) (p:Addr) (cd:Value) (A:Around) (outer:List Env) (s:Shared) (H:Hp):Cx:=
 (bu aW P w K mg base ps qual scope p cd A outer s H E0).nU
section
variable {P:Program} {w:World} {K:W.Frag} {mg:Str->Option Value} {base:Heap} {A:Around} {outer:List Env} {s:Shared} {H:Hp} {p c:Addr} {qual:Str} {params:Arguments} {body:Expr} {scope:Scope}
 {ps:List Str} {vs:List V} {us:List Value} {pm ctv:Value} {Q:VK} {t:TE}
theorem Oj (S:bf ps ps scope) (hr:A.depth<recursionLimit) (hd:A.handled=none) (e0:eG P w K mg base A outer s H) (ho:s.heap.get? p=some (W.kla_obj "<lambda>" qual params body scope [] pm c ctv)) (hcd:s.heap.CodeRec (.ref c) qual)
  (hb:bindArgs (W.kla_fn "<lambda>" qual params body scope [] pm (.ref c) ctv) ⟨us,[]⟩=pure (ps.zip us)) (hl:vs.length=ps.length) (r:Vals vs us)
  (hbody:PE (uJ P w K mg base ps qual scope p (.ref c) A outer s H) body t) (hq:t (vs.map some) H Q) :
  codeAny (model P w) A (.call (.ref p) ⟨us,[]⟩) (λr s'=>∃u,r = .ok (.ret u)/\CE outer P w H s Q u s') s:=by
 have lim:s.heap.NoLimit:=e0.mod.nolimit.keeps λb o e=>(e0.bs b o e).1;have hkind:∀y∈ps.zip us,scope.names.lookup y.1=some .local\/(scope.names.lookup y.1=some .cell/\((cellsFrom (s.heap.objs.size+1) scope.names []).lookup y.1).isSome=true):=λ⟨n,v⟩ hy=>by
  rcases S.par n (oZ hy).1 with q|q
  ·exact .inl q
  ·exact .inr ⟨q,W.cellsFrom_some _ _ _ (.inl q)⟩
 refine W.kla_callFunE hr ho rfl S.co S.gen rfl hcd ?_;rw[hb];refine ah (wpAny_newFunctionEnv_cells S.kind hkind λenv he s1 x=>?_);subst he;refine⟨lim.keeps x.toInCall.keep,?_⟩;have I:Inv (uJ P w K mg base ps qual scope p (.ref c) A outer s H) [] (start ps vs) H s1:=(Ci (CX:=aW) S hd e0 hl r x).wish _;have es:start ps vs=vs.map some:=by
  unfold start;rw[hl,Nat.sub_self];simp
 rw[es]at I;refine W.kla_codeExpr (dg (hbody [] _ _ H Q I hq) (λv s' ⟨x,H',J,rv,q⟩=>?_) λ_ _ z=>False.elim z);exact⟨v,rfl,x,H',J.os,J.bare,J.base,J.hok,rv,q⟩
end
structure Ia (X:Cx) (qual:Str) (ps:List Str) (params:Arguments) (body:Expr) (scope:Scope) (k:Nat) (tb:TE):Prop where
 sc:bf ps ps scope
 cl:bh X.env.cells scope.names [] = []
 bind:∀(pm cd ctv:Value) (us:List Value),us.length=ps.length->bindArgs (W.kla_fn "<lambda>" qual params body scope [] pm cd ctv) ⟨us,[]⟩=pure (ps.zip us)
 run:∀(base:Heap) (A:Around) (outer:List Env) (s:Shared) (H:Hp) (p c:Addr),aV k A->PE (uJ X.prog X.w X.K X.mg base ps qual scope p (.ref c) A outer s H) body tb
noncomputable def TL(fb:Addr->Sp->Sp)(qual:Str)(params:Arguments)(body:Expr)(scope:Scope)(tb:TE)(t:TA):TE:=λσ H Q=>t σ H λvs H1=>∃p,cW H1 p qual params body scope [] /\
 fb p (λws H' Q' _=>cW H' p qual params body scope []/\tb (ws.map some) H' Q') vs H1 Q E0
section
variable {X:Cx} {x qual:Str} {k k' kl m:Nat} {fb:Addr->Sp->Sp} {ps qs:List Str} {params:Arguments} {body:Expr} {scope:Scope} {tb:TE} {p0 pos:Pos}
theorem QG {e:Expr} {t1:TE} {cc Pt:Addr} {bW:Pos} (c:j0 X.prog X.w X.K X.mg x ps k kl m fb) (T:TabAt X.base X.mg cc Pt) (hcode:X.env.code = .ref cc) (hr:aV k' X.A) (hg:Gl X x) (B:Ia X (X.env.qual ++ "<lambda>") qs params body scope kl tb) (hx:Passes aW X E0) (hm:qs.length=m) (h1:PE X e t1) (hk:k<=k':=by decide)
  (hdb:(x==("__debug__" : Str))=false:=by decide) (hdef:defaultsOf params X.env=([],[]):=by rfl) (he:starEach [e,.Lambda params body scope bW] X.env = [(false,eval e X.env),(false,eval (.Lambda params body scope bW) X.env)]:=by rfl) :
  PE X (.Call (.Name x p0) [e,.Lambda params body scope bW] [] pos) (TL fb (X.env.qual ++ "<lambda>") params body scope tb (jU t1 (jU (oE Pt bW (X.env.qual ++ "<lambda>") params body scope []) sy))):=by
 have he2:starEach [Expr.Lambda params body scope bW] X.env = [(false,eval (.Lambda params body scope bW) X.env)]:=rfl;have Bq:PE X (.Lambda params body scope bW) (oE Pt bW (X.env.qual ++ "<lambda>") params body scope (bh X.env.cells scope.names [])):=wQ T hcode (λok y hy hk=>absurd hk (B.sc.DQ y hy)) hdef;rw[B.cl]at Bq;have ha:PA X [e,.Lambda params body scope bW] (jU t1 (jU (oE Pt bW (X.env.qual ++ "<lambda>") params body scope []) sy)):=ag h1 (ag Bq ai he2) he;obtain⟨f,fd,F,hmg,kp,b⟩:=c.ex;intro pins s σ H Q I h;refine iK (jG I hg hmg ?_ hdb);refine W.callWith_K (h₀:=X.base) I.ok.mod.ik kp (au (ha pos pins s σ H _ I h) λus s1 ⟨vs,H1,I1,r,p,L,q⟩=>⟨I1.bM,?_⟩) (by rw[he,he2]) (by rw[he2];rfl);have LO:lP X.prog X.w X.K X.mg X.base kl p m (λws H' Q' _=>cW H' p (X.env.qual ++ "<lambda>") params body scope []/\tb (ws.map some) H' Q'):=by
  refine⟨λA outer s2 H2 us vs Q' jF e2 r hl ⟨L2,hq⟩=>?_⟩;obtain⟨c,pm,ctv,ho,hcd⟩:=L2.get e2.hok;exact Oj B.sc jF.depth jF.hd e2 ho hcd (B.bind _ _ _ _ (by rw[<- r.length,hl,hm])) (hl.trans hm.symm) r (B.run X.base A outer s2 H2 p c jF) hq
 have FF:=F X.base p _ LO;have hl:us.length=ps.length:=by rw[<- r.length];exact FF.len _ _ _ _ q
 have hb:=b s1 us I1.bM (by rw[j5];exact hl);rw[j5]at hb;refine iL (eL (FF.run X.A X.stack s1 H1 ⟨us,[]⟩ us vs Q E0 (hr.mono hk) I1.env0 hb r q) λr s' hq=>?_);cases r with
 |error e=>exact hx pins σ H1 s1 e s' I1 hq
 |ok fl =>
  cases fl with
  |ret u=>exact I1.after hq
  |next=>exact False.elim hq
  |brk=>exact False.elim hq
  |cont=>exact False.elim hq
end
end L2
namespace My
open PySem PySem.Spec PyProof.Rows L2
theorem LW{wd:Nat}(hw:wd<4):Good (Fl.bL wd).length (Fl.lC wd):=by
 obtain⟨h1,h2,h3,h4⟩:=Fl.LK (Fl.LR wd hw);have G:Good (Fl.iU wd).length (Fl.mR (Fl.v7 wd)):=⟨h1,h2,h3,h4⟩;rw[Fl.u_ wd hw];exact G.congr λa b ha hb=>by
  unfold Fl.lC;rw[Fl.u_ wd hw];exact Fl.Tw wd hw a ha b hb
theorem wI{α β:Type}{R:α->β->Prop}{b:β}:∀{l:List α} {m:List β} {i:Nat},Paired R l m->m[i]?=some b->∃a,l[i]?=some a/\R a b
 |_,_,0,.cons h _,e=>by cases e;exact⟨_,rfl,h⟩
 |_,_,i+1,.cons _ r,e=>by
  obtain⟨b,h1,h2⟩:=wI (i:=i) r (by simpa using e);exact⟨b,by simpa using h1,h2⟩
theorem Al:∀g:List Nat,(g.map nV).all ic=true
 | []=>rfl
 |_::g=>by rw[cH,yr,Al g];rfl
theorem BX(m:Nat):∀F:List Nat,inV (nV m) (F.map nV)=decide (m∈F)
 | []=>by simp[inV]
 |x::r=>by
  have ih:=BX m r;unfold inV at ih ⊢;rw[cH,lR,ih];have e:h9 (nV x) (nV m)=decide (x=m):=by
   show((x:Int)==(m:Int))=decide (x=m);rw[dw];simp;omega
  rw[e];rw[dw];simp only[jd,cQ,aP]
  constructor
  ·rintro(h|h)
   ·exact .inl h.symm
   ·exact .inr h
  ·rintro(h|h)
   ·exact .inl h.symm
   ·exact .inr h
theorem Nz(x:Nat)(g:List Nat):inV (nV x) (g.map nV)=g.contains x:=by
 rw[BX,dw,cQ];simp
theorem all_range(g:List Nat)(p:Nat->Bool):((List.range g.length).map λk=>p (g.getD k 0)).all id=g.all p:=by
 have e:(List.range g.length).map (λk=>p (g.getD k 0))=g.map p:=by
  refine jg (by simp) λi h1 h2=>?_;have hi:i<g.length:=by simpa using h1
  rw[oV,List.getElem_range,oV,aQ,aK hi];rfl
 rw[e,List.all_map];rfl
section
variable {P:Program} {w:World} {K:W.Frag} {mg:Str->Option Value} {base:Heap} {f:Addr} {fd:FuncData}
abbrev ox:Stmt:=top 46
theorem GC:bf ["width"] ["width"] (aq ox):=⟨rfl,rfl,rfl,by decide +kernel,rfl,by decide +kernel,by decide +kernel⟩
abbrev oB:Pos:=⟨177,38,177,91⟩
abbrev oC:Str:=("sums_order" : Str) ++ ".<locals>." ++ "<lambda>"
abbrev Tv:Scope:=match dI ox with
 | [.Return (some (.Call _ [_,.Lambda _ _ sc _] _ _)) _]=>sc
 |_=>aq ox
end
section
variable {P:Program} {w:World} {K:W.Frag} {mg:Str->Option Value} {base:Heap} {f:Addr} {fd:FuncData} {a0 a1 a2 a3 a4 a5 a6 a7 a8 a9 a10 a11 a12 a13 a14 aE:Addr}
noncomputable def eT(z:Int):Prop:=0<=z/\z<4
instance (z:Int):Decidable (eT z):=inferInstanceAs (Decidable (_/\_))
noncomputable def rS(Ps cN:Addr):Sp:=λvs H Q E=>∃z:Int,vs = [.int z]/\H Ps=some (.lam kJ kK)/\(eT z->∀l H',Same H H'->H l=none->HX H' l z.toNat->Q (.ref l) H')/\(¬ eT z->∀H',Same H H'->E (.ref cN) none H')
theorem Qo {c Ps:Addr} (F:aO K "fields_of" "fields_of" jQ f fd) (hc:fd.code = .ref c) (tb:TabAt base mg c Ps) (T:Txt mg) (xR:yj K mg) (Er:lN mg a0 a1 a2 a3 a4 a5 a6 a7 a8 a9 a10 a11 a12 a13 a14 aE) (iF:W.excIn K a8 ye "ValueError.__new__" = true) (dH:aG P w K mg base "is_whole" ["value"] 1 jS) (uB:aG P w K mg base "field_with" ["field","row"] 2 xC):aL P w K mg base (aZ P w) 3 f fd ["width"] (rS Ps a8):=by
 refine F.Qa hc Gb (λvs H Q E h=>?_) (λA outer s H vs Q E hr h=>?_)
 ·obtain⟨z,rfl,_⟩:=h
  rfl
 ·obtain⟨z,rfl,hP,kk,ke⟩:=h
  have nd:=Gb.nd;have hr0:=hr.mono (cA _);have hu:=hr.units;have hu0:(A.deeper (envOfC "fields_of" (aq jQ) s.heap.objs.size f (.ref c))).units<cLine:=by omega
  have hu2:(A.deeper (envOfC "fields_of" (aq jQ) s.heap.objs.size f (.ref c))).units+2<cLine:=by omega
  have hu1:(A.deeper (envOfC "fields_of" (aq jQ) s.heap.objs.size f (.ref c))).units+1<cLine:=by omega
  obtain⟨rc,Ac,Bf⟩:=xR;refine⟨_,(aF (cp (PW.pt (iZ (iz (fA (bw dH hr rfl (ag (pv 0) ai)))) (jP (iz (qW eU Es ak (pv 0) (bB (iR (K:=K) rfl) rfl T.len jl (ag (cF (v:=.ref rc) rfl Ac rfl) ai))))))) (aA (wW w4 Er.NoNumber iF yZ rfl rfl rfl (ag gF ai))) c7)
   (aF (aS (i:=1) nd rfl (Or.inl rfl) (QL hu0 (oa (ag ak ai)) jN))
   (aF (dW Fb rfl (wU rfl T.range (ag ak (ag (aM (bV (K:=K) rfl) (cF (v:=.ref rc) rfl Ac rfl) (pv 0) (λ_ _=>rfl)) ai))) (bx (i:=2) nd rfl (Or.inl rfl))
   (aA (dW Fb rfl (gG (K:=K) rfl (eW (JG hr0) rfl T.list uA (ag (pv 1) ai))) (bx (i:=3) nd rfl (Or.inl rfl))
   (aA (Rf hu1 (pv 1) (bw uB hr rfl (ag (pv 3) (ag (pv 2) ai))) jN rfl)))))
   (aA (bC (QV (x:= "field") (fr:=[]) rfl T.sorted tb rfl hr0 ⟨cM (aq jQ) ["width","found","row","field"] rfl rfl (by decide +kernel),⟨rfl,rfl,rfl,by decide +kernel,by decide +kernel,by decide +kernel,by decide +kernel⟩,λ_ _ _ _ us hl=>match us,hl with | [_],_=>rfl,λ_ _ _ _ _ _ _ _=>oa (ag (bB (iR (K:=K) rfl) rfl T.len jl (ag (pv 0) ai)) (ag (pv 0) ai))⟩ (pv 1))))))),?_⟩
  refine⟨_,rfl,⟨z,rfl⟩,λv H1 s1 hv=>?_⟩;subst hv;refine⟨true,rfl,bF ?_⟩;refine⟨_,rfl,_,_,rfl,rfl,_,rfl,?_⟩
  by_cases hz1:0<=z
  case neg =>
   rw[if_neg (by simpa using hz1)];refine⟨false,rfl,?_⟩;exact dv ⟨by show 1<=sizeLine;decide,ke (λh=>hz1 h.1) _ s1⟩
  rw[if_pos (bE hz1)];refine⟨rc,_,rfl,.inr (Bf _),_,_,rfl,rfl,_,rfl,?_⟩
  by_cases hz2:z<4
  case neg =>
   rw[cI (show ¬ z<((([1,2,4,8]:List Int).map V.int).length:Nat)from hz2)];exact dv ⟨by show 1<=sizeLine;decide,ke (λh=>hz2 h.2) _ s1⟩
  rw[bE (show z<((([1,2,4,8]:List Int).map V.int).length:Nat)from hz2)];refine bF ?_;obtain⟨wd,rfl⟩:∃n:Nat,z=n:=⟨z.toNat,by omega⟩;have hw:wd<4:=by omega
  have kk:=kk ⟨hz1,hz2⟩;rw[bX]at kk;dsimp only;show cU _ _ _ [some (.int (wd:Int)),none,none,none] _;refine λd hd=>⟨by show 1<=sizeLine;decide,λt ht=>⟨(Same.put ht) _ _ av,rfl,t,[0],rfl,av,?_⟩⟩;have hd0:H d=none:=Same.noneF s1 hd;have I0:fZ P w (upd (upd (upd H1 d (.dT [])) t (.tup [.int 0])) d (cV P w d [([0],t)])) d (Fl.cE 0):=⟨_,av,λq hq=>by
   rw[bJ.mp hq];have hne:t≠d:=λz=>by rw[z,av]at ht;cases ht
   show upd _ d _ t=_;rw[ax hne];exact av,rfl⟩
  have S0:Same H (upd (upd (upd H1 d (.dT [])) t (.tup [.int 0])) d (cV P w d [([0],t)])):=FK hd0 (s1.trans ((Same.put hd).trans (Same.put ht)));dsimp only[bq];show cU _ _ _ [some (.int (wd:Int)),some (.ref d),none,none] _;obtain⟨m,hm1,VG,em,eg⟩:∃m:Nat,1<=m/\m<=8/\m=2 ^ wd/\(([1,2,4,8]:List Int).map V.int)[wd]?=some (.int (m:Int)):=by
   match wd,hw with
   |0,_=>exact⟨1,by decide,by decide,rfl,rfl⟩
   |1,_=>exact⟨2,by decide,by decide,rfl,rfl⟩
   |2,_=>exact⟨4,by decide,by decide,rfl,rfl⟩
   |3,_=>exact⟨8,by decide,by decide,rfl,rfl⟩
  refine⟨_,rfl,rc,_,_,_,rfl,rfl,Bf _,bp eg,_,_,rfl,⟨by omega,by omega,by omega,by omega⟩,jx (lo:=1) (n:=((m:Int) - 1).toNat) (λi σ H2=>∃(v2 v3:Option V),σ = [some (.int (wd:Int)),some (.ref d),v2,v3]/\Same H H2/\fZ P w H2 d (Fl.cE i)) ⟨none,none,rfl,S0,I0⟩ ?_ ?_⟩
  ·rintro i σ H2 hi ⟨v2,v3,rfl,s2,xs,hx,kt,en⟩
   dsimp only[bq];have Mv:i<8:=by omega
   obtain⟨V1,zg⟩:=K3 Mv;refine⟨_,rfl,d,xs,rfl,hx,λl hl=>?_⟩;have MT:l≠d:=λz=>by rw[z,hx]at hl;cases hl
   have hlen:xs.length=(Fl.cE i).length:=fZ.len (P:=P) (w:=w) (H2:=H) (d:=d) en;refine⟨l,rfl,⟨_,ao.of av⟩,kL (K:=K) (a:=l) (xs:=(xs.map (·.2)).map V.ref) (λj σ H4=>∃(v3:Option V),σ = [some (.int (wd:Int)),some (.ref d),some (.int (1+(i:Int))),v3]/\Same H H4/\H4 l=some (.lst ((xs.map (·.2)).map V.ref))/\dk H4 xs/\fZ P w H4 d ((((Fl.cE i).map λg=>Fl.fw g (1+i)).take j).foldl Fl.aR (Fl.cE i)))
    ⟨v3,rfl,s2.trans (Same.put hl),av,dk.same kt (Same.put hl),xs,(Same.put hl) _ _ hx,dk.same kt (Same.put hl),en⟩ (λj σ H4 _ ⟨_,_,_,h4,_⟩=>ao.of h4) ?_ ?_⟩
   ·rintro j x σ H4 nE ⟨v3,rfl,s4,h4,vN,ys,hy,CJ,ey⟩
    dsimp only[bq];rw[bT,bT]at nE;obtain⟨q,hq,rfl⟩:∃q,xs[j]?=some q/\x = .ref q.2:=by
     cases z:xs[j]? with
     |none=>rw[z]at nE;cases nE
     |some q=>rw[z]at nE;exact⟨q,rfl,by simpa using nE.symm⟩
    obtain⟨hj,eq⟩:=cw.mp hq;have vw:j<(Fl.cE i).length:=by omega
    have Ko:q.1=Fl.nI (Fl.cE i)[j]:=by
     have h1:(xs.map (·.1))[j]?=some q.1:=by rw[bT,hq];rfl
     rw[en,bT,aK vw]at h1;exact(d5 h1).symm
    obtain⟨g8,gx⟩:=zg _ (j7 vw);have Ni:H4 q.2=some (.tup ((Fl.cE i)[j].map nV)):=by
     have:=vN q (cX hq)
     rwa [Ko,wc]at this
    refine⟨_,rfl,_,rfl,_,rfl,q.2,(Fl.cE i)[j],1+i,?_,Ni,g8,gx,by omega,λb H5 s5 hb0 hb=>?_⟩
    ·show[V.ref q.2,V.int (1+(i:Int))] = [V.ref q.2,V.int ((1+i:Nat):Int)]
     rw[show((1+i:Nat):Int)=1+(i:Int)by omega]
    have vE:=s5 _ _ hy;have kR:=s5 _ _ h4;have CG:=dk.same vN s5;have hyl:=fZ.len (P:=P) (w:=w) (H2:=H) (d:=d) ey;have hb':H5 b=some (.tup ((Fl.nI (Fl.fw (Fl.cE i)[j] (1+i))).map V.int)):=by rw[wc];exact hb
    have hbound:=Aq (((Fl.cE i).map λg=>Fl.fw g (1+i)).take j) (Fl.cE i);have htl:(((Fl.cE i).map λg=>Fl.fw g (1+i)).take j).length<=16:=by rw[oW,ay];omega
    refine⟨rfl,d,b,ys,_,rfl,rfl,vE,dk.same CJ s5,hb',by omega,?_⟩;refine⟨_,rfl,FK hd0 (s4.trans s5),?_,λq hq=>?_,?_⟩
    ·rw[ax MT];exact kR
    ·have hne:q.2≠d:=λz=>by have:=CG q hq;rw[z,vE]at this;cases this
     rw[ax hne];exact CG q hq
    ·have:=fZ.put vE (dk.same CJ s5) ey hb'
     rw[List.take_add_one,bT,aK vw,yu];exact this
   ·rintro σ H4 ⟨v3,rfl,s4,h4,vN,hI⟩
    refine⟨_,_,rfl,s4,?_⟩;rw[K4];rw[Ip (by simp;omega)]at hI;exact hI
  ·rintro σ H2 ⟨v2,v3,rfl,s2,xs,hx,kt,en⟩
   have eF:Fl.cE ((m:Int) - 1).toNat=Fl.found wd:=by
    unfold Fl.found;rw[<- em]
    congr 1
    omega
   rw[eF]at en;obtain⟨FP⟩:Nonempty (Fl.tm wd (Fl.found wd)):=⟨Fl.K5 hw⟩;have hlen:xs.length=(Fl.found wd).length:=fZ.len (P:=P) (w:=w) (H2:=H) (d:=d) en;have Vy:(Fl.found wd).length<=16:=by rw[FP.perm.length_eq];exact(Fl.Am hw).2
   have hpr:Paired (λ(g:List Int) (t:Addr)=>H2 t=some (.tup (g.map V.int))) (xs.map (·.1)) (xs.map (·.2)):=Cv kt;refine⟨_,rfl,s2 _ _ hP,d,xs,xs.map (·.2),(Fl.found wd).map (Fl.rk wd),((xs.map (·.1)).zip (xs.map (·.2))).map (λq=>[.int (q.1.length:Int),.ref q.2]),rfl,hx,rfl,by rw[ay];omega,by rw[ay,ay];omega,by rw[ay,yB,ay,ay];omega,λH3 s3=>⟨?_,?_,?_⟩⟩
   ·refine Uw (hl:=Paired.di hpr λ_ _ h=>s3 _ _ h) hu2 λi j a b ha hb=>?_
    rw[en,bT]at ha hb;obtain⟨g,hg,rfl⟩:=o9.mp ha;obtain⟨g',hg',rfl⟩:=o9.mp hb;rw[Fl.Ot,FP.lt g (cX hg) g' (cX hg'),aQ,aQ,bT,bT,hg,hg'];rfl
   ·intro i y ws hy hws H4 s4
    rw[bT,bT]at hy;obtain⟨a,ha,rfl⟩:=o9.mp hy;obtain⟨q,hq,rfl⟩:=o9.mp ha;rw[bT]at hws;obtain⟨q2,hq2,rfl⟩:=o9.mp hws;obtain⟨z1,z2⟩:=yx.mp hq2;rw[bT,hq]at z1 z2;have hk:=s4 _ _ (s3 _ _ (kt q (cX hq)));refine⟨_,rfl,q.2,_,rfl,.inr (aJ.of hk),_,rfl,by show 2<=sizeLine;decide,λp hp=>⟨⟨p,rfl,?_⟩,Same.put hp⟩⟩;rw[av,ay,<- d5 z1,<- d5 z2]
   ·intro ys r H4 s4 vA h4 hS
    exact kk r H4 (s2.trans (s3.trans s4)) (Same.noneF (s2.trans s3) vA) ⟨ys,h4,Fl.Te hw FP (Cu en (dk.same kt (s3.trans s4))) hS⟩
noncomputable def xG(C Ps Pu cN:Addr):Sp:=λvs H Q E=>∃z:Int,vs = [.int z]/\H Ps=some (.lam kJ kK)/\H Pu=some (.lam oB oC)/\(eT z->∀x H',Same H H'->tX C H' x (Fl.bL z.toNat).length (Fl.lC z.toNat)->Q (.ref x) H')/\(¬ eT z->∀H',Same H H'->E (.ref cN) none H')
theorem Qp {C c Ps Pu cN:Addr} (F:aO K "sums_order" "sums_order" ox f fd) (hc:fd.code = .ref c) (tb:TabAt base mg c Pu) (T:Txt mg) (TC:oI K C) (kF:eE P w K mg base "fields_of" ["width"] 3 (rS Ps cN)) (kB:j0 P w K mg "order_by" ["things","is_at_most"] 7 1 2 (r9 K C)):aL P w K mg base (aZ P w) 8 f fd ["width"] (xG C Ps Pu cN):=by
 refine F.wA hc GC (λvs H Q E h=>?_) (λA outer s H vs Q E hr h=>?_)
 ·obtain⟨z,rfl,_⟩:=h
  rfl
 ·obtain⟨z,rfl,Mj,hP,kk,ke⟩:=h
  have nd:=GC.nd;refine⟨_,(aA (bC (QG (qs:=["one","other"]) kB tb rfl hr rfl ⟨⟨rfl,rfl,rfl,by decide +kernel,rfl,by decide +kernel,by decide +kernel⟩,rfl,λ_ _ _ us hl=>match us,hl with | [_,_],_=>rfl,λ_ _ _ _ _ _ _ VL=>(bB (JB (K:=K) rfl rfl) rfl T.all boot_all (ag (dS (own:=["row"]) (fr:=[("other", 1)]) rfl (cM Tv ["one","other"] rfl rfl (by decide +kernel)) (qT (K:=K) rfl (pv 0)) (λ_ _ _ _=>⟨(bx (i:=0) (by decide +kernel:(["row","other"]:List Str).Nodup) rfl (Or.inl rfl)),eX,(wO (Qu (K:=K) rfl) (pv 0) (pv 1) (by with_unfolding_all rfl))⟩)) ai))⟩ qN rfl (lu kF E_ hr rfl (ag (pv 0) ai))))),?_⟩;refine⟨_,rfl,z,rfl,Mj,λok lb H1 s1 MP hF=>?_,ke⟩;have kk:=kk ok;obtain⟨wd,rfl⟩:∃n:Nat,z=n:=⟨z.toNat,by have:=ok.1;omega⟩;have hw:wd<4:=by have:=ok.2;omega
  rw[bX]at kk hF;obtain⟨us,hlb,vy⟩:=hF;refine⟨s1 _ _ hP,λq H2 s2 hq jC=>?_⟩;have lA:=s1.trans s2;have nB:us.length=(Fl.bL wd).length:=(dF vy).symm;obtain⟨l1,l2⟩:=Fl.Am hw;refine⟨q,jC,lb,us,Fl.lC wd,rfl,ao.of (s2 _ _ hlb),by omega,by omega,⟨_,_,_,_,_,jC⟩,by rw[nB];exact LW hw,λi j x y H' Q' hx hy s' hQ=>⟨jC.same s',?_⟩,λz H' s' ni=>kk z H' (lA.trans s') (by rw[nB]at ni;exact ni)⟩;obtain⟨g1,hg1,t1,rfl,h1⟩:=wI vy hx;obtain⟨g2,hg2,t2,rfl,h2⟩:=wI vy hy;have h1':=s' _ _ (s2 _ _ h1);have h2':=s' _ _ (s2 _ _ h2);obtain⟨a1,a2⟩:=Fl.KZ hw (cX hg1);refine⟨_,rfl,t1,rfl,⟨_,aJ.of h1'⟩,λD hD=>iT (λk=>.bl (g2.contains (g1.getD k 0))) (sj (aJ.of h1')) hD (dY (by rw[ay];omega)) (λk H3 Kt hk hs hkt=>?_) (λH3 hs hl=>?_)⟩
  ·rw[ay]at hk
   have ek:(g1.map nV).getD k .non=nV (g1.getD k 0):=by rw[aQ,Du hk];rfl
   refine⟨_,rfl,_,rfl,t2,_,rfl,.inr (aJ.of (hs _ _ h2')),by rw[ek];rfl,Al _,?_⟩;rw[ek];show Kt (.bl (inV (nV (g1.getD k 0)) (g2.map nV))) H3;rw[Nz];exact hkt _ (Same.refl _)
  ·refine⟨D,(List.range (g1.map nV).length).map λk=>g2.contains (g1.getD k 0),rfl,ao.of (by rw[dn];exact hl),?_⟩
   have e:(((List.range (g1.map nV).length).map λk=>g2.contains (g1.getD k 0)).all id)=Fl.lC wd i j:=by
    unfold Fl.lC Fl.xO;rw[aQ,hg1,aQ,hg2,ay,all_range g1 λx=>g2.contains x];rfl
   rw[e];exact hQ _ hs
end
noncomputable def iW(m:Nat)(z:Int):Prop:=if m<2 then ez z else eT z
instance (m:Nat) (z:Int):Decidable (iW m z):=by unfold iW;exact inferInstance
noncomputable def jV (m:Nat) (z:Int):Str:=if iW m z then "" else "NoNumber"
section
variable {P:Program} {w:World} {K:W.Frag} {mg:Str->Option Value} {base:Heap} {f:Addr} {fd:FuncData} {a0 a1 a2 a3 a4 a5 a6 a7 a8 a9 a10 a11 a12 a13 a14 aE:Addr}
abbrev xj:Stmt:=top 54
theorem Gg:bf ["_law_way","_law_number","_law_kept","_law_e"] ["_law_way","_law_number"] (aq xj):=⟨rfl,rfl,rfl,by decide +kernel,rfl,by decide +kernel,by decide +kernel⟩
noncomputable def xv(Pt Ps Pu:Addr):Sp:=λvs H Q _=>∃(m:Nat) (z:Int),vs = [.int m,.int z]/\m<4/\H Pt=some (.lam mZ m6)/\H Ps=some (.lam kJ kK)/\H Pu=some (.lam oB oC)/\∀H',Same H H'->Q (.str (jV m z)) H'
theorem Qc {C Pt Ps Pu:Addr} (F:aO K "_law_asked" "_law_asked" xj f fd) (T:Txt mg) (Er:lN mg a0 a1 a2 a3 a4 a5 a6 a7 a8 a9 a10 a11 a12 a13 a14 aE) (lz:ki K a0 a1 a2 a3 a4 a5 a6 a7 a8 a9 a10 a11 a12 a13 a14 aE a8 8)
  (kE:eE P w K mg base "dividers" ["number"] 2 (rO a8)) (uK:eE P w K mg base "dividing" ["number"] 8 (xA C Pt a8)) (kF:eE P w K mg base "fields_of" ["width"] 3 (rS Ps a8)) (uL:eE P w K mg base "sums_order" ["width"] 8 (xG C Ps Pu a8))
  (uE:aG P w K mg base "_law_kind" ["_law_e"] 1 (xx λC j=>ki K a0 a1 a2 a3 a4 a5 a6 a7 a8 a9 a10 a11 a12 a13 a14 aE C j)) :
  aL P w K mg base aW 9 f fd ["_law_way","_law_number"] (xv Pt Ps Pu):=by
 refine F.ok Gg (λvs H Q E h=>?_) (λcdv A outer s H vs Q E hr h=>?_)
 ·obtain⟨m,z,rfl,_⟩:=h
  rfl
 ·obtain⟨m,z,rfl,hm,nj,hP2,vq,kk⟩:=h
  have nd:=Gg.nd;obtain⟨XE,Bh⟩:∃XE:XK,XE=λcls dx H'=>Same H H'/\cls = .ref a8/\dx=none/\¬ iW m z:=⟨_,rfl⟩;have bad:¬ iW m z->∀H',Same H H'->XE (.ref a8) none H':=λh H' s'=>by rw[Bh];exact⟨s',rfl,rfl,h⟩
  have fine:iW m z->∀H',Same H H'->Q (.str "") H':=λh H' s'=>by
   have:=kk H' s';unfold jV at this;rw[if_pos h]at this;exact this
  refine⟨_,(aF (aS (i:=2) nd rfl (Or.inl rfl) qP)
   (aF (Rh (i:=3) (XE:=XE) nd rfl rfl rfl Er.ClimbError rfl rfl rfl (λpins=>(aA (cp (bR fU (pv 0) ak (bN _)) (aA (dU (lu kE qO hr rfl (ag (pv 1) ai)))) (aA (cp (bR fU (pv 0) ak (bN _)) (aA (dU (lu uK qO hr rfl (ag (pv 1) ai)))) (aA (cp (bR fU (pv 0) ak (bN _)) (aA (dU (lu kF qO hr rfl (ag (pv 1) ai)))) (aA (dU (lu uL qO hr rfl (ag (pv 1) ai))))))))))) (λe=>(aA (aS (i:=2) nd rfl (Or.inl rfl) (pv 3)))))
   (aF (cp (bR wD (pv 2) qP (bN _)) (aA (bC gF)) c7)
   (aA (bC (bw uE hr rfl (ag (pv 2) ai))))))),?_⟩
  refine⟨?_,λcls dx H' hx=>?_⟩
  ·match m,hm with
   |0,_ =>
    refine⟨_,rfl,rfl,_,rfl,dv ⟨_,rfl,z,rfl,λok L H1 s1 _ _=>?_,λno H1 s1=>bad no H1 s1⟩⟩;exact⟨_,rfl,rfl,_,rfl,dv (fine ok _ s1)⟩
   |1,_ =>
    refine⟨_,rfl,rfl,_,rfl,bF ⟨_,rfl,rfl,_,rfl,dv ⟨_,rfl,z,rfl,nj,λok L H1 s1 _=>?_,λno H1 s1=>bad no H1 s1⟩⟩⟩;exact⟨_,rfl,rfl,_,rfl,dv (fine ok _ s1)⟩
   |2,_ =>
    refine⟨_,rfl,rfl,_,rfl,bF ⟨_,rfl,rfl,_,rfl,bF ⟨_,rfl,rfl,_,rfl,dv ⟨_,rfl,z,rfl,hP2,λok L H1 s1 _ _=>?_,λno H1 s1=>bad no H1 s1⟩⟩⟩⟩;exact⟨_,rfl,rfl,_,rfl,dv (fine ok _ s1)⟩
   |3,_ =>
    refine⟨_,rfl,rfl,_,rfl,bF ⟨_,rfl,rfl,_,rfl,bF ⟨_,rfl,rfl,_,rfl,bF ⟨_,rfl,z,rfl,hP2,vq,λok L H1 s1 _=>?_,λno H1 s1=>bad no H1 s1⟩⟩⟩⟩;exact⟨_,rfl,rfl,_,rfl,dv (fine ok _ s1)⟩
  ·rw[Bh]at hx
   obtain⟨s1,rfl,rfl,hno⟩:=hx;refine⟨a8,rfl,lz.KQ,λe he=>⟨_,rfl,?_⟩⟩;refine⟨_,rfl,rfl,_,rfl,bF ⟨_,rfl,e,a8,8,rfl,⟨none,av,λa q=>nomatch q⟩,lz,by decide,λH3 s3=>?_⟩⟩;have:=kk H3 ((s1.trans (Same.put he)).trans s3);unfold jV at this;rw[if_neg hno]at this;exact this
end
end My
namespace L2
open PySem PySem.Spec PyProof.Rows
abbrev Tab:=Addr × Addr × Pos × Str
noncomputable def eA(tabs:List Tab)(b:Addr):Option HO:=(tabs.find? λt=>decide (t.2.1=b)).map λt=>.lam t.2.2.1 t.2.2.2
noncomputable def mF(tabs:List Tab)(H:Hp):Prop:=∀b o,eA tabs b=some o->H b=some o
theorem Hk{tabs:List Tab}{b:Addr}{o:HO}(h:eA tabs b=some o):∃t∈tabs,t.2.1=b/\o = .lam t.2.2.1 t.2.2.2:=by
 unfold eA at h;cases e:tabs.find? λt=>decide (t.2.1=b)with
 |none=>rw[e]at h;cases h
 |some t =>
  rw[e]at h;cases h;exact⟨t,List.mem_of_find?_eq_some e,nX (List.find?_some (p:=λt:Tab=>decide (t.2.1=b)) e),rfl⟩
theorem Oo{P:Program}{w:World}{K:W.Frag}{mg mb:Str->Option Value}{CX:eD}{k:Nat}{fa a:Addr}{fd:FuncData}{x:Str}{sp:Sp}{s₁:Shared}{vs:List Value}{ns:List Int}{tabs:List Tab}
  (KX:K.In s₁.heap) (hns:s₁.heap.Ns mainGlobals mg) (hb:s₁.heap.Ns builtinsNs mb) (hbb:∀x:Str,x ≠ "__name__" -> mb x=bootBuiltins x) (hlim:s₁.heap.NoLimit) (hg:s₁.gens = #[])
  (hbm:∃bm ob,mg "__builtins__" = some (.ref bm)/\bm≠builtinsNs/\s₁.heap.get? bm=some ob/\ob.cls = .type "module" /\ ob.dict=some builtinsNs/\ob.data = .plain)
  (hT:∀t∈tabs,W.CodeHd s₁.heap t.1 t.2.1/\s₁.heap.get? t.2.1=some (W.tabObj #[])) (Mg:W.noTabs K=true)
  (ha:s₁.heap.get? a=some {cls:=.type "list", data:=.seq vs.toArray}) (hi:IntsAre vs ns) (hl:ns.length<=sizeLine) (hr:aV k callerA)
  (F:∀base:Heap,K.In base->base.Ns mainGlobals mg->(∀t∈tabs,TabAt base mg t.1 t.2.1)->aL P w K mg base CX k fa fd [x] sp) (hbind:∀(s:Shared) (u:Value),BindsTo s fd ⟨[u],[]⟩ [(x,u)])
  (hsp:∀H:Hp,ao K H a (ns.map V.int)->mF tabs H->sp [.ref a] H (λv H'=>v = .bl true/\mF tabs H') λ_ _ _=>False)
  (vn:∀H e s',CX [] H s₁ (λ_ _ _=>False) e s'->False) :
  codeAny (model P w) callerA (.call (.ref fa) ⟨[.ref a],[]⟩) (λr s'=>r = .ok (.ret (.bool true))/\OldK s₁.heap s'.heap/\s'.os=s₁.os/\AllBare s'.gens) s₁:=by
 have rv:=sJ hi;have lenV:=hi.length;have lE:∀{b:Addr} {o:HO},eA tabs b=some o->∃t∈tabs,t.2.1=b/\o = .lam t.2.2.1 t.2.2.2/\s₁.heap.get? b=some (W.tabObj #[]):=λ{b o} e=>by
  obtain⟨t,h1,h2,h3⟩:=Hk e;exact⟨t,h1,h2,h3,by rw[<- h2];exact(hT t h1).2⟩
 have aT:eA tabs a=none:=by
  cases e:eA tabs a with
  |none=>rfl
  |some o =>
   obtain⟨_,_,_,_,q⟩:=lE e;rw[ha]at q;cases q
 have KT:∀b o,eA tabs b=some o->K.lookup b=none:=λb o e=>by
  obtain⟨_,_,_,_,q⟩:=lE e;cases hk:K.lookup b with
  |none=>rfl
  |some ob =>
   have e2:=KX b ob hk;rw[q]at e2;cases e2;have h2:=fh.mp Mg (b,_) (W.mem_of_lookupK hk);exact absurd (show false=true from h2) Bool.false_ne_true
 have core:∀H:Hp,(∀b o,H b=some o->eA tabs b=some o\/(b=a/\∃o' xs,o = .bY o' (.lst xs)))->mF tabs H->ao K H a (ns.map V.int)->aU P w H s₁.heap->(H a≠none->K.lookup a=none) ->
   codeAny (model P w) callerA (.call (.ref fa) ⟨[.ref a],[]⟩) (λr s'=>r = .ok (.ret (.bool true))/\OldK s₁.heap s'.heap/\s'.os=s₁.os/\AllBare s'.gens) s₁:=by
  intro H hO jD hS hok hK;have free:∀{b:Addr} {o:Obj},s₁.heap.get? b=some o->o.cls≠.none->o.cls≠.type "list" -> H b=none:=λ{b o} e c1 c2=>by
   cases q:H b with
   |none=>rfl
   |some u =>
    rcases hO b u q with z|⟨z,_⟩
    ·obtain⟨_,_,_,_,z2⟩:=lE z
     rw[e]at z2;cases z2;exact absurd rfl c1
    ·rw[z,ha]at e;cases e
     exact absurd rfl c2
  have pG:∀{b:Addr} {o:Obj},s₁.heap.get? b=some o->H b=none->(eh s₁.heap H).get? b=some o:=λe n=>vv e n;have iu:∀{b:Addr} {o:Obj} {es:Array DictEntry} {ep:Nat},s₁.heap.get? b=some o->o.data = .dict es ep->H b=none:=λ{b o es ep} e d=>by
   cases q:H b with
   |none=>rfl
   |some u =>
    rcases hO b u q with z|⟨z,_⟩
    ·obtain⟨_,_,_,_,z2⟩:=lE z
     rw[e]at z2;cases z2;cases d
    ·rw[z,ha]at e;cases e
     cases d
  have qG:∀{b:Addr} {m:Str->Option Value},s₁.heap.Ns b m->(eh s₁.heap H).Ns b m:=λ{b m} ⟨o,es,ep,e,d,r⟩=>⟨o,es,ep,pG e (iu e d),d,r⟩;have A_:K.In (eh s₁.heap H):=λb o e=>pG (KX b o e) (by
   cases q:H b with
   |none=>rfl
   |some u =>
    rcases hO b u q with z|⟨z,_⟩
    ·rw[KT b u z]at e;cases e
    ·subst z
     rw[hK (by rw[q];simp)]at e;cases e)
  have hM:Mod K mg (eh s₁.heap H):=⟨A_,qG hns,⟨mb,qG hb,hbb⟩,let⟨mc,h1,h2⟩:=hlim;⟨mc,qG h1,h2⟩⟩;have e0:eG P w K mg (eh s₁.heap H) callerA [] s₁ H:=⟨rfl,hM,λb o e=>wy e,lX (Bm _ _),trivial,λb hb=>absurd (show b∈([]:List Addr)from hb) (by simp),hok,.of_eq hg⟩;have Mp:∀t∈tabs,TabAt (eh s₁.heap H) mg t.1 t.2.1:=λt ht=>by
   refine⟨?_,?_⟩
   ·obtain⟨o,vs,file,tf,flags,tg,inF,text,tt,q1,q2,r⟩:=(hT t ht).1
    exact⟨o,vs,file,tf,flags,tg,inF,text,tt,pG q1 (free q1 (by rw[q2];intro z;cases z) (by rw[q2];decide)),q2,r⟩
   ·obtain⟨bm,ob,q1,q2,q3,q4,r⟩:=hbm
    exact⟨bm,ob,q1,q2,pG q3 (free q3 (by rw[q4];intro z;cases z) (by rw[q4];decide)),q4,r⟩
  refine eL ((F _ A_ (qG hns) Mp).run callerA [] s₁ H ⟨[.ref a],[]⟩ [.ref a] [.ref a] _ _ hr e0 (hbind s₁ (.ref a)) (.cons rfl .nil) (hsp H hS jD)) λr s' h=>?_;cases r with
  |error e=>exact(vn H e s' h).elim
  |ok fl =>
   cases fl with
   |next=>exact False.elim h
   |brk=>exact False.elim h
   |cont=>exact False.elim h
   |ret u =>
    obtain⟨v,H',os,bare,un,hok',r',q,hT'⟩:=h;have q':v = .bl true:=q;subst q';obtain rfl:u=Value.bool true:=r';have key:∀b o,s₁.heap.get? b=some o->s'.heap.get? b=some o\/(isCodeTable s₁.heap b/\o=W.tabObj #[]/\∃ps,s'.heap.get? b=some (W.tabObj ps)):=λb o e=>by
     cases q:H b with
     |none=>exact .inl (un.keep b o e q (by intro z;exact absurd (show b∈([]:List Addr)from z) (by simp)) (by simp))
     |some u =>
      rcases hO b u q with z|⟨rfl,ob,xs,rfl⟩
      ·obtain⟨t,t1,t2,t3,z2⟩:=lE z
       rw[e]at z2;cases z2;subst t3;obtain⟨ps,p1,_⟩:=(show aN P w H' s'.heap b (.lam t.2.2.1 t.2.2.2)from hok' b _ (hT' b _ z));refine .inr ⟨?_,rfl,ps,p1⟩;have:=((hT t t1).1.tab (hT t t1).2).isCodeTable;rw[t2]at this;exact this
      ·have z2:=un.dM b ob _ q
       obtain⟨e1,_⟩:=hok b _ q;obtain⟨e2,_⟩:=hok' b _ z2;rw[e]at e1;cases e1;exact .inl e2
    refine⟨rfl,⟨λb o e=>?_,λb o e=>?_⟩,os,bare⟩
    ·rcases key b o e with z|⟨z1,rfl,ps,z2⟩
     ·exact .inl z
     ·exact .inr (.inl ⟨z1,rfl,#[],ps,rfl,by rw[Array.empty_append];exact z2⟩)
    ·rcases key b o e with z|⟨_,_,ps,z2⟩
     ·exact⟨o,z⟩
     ·exact⟨_,z2⟩
 have Hh:∀(H:Hp) b o,eA tabs b=some o->aN P w H s₁.heap b o:=λH b o e=>by
  obtain⟨t,_,_,rfl,q⟩:=lE e;exact⟨#[],q,trivial,λcv z=>by cases z⟩
 cases hk:K.lookup a with
 |some o =>
  have e:=KX a o hk;rw[ha]at e;cases e;exact core (eA tabs) (λb o e=>.inl e) (λb o e=>e) (.inr ⟨_,vs.toArray,_,hk,rfl,rfl,rfl,by rw[bz,lenV];exact hl,by simpa using rv⟩) (λb u z=>Hh _ b u z) λz=>absurd aT z
 |none =>
  refine core (λb=>if b=a then some (.bY {cls:=.type "list", data:=.seq vs.toArray} (.lst (ns.map V.int)))else eA tabs b) (λb o e=>?_) (λb o e=>?_) (.inl (.inr ⟨{cls:=.type "list", data:=.seq vs.toArray},if_pos rfl⟩)) (λb u z=>?_) λ_=>hk
  ·by_cases hb:b=a
   ·have z':=(if_pos hb).symm.trans e
    cases z';exact .inr ⟨hb,_,_,rfl⟩
   ·exact .inl ((if_neg hb).symm.trans e)
  ·have hb:b≠a:=λz=>by rw[z,aT]at e;cases e
   exact(if_neg hb).trans e
  ·by_cases hb:b=a
   ·have z':=(if_pos hb).symm.trans z
    cases z';subst hb;exact⟨ha,by rw[ay];exact hl,vs,_,rv,ha⟩
   ·exact Hh _ b u ((if_neg hb).symm.trans z)
theorem U7{l:W.OpenLaw}{n k:Nat}{q:Program}{loose:List Str}{XP:(Str->Option Value)->Heap->Prop}{YP:World->Heap->Prop}{d:DefRec}{K:Params->W.Frag}{CX:World->eD}{sp:World->Sp}{x:Str}{tabs:List Tab}(hn:l.most=some n)(hn2:n<=sizeLine)(hdf:d.params.defaults = [])(hr:aV k callerA)(hY:∀(w:World) (h:Heap),YP w h->(K w.params).In h)(hT:∀(w:World) (h:Heap),YP w h->(∀t∈tabs,W.codeHdIn (K w.params) t.1 t.2.1=true/\h.get? t.2.1=some (W.tabObj #[]))/\W.noTabs (K w.params)=true)(F:∀(w:World) (mg:Str->Option Value) (fa:Addr) (h:Heap),(K w.params).In h->h.Ns mainGlobals mg->mg d.name=some (.ref fa)->∃fd:FuncData,(∀(s:Shared) (u:Value),BindsTo s fd ⟨[u],[]⟩ [(x,u)])/\∀base:Heap,(K w.params).In base->base.Ns mainGlobals mg->(∀t∈tabs,TabAt base mg t.1 t.2.1)->aL l.prog w (K w.params) mg base (CX w) k fa fd [x] (sp w))(hsp:∀(w:World) (H:Hp) (a:Addr) (ns:List Int),ns.length<=n->ao (K w.params) H a (ns.map V.int)->mF tabs H->sp w [.ref a] H (λv H'=>v = .bl true/\mF tabs H') λ_ _ _=>False)(vn:∀(w:World) (H:Hp) (s:Shared) (e:Value) (s':Shared),CX w [] H s (λ_ _ _=>False) e s'->False):W.WalkO q loose XP YP l.row.toRowW d [] (λf vs=>PySem.call f vs):=by
 refine yi.Jj hn hdf λw s₀ s₁ mg mb fa o pm cd doc a vs ns G Y ho hd hcd hmg hobj hints hlen hg=>?_;have KX:=hY w _ Y;obtain⟨fd,hb,hF⟩:=F w mg fa _ KX G.T.g hmg;obtain⟨t1,t2⟩:=hT w _ Y;exact Oo KX G.T.g G.T.b G.T.builtins G.T.nolimit hg G.T.bmain (λt ht=>⟨W.codeHd_of_K KX (t1 t ht).1,(t1 t ht).2⟩) t2 hobj hints (cy hlen hn2) hr hF hb (λH hS jD=>hsp w H a ns hlen hS jD) λH e s'=>vn w H s₁ e s'
end L2
namespace My
open PySem PySem.Spec PyProof.Rows L2
theorem JT{K:W.Frag}{x:Str}{c Pt f:Addr}{st:Stmt}{fd:FuncData}(ht:W.tabIn K x=some (c,Pt))(a:W.nsIn K mainGlobals x=some (some (.ref f)))(F:aO K x x st f fd):fd.code = .ref c:=by
 obtain⟨oc,od,kV,doc,pm,an,cdv,ct,osl,rfl,lk,hcd⟩:=F.ex;unfold W.tabIn at ht;rw[a]at ht;simp only[lk]at ht;show cdv = .ref c;cases cdv with
 |ref c2 =>
  dsimp only at ht
  split at ht
  ·split at ht
   ·cases ht;rfl
   ·cases ht
  ·cases ht
 |_=>cases ht
theorem xS{K:W.Frag}{x:Str}{f c P:Addr}{oc co:Value}{od cd':Option Addr}{fd:FuncData}{osl sl:Array (Option Value)}{vs:Array Value}(a:W.nsIn K mainGlobals x=some (some (.ref f)))(l:K.lookup f=some ⟨oc,od,.func fd,osl⟩)(hc:fd.code = .ref c)(l2:K.lookup c=some ⟨co,cd',.fields vs,sl⟩)(hv:(vs[11]?:Option Value)=some (.ref P)):W.tabIn K x=some (c,P):=by
 unfold W.tabIn;rw[a];simp only[l,hc,l2,hv]
noncomputable def rW(K:W.Frag)(Pt Ps Pu:Addr):Sp:=λvs H Q _=>∃(a:Nat) (ns:List Int),vs = [.ref a]/\ao K H a (ns.map V.int)/\ns.length<=63/\H Pt=some (.lam mZ m6)/\H Ps=some (.lam kJ kK)/\H Pu=some (.lam oB oC)/\∀H',H' Pt=some (.lam mZ m6)->H' Ps=some (.lam kJ kK)->H' Pu=some (.lam oB oC)->Q (.bl true) H'
theorem U6{l:W.OpenLaw}{q:Program}{loose:List Str}{XP:(Str->Option Value)->Heap->Prop}{YP:World->Heap->Prop}{d:DefRec}{K:Params->W.Frag}{c Pt c1 Ps c2 Pu:Addr}(hn:l.most=some 63)(hdf:d.params.defaults = [])(hY:∀(w:World) (h:Heap),YP w h->(K w.params).In h/\h.get? Pt=some (W.tabObj #[])/\h.get? Ps=some (W.tabObj #[])/\h.get? Pu=some (W.tabObj #[]))(hT:∀w:World,W.codeHdIn (K w.params) c Pt=true)(hT1:∀w:World,W.codeHdIn (K w.params) c1 Ps=true)(hT2:∀w:World,W.codeHdIn (K w.params) c2 Pu=true)(hno:∀w:World,W.noTabs (K w.params)=true)(hne:Pt≠Ps/\Pt≠Pu/\Ps≠Pu)(F:∀(w:World) (mg:Str->Option Value) (fa:Addr) (h:Heap),(K w.params).In h->h.Ns mainGlobals mg->mg d.name=some (.ref fa) ->
   ∃fd:FuncData,(∀(s:Shared) (u:Value),BindsTo s fd ⟨[u],[]⟩ [("_law_script", u)])/\∀base:Heap,(K w.params).In base->base.Ns mainGlobals mg->TabAt base mg c Pt->TabAt base mg c1 Ps->TabAt base mg c2 Pu->aL l.prog w (K w.params) mg base aW 40 fa fd ["_law_script"] (rW (K w.params) Pt Ps Pu)) :
  W.WalkO q loose XP YP l.row.toRowW d [] (λf vs=>PySem.call f vs):=
 L2.U7 (n:=63) (k:=40) (x:= "_law_script") (CX:=λ_=>aW) (sp:=λw=>rW (K w.params) Pt Ps Pu) (tabs:=[(c,Pt,mZ,m6),(c1,Ps,kJ,kK),(c2,Pu,oB,oC)]) hn (by decide) hdf ⟨rfl,by decide,by decide,rfl⟩ (λw h Y=>(hY w h Y).1)
  (λw h Y=>⟨λt ht=>by
   rcases aP.mp ht with rfl|ht
   ·exact⟨hT w,(hY w h Y).2.1⟩
   ·rcases aP.mp ht with rfl|ht
    ·exact⟨hT1 w,(hY w h Y).2.2.1⟩
    ·obtain rfl:=bJ.mp ht
     exact⟨hT2 w,(hY w h Y).2.2.2⟩,hno w⟩)
  (λw mg fa h KX G hmg=>by
   obtain⟨fd,h1,h2⟩:=F w mg fa h KX G hmg;exact⟨fd,h1,λbase kb nb tb=>h2 base kb nb (tb _ (bO ..)) (tb _ (bI _ (bO ..))) (tb _ (bI _ (bI _ (bJ.mpr rfl))))⟩)
  (λw H a ns hl hS jD=>⟨a,ns,rfl,hS,hl,jD Pt _ (by unfold eA;simp),jD Ps _ (by unfold eA;simp[hne.1]),jD Pu _ (by unfold eA;simp[hne.2.1,hne.2.2]),λH' hP nj hP2=>⟨rfl,λb o e=>by
   obtain⟨t,t1,t2,t3⟩:=Hk e
   rcases aP.mp t1 with rfl|t1
   ·rw[<- t2,t3]
    exact hP
   ·rcases aP.mp t1 with rfl|t1
    ·rw[<- t2,t3]
     exact nj
    ·obtain rfl:=bJ.mp t1
     rw[<- t2,t3];exact hP2⟩⟩) λ_ _ _ _ _ z=>z
theorem aH.uH{P:Program}{w:World}{K:W.Frag}{mg:Str->Option Value}{base h:Heap}{x:Str}{st:Stmt}{ps:List Str}{k:Nat}{sp:Sp}{c Pt:Addr}(A:aH K x st)(X:K.In h)(G:h.Ns mainGlobals mg)(hb:sW x st ps)(ht:W.tabIn K x=some (c,Pt))(ok:∀{f:Addr} {fd:FuncData},aO K x x st f fd->fd.code = .ref c->aL P w K mg base (aZ P w) k f fd ps sp):eE P w K mg base x ps k sp:=by
 obtain⟨f,fd,a,F⟩:=A.ex;exact⟨f,fd,ok F (JT ht a F),W.mg_of X G a,F.kp,F.binds hb⟩
theorem J3 {K:W.Frag} {mg:Str->Option Value} {a:Addr} {od:Option Addr} {n:Nat} {t1 t2 t3 t4:Tok} {sl:Array (Option Value)} (e:mg "ROW_COUNTS" = some (.ref a)) (l:K.lookup a=some ⟨.type "tuple", od,.seq #[.int 1 t1,.int 2 t2,.int 4 t3,.int 8 t4] n,sl⟩):yj K mg:=
 ⟨a,e,λ_=>.inr ⟨_,_,_,l,rfl,rfl,by show 4<=sizeLine;decide,show Vals [.int 1,.int 2,.int 4,.int 8] [.int 1 t1,.int 2 t2,.int 4 t3,.int 8 t4]from .cons ⟨_,rfl⟩ (.cons ⟨_,rfl⟩ (.cons ⟨_,rfl⟩ (.cons ⟨_,rfl⟩ .nil)))⟩⟩
noncomputable def pP(r k:Nat):Nat:=if r<=1 then 0 else r+(r - k)+1
theorem Pp(f:List Nat)(c:Nat):(List.range (f.map nV).length).map (λj=>nV (f.getD j 0*c))=(f.map λx=>x*c).map nV:=by
 rw[ay,dn];apply jg
 ·simp
 ·intro i h1 h2
  simp only[ay,lU]at h1;simp[aQ,aK h1]
theorem GX:∀{l m:List Int},l.Perm m->l.Pairwise (·<=·)->m.Pairwise (·<=·)->l=m
 | [],m,h,_,_=>by rw[List.nil_perm.mp h]
 |a::l,[],h,_,_=>by have:=h.length_eq;simp at this
 |a::l,b::m,h,h1,h2=>by
  have p1:=tO.mp h1;have p2:=tO.mp h2;have hab:a=b:=by
   have ha:a∈b::m:=h.mem_iff.mp bO;have hb:b∈a::l:=h.mem_iff.mpr bO
   rcases aP.mp ha with e|ha
   ·exact e
   ·rcases aP.mp hb with e|hb
    ·exact e.symm
    ·exact ym (p1.1 b hb) (p2.1 a ha)
  subst hab;rw[GX (List.perm_cons a |>.mp h) p1.2 p2.2]
theorem jR{t u:TS}{D:Ends}{σ:L2.St}{H:Hp}(C:L2.St->Hp->Prop)(main:∀D':Ends,D'.rt=D.rt->(∀σ' H',C σ' H'->D'.nx σ' H')->t D' σ H)(rest:∀σ' H',C σ' H'->u D σ' H'):cU t u D σ H:=
 main {D with nx:=λσ' H'=>u D σ' H'} rfl rest
section
variable {P:Program} {w:World} {K:W.Frag} {mg:Str->Option Value} {base:Heap} {f:Addr} {fd:FuncData}
abbrev rF:Stmt:=top 51
theorem Gh:bf ["_law_number","_law_found","_law_rest","_law_k","_law_power","_law_grown"] ["_law_number"] (aq rF):=⟨rfl,rfl,rfl,by decide +kernel,rfl,by decide +kernel,by decide +kernel⟩
noncomputable def xD:Sp:=λvs H Q _=>∃n:Nat,vs = [.int (n:Int)]/\1<=n/\n<=1000000 /\
 ∀L ms H',Same H H'->H L=none->H' L=some (.lst (ms.map V.int))->ms.length=(Dv.divs n).length->((Dv.divs n).length<64->ms=(Dv.divs n).map λx:Nat=>(x:Int))->Q (.ref L) H'
theorem Qi (F:aO K "_law_dividers" "_law_dividers" rF f fd) (T:Txt mg):aL P w K mg base aW 1 f fd ["_law_number"] xD:=by
 refine F.ok Gh (λvs H Q E h=>?_) (λcdv A outer s H vs Q E hr h=>?_)
 ·obtain⟨n,rfl,_⟩:=h
  rfl
 ·obtain⟨n,rfl,h1,hn,kk⟩:=h
  have nd:=Gh.nd;have hr0:=hr.mono (cA 0);refine⟨_,(aF (aS (i:=1) nd rfl (Or.inl rfl) (c6 (ag ak ai)))
   (aF (aS (i:=2) nd rfl (Or.inl rfl) (pv 0))
   (aF (aS (i:=3) nd rfl (Or.inl rfl) ak)
   (aF (Fq d7 (bR wC (pv 2) ak (bN _))
   (aF (cp (bR wC (aD dR (pv 3) (pv 3)) (pv 2) (bN _)) (aA (aS (i:=3) nd rfl (Or.inl rfl) (pv 2))) c7)
   (aF (aS (i:=4) nd rfl (Or.inr rfl) ak)
   (aF (aS (i:=5) nd rfl (Or.inl rfl) (eW (zP (K:=K) rfl) rfl T.list uA (ag (pv 1) ai)))
   (aF (Fq d7 (bR fU (aD cL (pv 2) (pv 3)) ak (bN _))
   (aF (aS (i:=2) nd rfl (Or.inl rfl) (aD iY (pv 2) (pv 3)))
   (aF (aS (i:=4) nd rfl (Or.inr rfl) (aD dR (pv 4) (pv 3)))
   (aA (aS (i:=5) nd rfl (Or.inl rfl) (aD iX (pv 5) (dS (own:=["_law_one"]) (fr:=[("_law_power", 4)]) rfl (cM (aq rF) ["_law_number","_law_found","_law_rest","_law_k","_law_power","_law_grown"] rfl rfl (by decide +kernel)) (gG (K:=K) rfl (pv 1)) (λ_ _ _ _=>⟨(bx (i:=0) (by decide +kernel:(["_law_one","_law_power"]:List Str).Nodup) rfl (Or.inl rfl)),eX,(aD dR (pv 0) (pv 1))⟩))))))))
   (aF (aS (i:=1) nd rfl (Or.inl rfl) (pv 5))
   (aA (aS (i:=3) nd rfl (Or.inl rfl) (aD dQ (pv 3) ak)))))))))
   (aA (bC (bB (JL (K:=K) rfl hr0) rfl T.sorted zM (ag (pv 1) ai)))))))),?_⟩
  refine⟨by show 1<=sizeLine;decide,λL hL=>?_⟩;refine⟨_,rfl,?_⟩;refine⟨λm σ H2=>∃(g:List Nat) (q r k:Nat) (Lf:Addr) (v4 v5:Option V),σ = [some (.int (n:Int)),some (.ref Lf),some (.int (r:Int)),some (.int (k:Int)),v4,v5]/\Same H H2/\H Lf=none/\H2 Lf=some (.lst (g.map nV))/\Dv.All q g/\q*r=n/\(∀d,d ∣ q->d ∣ r->d=1)/\Dv.gZ k r/\2<=k/\m=pP r k,
   ⟨_,[1],1,n,2,L,none,none,rfl,Same.put hL,hL,av,Dv.All.one,Nat.one_mul n,λd h _=>Nat.dvd_one.mp h,λd h2 h3=>by omega,by decide,rfl⟩,?_⟩
  rintro m σ H2 ⟨g,q,r,k,Lf,v4,v5,rfl,s2,VB,hLf,hA,hqr,hco,vB,hk2,rfl⟩;have hq0:0<q:=gP λz=>by rw[z]at hqr;omega
  have vA:0<r:=gP λz=>by rw[z]at hqr;omega
  have hqn:q<=1000000:=by
   have:q*1<=q*r:=o8 q vA;omega
  have hrn:r<=1000000:=by
   have:1*r<=q*r:=Nat.mul_le_mul_right r hq0;omega
  refine⟨_,rfl,_,_,rfl,rfl,_,rfl,cn (λh=>?_) (λh=>?_)⟩
  ·have hr1:1<r:=by have:=nX h;omega
   have MJ:=vB.le hr1;refine⟨_,λσ' H' h=>h,?_⟩;show cU _ _ _ [some (.int (n:Int)),some (.ref Lf),some (.int (r:Int)),some (.int (k:Int)),v4,v5] _;refine jR (λσ H3=>H3=H2/\∃k':Nat,σ = [some (.int (n:Int)),some (.ref Lf),some (.int (r:Int)),some (.int (k':Int)),v4,v5]/\Dv.gZ k' r/\2<=k'/\k'<=r/\(k'=k\/k'=r)) (λD' hD' next=>?_) ?_
   ·refine⟨_,rfl,_,rfl,_,_,rfl,rfl,.inl ⟨by omega,by omega⟩,_,rfl,_,_,rfl,rfl,_,rfl,cn (λh=>?_) (λh=>next _ _ ⟨rfl,k,rfl,vB,hk2,MJ,.inl rfl⟩)⟩
    have hkk:r<k*k:=by
     have:(r:Int)<(k:Int)*(k:Int):=nX h;rw[<- j2]at this;exact yo.mp this
    exact⟨_,rfl,next _ _ ⟨rfl,r,rfl,vB.big hk2 hkk hr1,hr1,aC r,.inr rfl⟩⟩
   rintro σ H3 ⟨rfl,k',rfl,nA,vx,VF,hkc⟩;show cU _ _ _ [some (.int (n:Int)),some (.ref Lf),some (.int (r:Int)),some (.int (k':Int)),v4,v5] _;refine⟨_,rfl,Lf,_,rfl,.inl (ao.of hLf),λLg hLg=>?_⟩;have sg:=Same.put hLg (o:=.lst (g.map nV));have hg0:H Lg=none:=Same.nS s2 hLg;dsimp only[bq];show cU _ _ _ [some (.int (n:Int)),some (.ref Lf),some (.int (r:Int)),some (.int (k':Int)),some (.int 1),some (.ref Lg)] _;refine⟨λm σ H4=>∃(gr:List Nat) (j r':Nat) (Lr:Addr),σ = [some (.int (n:Int)),some (.ref Lf),some (.int (r':Int)),some (.int (k':Int)),some (.int ((k' ^ j:Nat):Int)),some (.ref Lr)]/\Same H3 H4/\H3 Lr=none/\H4 Lr=some (.lst (gr.map nV))/\Dv.All (q*k' ^ j) gr/\k' ^ j*r'=r/\m=r',
    ⟨r,g,0,r,Lg,rfl,sg,hLg,av,by rw[tV,tT];exact hA,by rw[tV,Nat.one_mul],rfl⟩,?_⟩
   rintro m σ H4 ⟨gr,j,r',Lr,rfl,s4,Mh,Bd,vk,kP,hmr⟩;subst m;have hp0:0<k' ^ j:=tU (by omega);have Bv:0<r':=gP λz=>by rw[z]at kP;omega
   have VJ:r'<=r:=by
    have:1*r'<=k' ^ j*r':=Nat.mul_le_mul_right r' hp0;omega
   have kW:r' ∣ r:=⟨k' ^ j,by rw[<- kP,fH]⟩;have hpn:k' ^ j<=1000000:=by
    have:k' ^ j*1<=k' ^ j*r':=o8 _ Bv;omega
   refine⟨_,rfl,_,rfl,_,_,rfl,rfl,by omega,rfl,_,rfl,?_⟩;have em:decide (V.int ((r':Int) % (k':Int))=V.int 0)=decide (r' % k'=0):=by
    rw[<- yn,dw,cQ,cQ];exact⟨λh=>by have:=V.int.inj h;omega,λh=>by rw[h];rfl⟩
   rw[em];refine cn (λh=>?_) (λh=>?_)
   ·have hd:k' ∣ r':=yH (nX h)
    obtain⟨c,hc⟩:=hd;have hkd:k' ∣ r:=fq ⟨c,hc⟩ kW;have hpr:=nA.prime vx hkd;have MF:¬ k' ∣ q:=λz=>by have:=hco k' z hkd;omega
    have M':r' / k'=c:=by rw[hc,tQ _ (by omega)]
    have hc0:0<c:=gP λz=>by rw[z]at hc;omega
    have hcl:c<r':=by
     rw[hc];have:1*c<k'*c:=tS (by omega) hc0;omega
    refine⟨_,λσ' H' h=>h,?_⟩;refine⟨_,rfl,_,rfl,_,_,rfl,rfl,⟨by omega,by omega⟩,?_⟩;have e1:(r':Int) / (k':Int)=(c:Int):=by rw[<- Int.natCast_ediv,M']
    dsimp only[bq];rw[e1];show cU _ _ _ [some (.int (n:Int)),some (.ref Lf),some (.int (c:Int)),some (.int (k':Int)),some (.int ((k' ^ j:Nat):Int)),some (.ref Lr)] _;refine⟨_,rfl,_,rfl,_,_,rfl,rfl,.inl ⟨by omega,by omega⟩,?_⟩;have e2:((k' ^ j:Nat):Int)*(k':Int)=((k' ^ (j+1):Nat):Int):=by rw[<- j2,jj]
    dsimp only[bq];rw[e2];show su _ _ _ [some (.int (n:Int)),some (.ref Lf),some (.int (c:Int)),some (.int (k':Int)),some (.int ((k' ^ (j+1):Nat):Int)),some (.ref Lr)] _;have Bb:=s4 _ _ hLf;have VD:=hA.len hqn hq0;have M9:k' ^ (j+1)*c=r:=by rw[jj,j_,<- hc];exact kP
    have hpl:k' ^ (j+1)<=1000000:=by
     have:k' ^ (j+1)*1<=k' ^ (j+1)*c:=o8 _ hc0;omega
    refine⟨_,rfl,_,rfl,Lf,rfl,⟨_,ao.of Bb⟩,λD hD=>iT (λi=>nV (g.getD i 0*k' ^ (j+1))) (src_list (ao.of Bb)) hD (by rw[ay];exact gH (by omega)) (λi H5 Kt hi hs kt=>?_) (λH5 s5 kR=>?_)⟩
    ·rw[ay]at hi
     refine⟨_,rfl,_,rfl,_,_,by rw[aQ,qA hi];rfl,rfl,.inr ⟨by omega,by omega⟩,?_⟩;dsimp only;rw[<- j2];exact kt _ (Same.refl _)
    ·rw[Pp]at kR
     have M_:q*k' ^ j<=1000000:=by
      have h3:q*k' ^ j*1<=q*k' ^ j*r':=o8 _ Bv;have e4:q*k' ^ j*r'=q*r:=by rw[j_,kP]
      omega
     have hgr:=vk.len M_ (Nat.mul_pos hq0 hp0);refine⟨Lr,D,_,_,rfl,rfl,s5 _ _ Bd,kR,by rw[ay,ay,ay];exact eJ (gH (by omega)),λp hp=>?_⟩;refine⟨c,by omega,gr++g.map λx=>x*k' ^ (j+1),j+1,c,p,rfl,(s4.trans s5).trans (Same.put hp),Same.nS (s4.trans s5) hp,?_,hA.grow vk vx hpr MF hq0,M9,rfl⟩;rw[av,f6]
   ·have hnd:¬ k' ∣ r':=λz=>h (bE (yL z))
    dsimp only[bq];refine⟨_,rfl,?_⟩;dsimp only[bq];refine⟨_,rfl,_,_,rfl,rfl,?_⟩;have e3:(k':Int)+1=((k'+1:Nat):Int):=by push_cast;rfl
    dsimp only;rw[e3];have hm':pP r' (k'+1)<pP r k:=by
     unfold pP;rw[if_neg (show ¬ r<=1 by omega)]
     by_cases h5:r'<=1
     ·rw[if_pos h5];omega
     ·rw[if_neg h5]
      rcases hkc with rfl|rfl
      ·have:k'+1<=r':=by
        apply ji
        intro z
        by_cases h6:r'=k'
        ·exact hnd (by rw[h6];exact o6 _)
        ·exact nA r' (by omega) (by omega) kW
       omega
      ·exfalso
       by_cases h6:r'=k'
       ·exact hnd (by rw[h6];exact o6 _)
       ·exact nA r' (by omega) (by omega) kW
    refine⟨_,hm',gr,q*k' ^ j,r',k'+1,Lr,_,_,rfl,s2.trans s4,Same.nS s2 Mh,Bd,vk,by rw[j_,kP];exact hqr,λd h5 h6=>?_,λd h5 h6 h7=>?_,by omega,rfl⟩
    ·
     by_cases hj0:k' ∣ d
     ·exact absurd (fq hj0 h6) hnd
     ·by_cases Mz:j=0
      ·subst Mz
       rw[tV,tT]at h5;exact hco d h5 (fq h6 kW)
      ·have hkd:k' ∣ r:=⟨k' ^ (j - 1)*r',by
        rw[<- j_,<- kP]
        congr 1
        obtain⟨i,rfl⟩:∃i,j=i+1:=⟨j - 1,by omega⟩;rw[jj,yG,fH]⟩
       have hpr:=nA.prime vx hkd;have hcp:=(Nat.Coprime.symm ((Nat.Coprime.symm (Dv.uI hpr hj0)).pow_left j));exact hco d (hcp.dvd_of_dvd_mul_right h5) (fq h6 kW)
    ·by_cases h8:d=k'
     ·rw[h8]at h7;exact hnd h7
     ·exact nA d h5 (by omega) (fq h7 kW)
  ·have hr1:r=1:=by
    have:¬ ((1:Int)<(r:Int)):=λz=>h (bE z);omega
   subst hr1;rw[tT]at hqr;subst hqr;obtain⟨A1,asc⟩:=Dv.uM hn h1;have hpm:=hA.perm A1;refine⟨_,rfl,Lf,g.map (λx:Nat=>(x:Int)),rfl,ao.of (by rw[dn];exact hLf),by rw[ay];exact hA.len hn h1,λp ms hp hml hms=>?_⟩;refine kk p ms _ (s2.trans (Same.put hp)) (Same.nS s2 hp) av (by rw[hml,ay,hpm.length_eq]) λh64=>?_;obtain⟨hmp,hmo⟩:=hms (by rw[ay,hpm.length_eq];exact h64);exact GX (hmp.trans (hpm.map _)) hmo (f7.mpr (asc.imp λh=>by omega))
end
theorem Hx {m:Nat} {z:Int} (hm:m<2):jV m z=if ez z then("" : Str)else "NoNumber" :=by
 unfold jV iW;simp only[if_pos hm]
theorem Hy {m:Nat} {z:Int} (hm:¬ m<2):jV m z=if eT z then("" : Str)else "NoNumber" :=by
 unfold jV iW;simp only[if_neg hm]
section
variable {P:Program} {w:World} {K:W.Frag} {mg:Str->Option Value} {base:Heap} {f:Addr} {fd:FuncData}
abbrev lB:Stmt:=top 55
theorem Gf:bf ["_law_script","_law_cell","_law_draws_here","_law_far","_law_number","_law_due","_law_width"] ["_law_script"] (aq lB):=⟨rfl,rfl,rfl,by decide +kernel,rfl,by decide +kernel,by decide +kernel⟩
theorem Qh {Pt Ps Pu:Addr} (F:aO K "law" "law" lB f fd) (T:Txt mg) (uD:aG P w K mg base "_law_draws" ["_law_cell","_law_many"] 2 xB) (uG:aG P w K mg base "_law_number_of" ["_law_draws_here"] 1 (xF K)) (uC:aG P w K mg base "_law_dividers" ["_law_number"] 1 xD)
  (ky:aG P w K mg base "_law_asked" ["_law_way","_law_number"] 9 (xv Pt Ps Pu)):aL P w K mg base aW 10 f fd ["_law_script"] (rW K Pt Ps Pu):=by
 refine F.ok Gf (λvs H Q E h=>?_) (λcdv A outer s H vs Q E hr h=>?_)
 ·obtain⟨a,ns,rfl,_⟩:=h
  rfl
 ·obtain⟨a,ns,rfl,hS,hns,nj,hP2,vq,kk⟩:=h
  have nd:=Gf.nd;refine⟨_,(@aF _ _ _ _ _ (dW d7 rfl (gG (K:=K) rfl (aD iX (c6 (ag ak (ag ak ai))) (Fe (GL (K:=K) rfl) (pv 0) Fn (Fo ak)))) (bx (i:=1) nd rfl (Or.inl rfl))
   (@aF _ _ _ _ _ (aS (i:=2) nd rfl (Or.inl rfl) (bw uD hr rfl (ag (pv 1) (ag ak ai))))
   (@aF _ _ _ _ _ (aS (i:=3) nd rfl (Or.inl rfl) (aM (bG (K:=K) rfl) (c6 (ag ak (ag (aD dR (aM (bG (K:=K) rfl) (pv 2) ak (λ_ _=>rfl)) (aD Et ak ak)) ai))) (aD cL (aD iY (aM (bG (K:=K) rfl) (pv 2) ak (λ_ _=>rfl)) ak) ak) (λ_ _=>rfl)))
   (@aF _ _ _ _ _ (aS (i:=4) nd rfl (Or.inl rfl) (bw uG hr rfl (ag (Fe (GL (K:=K) rfl) (pv 2) Fn (Fo ak)) ai)))
   (@aF _ _ _ _ _ (cp (bR fU (aD cL (aM (bG (K:=K) rfl) (pv 2) ak (λ_ _=>rfl)) ak) ak (bN _)) (aA (aS (i:=4) nd rfl (Or.inl rfl) (aM (bG (K:=K) rfl) (c6 (ag ak (ag (aD wF (Ff Hu ak) (pv 3)) (ag (aD dQ ak (pv 3)) ai (bQ nofun)) (bQ nofun)) (bQ nofun))) (aD cL (aD iY (aM (bG (K:=K) rfl) (pv 2) ak (λ_ _=>rfl)) ak) ak) (λ_ _=>rfl)))) c7)
   (@aF _ _ _ _ _ (cp (bR fU (aD cL (aM (bG (K:=K) rfl) (pv 2) ak (λ_ _=>rfl)) ak) ak (bN _)) (aA (aS (i:=4) nd rfl (Or.inl rfl) (aD dR (aM (bG (K:=K) rfl) (c6 (wH [360,720,1000000,999999,5040,840] rfl)) (aD cL (aD iY (aM (bG (K:=K) rfl) (pv 2) ak (λ_ _=>rfl)) ak) ak) (λ_ _=>rfl)) (aD dQ ak (aD cL (aM (bG (K:=K) rfl) (pv 2) ak (λ_ _=>rfl)) ak))))) c7)
   (@aF _ _ _ _ _ (aS (i:=5) nd rfl (Or.inl rfl) gF)
   (@aF _ _ _ _ _ (cp (PW.pt (qX (qW eU eU ak (pv 4) ak) (qY (bR eU (bB (iR (K:=K) rfl) rfl T.len jl (ag (bw uC hr rfl (ag (pv 4) ai)) ai)) ak (bN _))))) (aA (aS (i:=5) nd rfl (Or.inl rfl) gF)) c7)
   (@aF _ _ _ _ _ (cp (PW.pt (iZ (bR jM (bw ky hr rfl (ag ak (ag (pv 4) ai))) (pv 5) (bN _)) (jP (bR jM (bw ky hr rfl (ag ak (ag (pv 4) ai))) (pv 5) (bN _))))) (aA (bC jN)) c7)
   (@aF _ _ _ _ _ (aS (i:=6) nd rfl (Or.inl rfl) (aM (bG (K:=K) rfl) (c6 (ag (aD cL (aM (bG (K:=K) rfl) (pv 2) ak (λ_ _=>rfl)) ak) (ag (aD wF (Ff Hu ak) (pv 3)) (ag (aD dQ ak (pv 3)) ai (bQ nofun)) (bQ nofun)) (bQ nofun))) (aD cL (aD iY (aM (bG (K:=K) rfl) (pv 2) ak (λ_ _=>rfl)) ak) ak) (λ_ _=>rfl)))
   (@aF _ _ _ _ _ (aS (i:=5) nd rfl (Or.inl rfl) (aM (bG (K:=K) rfl) (c6 (ag gF (ag gF ai))) (eW JC rfl T.int zN (ag (Fd eU eU ak (pv 6) ak) ai)) (λ_ _=>rfl)))
   (aA (cp (PW.pt (iZ (bR jM (bw ky hr rfl (ag ak (ag (pv 6) ai))) (pv 5) (bN _)) (jP (bR jM (bw ky hr rfl (ag ak (ag (pv 6) ai))) (pv 5) (bN _))))) (aA (bC jN)) c7)))))))))))))
   (aA (bC jN))),?_⟩
  refine⟨by show 2<=sizeLine;decide,λp1 hp1=>⟨_,rfl,_,rfl,a,_,rfl,(Same.put hp1).seq hS,λp2 hp2=>?_⟩⟩;obtain⟨ms,Kq,hms⟩:=J7 ns none (some 20);rw[Kq];refine⟨p1,p2,_,_,rfl,rfl,Same.put hp2 _ _ av,av,by rw[ay];show 2+ms.length<=sizeLine;exact eJ (gH (by omega)),λp3 hp3=>?_⟩;generalize hB:upd (upd (upd H p1 _) p2 _) p3 _=B;have xg:Same H B:=by rw[<- hB];exact((Same.put hp1).trans (Same.put hp2)).trans (Same.put hp3)
  have hl3:B p3=some (.lst (([0,5]++ms).map V.int)):=by rw[<- hB,av,f6];rfl
  have nq:=xg _ _ nj;have nr:=xg _ _ hP2;have nu:=xg _ _ vq;refine⟨p3,rfl,⟨_,ao.of hl3⟩,kL (K:=K) (a:=p3) (xs:=([0,5]++ms).map V.int) (λi σ H6=>∃(v1 v2 v3 v4 v5 v6:Option V),σ = [some (.ref a),v1,v2,v3,v4,v5,v6]/\Same B H6)
   ⟨none,none,none,none,none,none,rfl,Same.refl _⟩ (λi σ H6 _ ⟨_,_,_,_,_,_,_,s6⟩=>ao.of (s6 _ _ hl3)) ?_ ?_⟩
  ·rintro i x σ H1 hx ⟨v1,v2,v3,v4,v5,v6,rfl,s1⟩
   obtain⟨z,hz,rfl⟩:=cx.mp (cX hx);dsimp only[bq];show cU _ _ _ [some (.ref a),some (.int z),v2,v3,v4,v5,v6] _;refine⟨_,rfl,z,7,rfl,by decide,λd ds H2 s2 hd0 hd hdl hds=>?_⟩;dsimp only[bq];show cU _ _ _ [some (.ref a),some (.int z),some (.ref d),v3,v4,v5,v6] _;obtain⟨x0,x1,x2,x3,x4,x5,x6,rfl⟩:∃x0 x1 x2 x3 x4 x5 x6:Int,ds = [x0,x1,x2,x3,x4,x5,x6]:=by
    match ds,hdl with
    | [x0,x1,x2,x3,x4,x5,x6],_=>exact⟨x0,x1,x2,x3,x4,x5,x6,rfl⟩
   have b4:=hds x4 (by simp);have b5:=hds x5 (by simp);have hp:(10:Int) ^ (30:Int).toNat=1000000000000000000000000000000:=by decide
   have cm:lI x4 ((10:Int) ^ (30:Int).toNat):=.inl ⟨by omega,by omega⟩;obtain⟨k,hk,ek⟩:=jr (x3 / 6) 2 (by decide);refine⟨_,rfl,d,_,4,_,rfl,rfl,ao.of hd,bp (j:=4) rfl,_,_,rfl,rfl,⟨by decide,by decide,by decide⟩,_,_,rfl,rfl,cm,by show 2<=sizeLine;decide,λq hq=>?_⟩;have t1:=Same.put hq (o:=.lst [.int 0,.int (x4*(10:Int) ^ (30:Int).toNat)]);obtain⟨far,Mu,f0⟩:∃far:Int,([.int 0,.int (x4*(10:Int) ^ (30:Int).toNat)]:List V)[k]?=some (.int far)/\0<=far:=by
    rw[hp]
    match k,hk with
    |0,_=>exact⟨0,rfl,by decide⟩
    |1,_=>exact⟨_,rfl,by omega⟩
   refine⟨_,rfl,d,_,3,_,rfl,rfl,ao.of (t1 _ _ hd),bp (j:=3) rfl,_,_,rfl,rfl,⟨by decide,by decide⟩,_,_,rfl,rfl,(by show(0:Int)<2;decide),q,_,_,.int far,rfl,rfl,ao.of av,by rw[show x3 / 6 % 2=(k:Int)from ek];exact bp Mu,?_⟩;dsimp only[bq];show cU _ _ _ [some (.ref a),some (.int z),some (.ref d),some (.int far),v4,v5,v6] _;have s12:=s1.trans (s2.trans t1);have hd2:=t1 _ _ hd;generalize upd H2 q (.lst [.int 0,.int (x4*(10:Int) ^ (30:Int).toNat)])=C2 at s12 hd2 ⊢;refine⟨_,rfl,_,rfl,d,_,rfl,ao.of hd2,λq1 hq1=>?_⟩;have t2:=Same.put hq1 (o:=.lst ([x0,x1,x2].map V.int));refine⟨q1,[x0,x1,x2],rfl,ao.of av,λy hy=>hds y (by simp at hy ⊢;omega),rfl,λn H3 s3 hn1 hn2=>?_⟩;dsimp only[bq];show cU _ _ _ [some (.ref a),some (.int z),some (.ref d),some (.int far),some (.int (n:Int)),v5,v6] _;have Sf:=s12.trans (t2.trans s3);have vt:=s3 _ _ (t2 _ _ hd2);refine jR (λσ' H'=>∃y:Int,σ' = [some (.ref a),some (.int z),some (.ref d),some (.int far),some (.int y),v5,v6]/\Same H3 H') (λD' _ hnx=>?_) ?_
   ·refine⟨_,rfl,d,_,3,_,rfl,rfl,ao.of vt,bp (j:=3) rfl,_,_,rfl,rfl,(by show(0:Int)<6;decide),rfl,_,rfl,cn (λh=>?_) (λh=>hnx _ _ ⟨n,rfl,Same.refl _⟩)⟩
    obtain⟨k2,hk2,ek2⟩:=jr (x3 / 12) 3 (by decide);refine⟨_,rfl,_,rfl,_,_,rfl,rfl,_,rfl,_,_,rfl,rfl,by show 3<=sizeLine;decide,λq2 hq2=>?_⟩;obtain⟨y,hy⟩:∃y:Int,([.int 0,.int (-1 - far),.int (1000001+far)]:List V)[k2]?=some (.int y):=by
     match k2,hk2 with
     |0,_=>exact⟨_,rfl⟩
     |1,_=>exact⟨_,rfl⟩
     |2,_=>exact⟨_,rfl⟩
    have t3:=Same.put hq2 (o:=.lst [.int 0,.int (-1 - far),.int (1000001+far)]);refine⟨_,rfl,d,_,3,_,rfl,rfl,ao.of (t3 _ _ vt),bp (j:=3) rfl,_,_,rfl,rfl,⟨by decide,by decide⟩,_,_,rfl,rfl,(by show(0:Int)<3;decide),q2,_,_,.int y,rfl,rfl,ao.of av,by rw[show x3 / 12 % 3=(k2:Int)from ek2];exact bp hy,hnx _ _ ⟨y,rfl,t3⟩⟩
   rintro σ' H4 ⟨y,rfl,s4⟩;have qj:=s4 _ _ vt;refine jR (λσ' H'=>∃y:Int,σ' = [some (.ref a),some (.int z),some (.ref d),some (.int far),some (.int y),v5,v6]/\Same H4 H') (λD' _ hnx=>?_) ?_
   ·refine⟨_,rfl,d,_,3,_,rfl,rfl,ao.of qj,bp (j:=3) rfl,_,_,rfl,rfl,(by show(0:Int)<6;decide),rfl,_,rfl,cn (λh=>?_) (λh=>hnx _ _ ⟨y,rfl,Same.refl _⟩)⟩
    obtain⟨k2,hk2,ek2⟩:=jr (x3 / 12) 6 (by decide);refine⟨by show 6<=sizeLine;decide,λq2 hq2=>?_⟩;obtain⟨y,hy,y0,y1⟩:∃y:Int,(([360,720,1000000,999999,5040,840]:List Int).map V.int)[k2]?=some (.int y)/\0<=y/\y<=1000000:=by
     match k2,hk2 with
     |0,_=>exact⟨_,rfl,by decide,by decide⟩
     |1,_=>exact⟨_,rfl,by decide,by decide⟩
     |2,_=>exact⟨_,rfl,by decide,by decide⟩
     |3,_=>exact⟨_,rfl,by decide,by decide⟩
     |4,_=>exact⟨_,rfl,by decide,by decide⟩
     |5,_=>exact⟨_,rfl,by decide,by decide⟩
    have t3:=Same.put hq2 (o:=.lst (([360,720,1000000,999999,5040,840]:List Int).map V.int));refine⟨_,rfl,d,_,3,_,rfl,rfl,ao.of (t3 _ _ qj),bp (j:=3) rfl,_,_,rfl,rfl,⟨by decide,by decide⟩,_,_,rfl,rfl,(by show(0:Int)<6;decide),q2,_,_,.int y,rfl,rfl,ao.of av,by rw[show x3 / 12 % 6=(k2:Int)from ek2];exact bp hy,?_⟩;exact⟨_,rfl,d,_,5,_,rfl,rfl,ao.of (t3 _ _ qj),bp (j:=5) rfl,_,_,rfl,rfl,(by show(0:Int)<150;decide),_,_,rfl,rfl,_,_,rfl,rfl,.inl ⟨by omega,by omega⟩,hnx _ _ ⟨_,rfl,t3⟩⟩
   rintro σ' H5 ⟨y,rfl,s5⟩;have Ms:=s5 _ _ qj;have Sg:=Sf.trans (s4.trans s5);refine jR (λσ' H'=>σ' = [some (.ref a),some (.int z),some (.ref d),some (.int far),some (.int y),some (.str "NoNumber"),v6]/\H'=H5) (λD' _ hnx=>hnx _ _ ⟨rfl,rfl⟩) ?_;intro σ1 Vx ⟨e1,e2⟩;rw[e1,e2];refine jR (λσ' H'=>σ' = [some (.ref a),some (.int z),some (.ref d),some (.int far),some (.int y),some (.str (if ez y then("" : Str)else "NoNumber")),v6]/\Same H5 H') (λD' _ hnx=>?_) ?_
   ·refine⟨_,rfl,_,_,rfl,rfl,_,rfl,?_⟩
    by_cases hy1:1<=y
    case neg =>
     rw[if_neg (by simpa using hy1)];refine⟨false,rfl,bF (hnx _ _ ⟨?_,Same.refl _⟩)⟩;rw[if_neg (λh:ez y=>hy1 h.1)]
    rw[if_pos (bE hy1)];refine⟨_,_,rfl,rfl,_,rfl,?_⟩
    by_cases hy2:y<=1000000
    case neg =>
     rw[cI hy2];refine bF (hnx _ _ ⟨?_,Same.refl _⟩);rw[if_neg (λh:ez y=>hy2 h.2.1)]
    rw[bE hy2];obtain⟨n,rfl⟩:∃n:Nat,y=n:=⟨y.toNat,by omega⟩;refine dv ⟨_,rfl,n,rfl,by omega,by omega,λLd md H6 s6 Vz hLd hml _=>?_⟩;refine⟨Ld,_,rfl,.inl (ao.of hLd),_,_,rfl,rfl,_,rfl,?_⟩;have eo:ez (n:Int) ↔ (((md.map V.int).length:Nat):Int)<=24:=by
     rw[ay,hml];unfold ez;rw[bX];omega
    refine cn (λh=>hnx _ _ ⟨?_,s6⟩) (λh=>hnx _ _ ⟨?_,s6⟩)
    ·rw[if_pos (eo.mpr (nX h))]
     rfl
    ·rw[if_neg (λq=>h (bE (eo.mp q)))]
   rintro σ' H6 ⟨rfl,s6⟩;have q8:=Sg.trans s6;refine⟨_,rfl,0,y,rfl,by decide,q8 _ _ nq,q8 _ _ nr,q8 _ _ nu,λH7 s7=>?_⟩;rw[Hx (by decide)];have q_:=q8.trans s7;refine⟨_,rfl,rfl,_,rfl,?_⟩;rw[bE rfl];refine bF ?_;refine⟨_,rfl,1,y,rfl,by decide,q_ _ _ nq,q_ _ _ nr,q_ _ _ nu,λH8 s8=>?_⟩;rw[Hx (by decide)];have Sh:=q_.trans s8;refine⟨_,rfl,rfl,_,rfl,?_⟩;rw[bE rfl];refine bF ?_;have Bj:=s8 _ _ (s7 _ _ (s6 _ _ Ms));dsimp only[Hg];refine jR (λσ' H'=>∃wz:Int,σ' = [some (.ref a),some (.int z),some (.ref d),some (.int far),some (.int y),some (.str (if ez y then("" : Str)else "NoNumber")),some (.int wz)]/\Same H8 H') (λD' _ hnx=>?_) ?_
   ·obtain⟨k2,hk2,ek2⟩:=jr (x6 / 4) 3 (by decide)
    refine⟨_,rfl,d,_,6,_,rfl,rfl,ao.of Bj,bp (j:=6) rfl,_,_,rfl,rfl,(by show(0:Int)<4;decide),_,rfl,_,rfl,_,_,rfl,rfl,_,rfl,_,_,rfl,rfl,by show 3<=sizeLine;decide,λq2 hq2=>?_⟩;obtain⟨y,hy⟩:∃y:Int,([.int (x6 % 4),.int (-1 - far),.int (4+far)]:List V)[k2]?=some (.int y):=by
     match k2,hk2 with
     |0,_=>exact⟨_,rfl⟩
     |1,_=>exact⟨_,rfl⟩
     |2,_=>exact⟨_,rfl⟩
    have t3:=Same.put hq2 (o:=.lst [.int (x6 % 4),.int (-1 - far),.int (4+far)]);exact⟨_,rfl,d,_,6,_,rfl,rfl,ao.of (t3 _ _ Bj),bp (j:=6) rfl,_,_,rfl,rfl,⟨by decide,by decide⟩,_,_,rfl,rfl,(by show(0:Int)<3;decide),q2,_,_,.int y,rfl,rfl,ao.of av,by rw[show x6 / 4 % 3=(k2:Int)from ek2];exact bp hy,hnx _ _ ⟨y,rfl,t3⟩⟩
   rintro σ' H9 ⟨wz,rfl,s9⟩;have Si:=Sh.trans s9;refine jR (λσ' H'=>σ' = [some (.ref a),some (.int z),some (.ref d),some (.int far),some (.int y),some (.str (if eT wz then("" : Str)else "NoNumber")),some (.int wz)]/\Same H9 H') (λD' _ hnx=>?_) ?_
   ·refine⟨by show 2<=sizeLine;decide,λq2 hq2=>?_⟩
    have t3:=Same.put hq2 (o:=.lst [.str "NoNumber", .str ""]);refine⟨_,rfl,_,_,rfl,rfl,_,rfl,?_⟩
    by_cases h0:0<=wz
    ·rw[if_pos (bE h0)]
     refine⟨_,_,rfl,rfl,.inr ⟨_,rfl,q2,_,_,.str (if eT wz then("" : Str)else "NoNumber"),rfl,rfl,ao.of av,?_,hnx _ _ ⟨rfl,t3⟩⟩⟩
     by_cases h3:wz<=3
     ·rw[bE h3,if_pos rfl,if_pos (show eT wz from⟨h0,by omega⟩)]
      exact bp (j:=1) rfl
     ·rw[cI h3,if_neg Bool.false_ne_true,if_neg (λq:eT wz=>h3 (by have:=q.2;omega))]
      exact bp (j:=0) rfl
    ·rw[if_neg (by simpa using h0)]
     refine .inr ⟨_,rfl,q2,_,_,.str (if eT wz then("" : Str)else "NoNumber"),rfl,rfl,ao.of av,?_,hnx _ _ ⟨rfl,t3⟩⟩;rw[if_neg (λq:eT wz=>h0 q.1),if_neg (by simpa using h0)];exact bp (j:=0) rfl
   rintro σ' Vu ⟨rfl,Sd⟩;have rg:=Si.trans Sd;refine⟨_,rfl,2,wz,rfl,by decide,rg _ _ nq,rg _ _ nr,rg _ _ nu,λVv Se=>?_⟩;rw[Hy (by decide)];have rh:=rg.trans Se;refine⟨_,rfl,rfl,_,rfl,?_⟩;rw[bE rfl];refine bF ?_;refine⟨_,rfl,3,wz,rfl,by decide,rh _ _ nq,rh _ _ nr,rh _ _ nu,λVw s12=>?_⟩;rw[Hy (by decide)];refine⟨_,rfl,rfl,_,rfl,?_⟩;rw[bE rfl];exact bF ⟨_,_,_,_,_,_,rfl,rh.trans s12⟩
  ·rintro σ H6 ⟨v1,v2,v3,v4,v5,v6,rfl,s6⟩
   exact kk _ (s6 _ _ nq) (s6 _ _ nr) (s6 _ _ nu)
end
end My
noncomputable def PySem.W.Fast.tw6909422190666773507 : PySem.Program := PySem.Challenge.pw_evenclimb_k63_orders_made_refused
theorem PySem.W.Fast.te6909422190666773507 : PySem.Challenge.pw_evenclimb_k63_orders_made_refused = PySem.W.Fast.tw6909422190666773507 := rfl
structure PySem.W.Fast:Prop where (te6786386392904480397 tw2907127685920651221 tw315989103816662561 tw15655855673669035082 tw10882715170048069974 tw16342918901036882122 tw6651765713912316933 tw10072184462984359159 tw9945919765010631613 tw15801387483580366122 tw12813224288312001466 tw13002486801820212164 tw5581116802344672151 tw8715651742452959766 tw8667857549333733673 tw15995924953075380916 tw4371058167342960250 tw2015087686562340159 tw8609498547882258455 tw1671695250655165720 tw5611519304622548352 tw10939534952981925505 tw13945296468665792129 tw11564089711436387724 tw11458456673088052040 tw4748111940983110560 tw13672896519159226427 tw10452698361371226050 tw11758809360125900282 tw2028306914791004239 tw13519544131905684610 tw9370381512759630276 tw5462171185447299702 tw15984118293123403579 tw17896853750498687423 tw10846510765225905945 tw7830952418857797806 tw17907212448079868305 tw4692517700684698623 tw2712339295228699167 tw4420375483081800758 tw11082248021589223062 tw8414715802665560754 tw8253792751278597371 tw12070885819177362470 tw5346900085110495866 tw8075034205870003888 tw3487310342117299901 tw6622918307594674087 tw2364646693336241137 tw2493290642743301496 tw6211794677179126451 tw10560754190309778119 tw13789852474246987909 tw16376594393605334062 tw4678094820214013842 tw7824775017277019789 tw8275762680578375877 tw13404981106655003604 tw4619597315898930709 tw14934108641207841535 tw1497926933251094479 tw5784353979499934031 tw1491935012938085977 tw3665649126511435790 tw2875464781659477077 tw9268634657926423508 tw11972426064639009152 tw7444857210659394901 tw7242989070785008961 tw5339206360066176952 tw4382441183193873240 tw12242703322674136176 tw1373941707181790286 tw15780952733121375232 tw12333455453381459992 tw17103852441239717372 tw10501209534959002535 tw1525953111141137268 tw9838622187864125835 tw11478929703406989639 tw12605509557398557743 tw13479651207646400161 tw12716832844933833148 tw3979024126025446405 tw6995448259718990840 tw15245805589869757791 tw17244121241967336051 tw10110342364017831394 tw341737182067176935 tw17495683900770875710 tw1328050599837020042 tw8000755036587449617 tw6225614181574411381 tw15986219559115867588 tw15286306525451064067 tw11704476814211518425 tw17437186463806324545 tw5686720017560705470 tw12654472577450755723 tw13430395184012766057 tw7568027994836050944 tw17977554899635939905 tw16168279312913943780 tw2112203691954855745 tw9167403345102186746 tw16716999846274782842 tw853712486596275128 tw11713891813939200371 tw8841857927863062538 tw14887554174397247417 tw1022117744489811289 tw10656519557411760261 tw8670084242803057024 tw7043996995888449777 tw6379468002808540001 tw14801121604317783659 tw9742400416926478374 tw8255926089151259853 tw4130136428314401816 tw2943211093966228176 tw13873383997928111427 tw5255764500024876445 tw9814118453864950793 tw7989032179846497026 tw5433404011015196029 tw3548165921765980844 tw14302912648461930592 tw508557160326263049 tw15295177057396417346 tw11655639010885199590 tw2912683127877966730 tw1675767718900010312 tw12394293383712260271 tw3258375415711520204 tw10975404209063618075 tw13272542015876366823 tw18412606286947611440 tw3853457336693157369 tw5118130570504730764 tw15961090567275727436 tw17641710159054259985 tw2058250708460157182 tw10082410718459245585 tw2773463080723692369 tw3461949327940868505 tw17973126778685929097 tw4475386212965695390 tw12721014820410724193 tw15788779684178848912 tw14322658616034099736 tw10252424907860180289 tw5536540340838968029 tw703545596133957345 tw15959168142783648169 tw9425113245697340582 tw9055564729559679533 tw6532385944857889307 tw4453530738282559588 tw1745025182820147447 tw1557741458310491372 tw15178536569943849813 tw11996721253248835110 tw10338633375765296012 tw13752821050267833959 tw434404571928134568 tw3213646254707462156 tw14665606841686618028 tw5548472172497664420 tw16510661050008690964 tw5244260566195504425 tw16791736283950828309 tw17116722804015030012 tw7484241247262264934 tw6197230986698992479 tw5828899751242935529 tw17217733926440572878 tw15461910613635023883 tw12250045727731626380 tw11722272044122724963 tw2559827662080851340 tw4839025293062546053 tw3360263602046291421 tw17628568947881525430 tw18401795079764106919 tw8226070166071765950 tw8143141520210531243 tw4904137181795762710 tw3150027627583840772 tw4854581294570989391 tw14510381620624819773 tw14675875017898149199 tw14361039668439876408 tw2924648043352336654 tw10736004373758481439 tw4841742379589816814 tw4759129646287990645 tw2618047472026160035 tw10836843152474167382 tw17371351337800637425 tw16353686973673798604 tw6323542684766740777 tw4926445701114845761 tw3517221220359627901 tw16081144762807111365 tw14848311082686541833 tw12679648965111451306 tw10856703614803722465 tw5581198007465462375 tw16882539093747490683 tw14347307691755363630 tw10135747254164642635 tw1516339732709262345 tw16280077709368393408 tw1466272530065059992 tw17103410002644213267 tw13778888180070662112 tw527176076621690640 tw12835420471615631981 tw14671144867552208744 tw11828033393417873442 tw10725427975200793036 tw5321063083809591205 tw15105552034843729501 tw15173586599482696522 tw18395322382628148524 tw17065735811231235589 tw12379450136220544932 tw7151796017967516213 tw8724895241547755171 tw14210014863995112938 tw10369429523628247646 tw9896178635329843718 tw3041283118855465071 tw7810370898281389675 tw5301304201854478408 tw2344865442636176214 tw10251639639974110817 tw11511612686199576300 tw9613744795229708752 tw8299752424748151748 tw4120228548414047470 tw17997047591443147655 tw765873129039603416 tw9172370845630630450 tw2838042579340111270 tw12662516497206159754 tw889769189052466280 tw6669150829174206878 tw13765267689833387566 tw7253945859196006949 tw9480327682050373797 tw8484563132066166602 tw7846785847477468281 tw7017559184124211043 tw5435167141023266100 tw3318503832303362702 tw3133060119959067175 tw26381080189608440 tw16794109111538395615 tw15504070460923628779 tw14859330345086104199 tw14723632546674547311 tw12263146408893786381 tw1171628872566925713 tw11686324275638870239 tw10526217525922875501 tw17776644351430562828 tw9624890292227403056 tw9418919341837733701 tw7016421617964066833 tw5788388148485425354 tw4741291032438154097 tw3265467639866873784 tw3151558208612760822:True)
namespace My
open PySem PySem.Spec PyProof.Rows L2
theorem U4{C:List Value->Prop}(h:C []):∀us:List Value,us.length=0->C us:=λ_ e=>Ii.mp e▸h
theorem xY{C:List Value->Prop}{n:Nat}(h:∀(a:Value) (us:List Value),us.length=n->C (a::us)):∀us:List Value,us.length=n+1->C us:=λus e=>by
 cases us with
 |nil=>cases e
 |cons a r=>exact h a r (Nat.succ.inj e)
theorem dD{C:List Value->Prop}(h:∀a0,C [a0]):∀us:List Value,us.length=1->C us:=xY λa=>U4 (C:=λr=>C (a::r)) (h a)
theorem bS{C:List Value->Prop}(h:∀a0 a1,C [a0,a1]):∀us:List Value,us.length=2->C us:=xY λa=>dD (C:=λr=>C (a::r)) (h a)
theorem lF{C:List Value->Prop}(h:∀a0 a1 a2,C [a0,a1,a2]):∀us:List Value,us.length=3->C us:=xY λa=>bS (C:=λr=>C (a::r)) (h a)
set_option maxHeartbeats 0 in
theorem all_mk {l:W.OpenLaw} {w:World} {K:W.Frag} {h:Heap} {mg:Str->Option Value} {fa C a0 a1 a2 a3 a4 a5 a6 a7 a8 a9 a10 a11 a12 a13 a14 aE c0 P0 c1 P1 c2 P2:Addr} (X:K.In h) (G:h.Ns mainGlobals mg) (hfa:mg "law" = some (.ref fa)) (tx:km K)
  (cO:ClsAt K "Order" "Order.__init__" rn C) (nC:W.findIn K (.ref C) "count" = some none) (nP:W.findIn K (.ref C) "pairs" = some none) (nR:W.findIn K (.ref C) "reach" = some none) (nJ:W.findIn K (.ref C) "joins" = some none) (nM:W.findIn K (.ref C) "meets" = some none)
  (ht:W.tabIn K "dividing" = some (c0,P0))
  (ht1:W.tabIn K "fields_of" = some (c1,P1))
  (vC:W.tabIn K "sums_order" = some (c2,P2))
  (wg:W.nsIn K mainGlobals "reversed" = some none)
  (wj:W.nsIn K mainGlobals "set" = some none)
  {Uo:Tok} (wu:W.nsIn K mainGlobals "MOST_DIVIDED" = some (some (.int 1000000 Uo)))
  {Uq:Tok} (wx:W.nsIn K mainGlobals "ROOT_OF_MOST_DIVIDED" = some (some (.int 1000 Uq)))
  {zu Pw:Nat} {J8:Option Addr} {Ua Ub Uc Ud:Tok} {Sn:Array (Option Value)} (wt:W.nsIn K mainGlobals "ROW_COUNTS" = some (some (.ref zu)))
  (vX:K.lookup zu=some ⟨.type "tuple", J8,.seq #[.int 1 Ua,.int 2 Ub,.int 4 Uc,.int 8 Ud] Pw,Sn⟩)
  (er:oJ K a0 a1 a2 a3 a4 a5 a6 a7 a8 a9 a10 a11 a12 a13 a14 aE)
  (lz:ki K a0 a1 a2 a3 a4 a5 a6 a7 a8 a9 a10 a11 a12 a13 a14 aE a8 8)
  (iF:W.excIn K a8 ye "ValueError.__new__" = true)
  (pZ:aH K "is_whole" xi)
  (pX:aH K "is_thing" xh)
  (p8:aH K "need_thing" xu)
  (p4:aH K "need_count" xn)
  (p7:aH K "need_pairs" xt)
  (p9:aH K "own_row" rH)
  (pU:aH K "either" rB)
  (qb:aH K "shared" rK)
  (pT:aH K "column" rq)
  (qa:aH K "reach_of" ow)
  (qc:aH K "twos" rL)
  (p6:aH K "need_one_way" xq)
  (pW:aH K "ends_with" rD)
  (pV:aH K "ends_of" rC)
  (p5:aH K "need_ends" xo)
  (p_:aH K "pairs_of" rJ)
  (u3:aH K "_law_mixed" xl)
  (uZ:aH K "_law_draws" xk)
  (u5:aH K "_law_number_of" xm)
  (u0:aH K "_law_kind" cG)
  (u6:aH K "order_by" rG)
  (uS:aH K "dividers" ou)
  (uT:aH K "dividing" rA)
  (uU:aH K "field_with" rE)
  (uV:aH K "fields_of" jQ)
  (u9:aH K "sums_order" ox)
  (uX:aH K "_law_asked" xj)
  (uY:aH K "_law_dividers" rF)
  (uW:aH K "law" lB) :
  ∃fd:FuncData,(∀(s:Shared) (v:Value),BindsTo s fd ⟨[v],[]⟩ [("_law_script", v)])/\∀base:Heap,K.In base->base.Ns mainGlobals mg->TabAt base mg c0 P0->TabAt base mg c1 P1->TabAt base mg c2 P2->aL l.prog w K mg base aW 40 fa fd ["_law_script"] (rW K P0 P1 P2):=by
 have T:=tx.txt X G;have TC:oI K C:=⟨cO.cl,nC,nP,nR,nJ,nM⟩;obtain⟨f,fd,a,F⟩:=uW.ex;have e:=hfa.symm.trans (W.mg_of X G a);cases e;obtain⟨oc,od,kV,doc,pm,an,cdv,ct,osl,rfl,lk,hcd⟩:=id F.ex;refine⟨W.fnOf "law" "law" (hV lB) (dI lB) (aq lB) .none kV doc pm an cdv ct,λs v=>.of_eq rfl,λbase _ _ tb Us tb2=>?_⟩;have vf:=W.mg_none_of X G wg;have vg:=W.mg_none_of X G wj;have xZ:∃t,mg "MOST_DIVIDED" = some (.int 1000000 t):=⟨_,W.mg_of X G wu⟩;have yb:∃t,mg "ROOT_OF_MOST_DIVIDED" = some (.int 1000 t):=⟨_,W.mg_of X G wx⟩;have xR:=J3 (W.mg_of X G wt) vX;have Er:=er.errs X G;have dH:aG l.prog w K mg base "is_whole" ["value"] 1 jS:=pZ.cal X G (λ_ _ _ _ _ _=>dD λ_=>rfl) (λF=>Ef F T);have mL:aG l.prog w K mg base "is_thing" ["count","number"] 2 rV:=pX.cal X G (λ_ _ _ _ _ _=>bS λ_ _=>rfl) (λF=>Ee F T dH);have kA:aG l.prog w K mg base "need_thing" ["count","number"] 3 r6:=p8.cal X G (λ_ _ _ _ _ _=>bS λ_ _=>rfl) (λF=>Ek F T mL);have mM:aG l.prog w K mg base "need_count" ["count"] 2 rX:=p4.cal X G (λ_ _ _ _ _ _=>dD λ_=>rfl) (λF=>Eg F T dH);have mQ:aG l.prog w K mg base "need_pairs" ["count","pairs"] 4 (r0 K):=p7.cal X G (λ_ _ _ _ _ _=>bS λ_ _=>rfl) (λF=>Ej F T kA);have mS:aG l.prog w K mg base "own_row" ["count","thing"] 1 sd:=p9.cal X G (λ_ _ _ _ _ _=>bS λ_ _=>rfl) (λF=>El F T);have mJ:aG l.prog w K mg base "either" ["one","other"] 1 rP:=pU.cal X G (λ_ _ _ _ _ _=>bS λ_ _=>rfl) (λF=>Ea F T);have mW:aG l.prog w K mg base "shared" ["one","other"] 1 si:=qb.cal X G (λ_ _ _ _ _ _=>bS λ_ _=>rfl) (λF=>Eo F T);have mI:aG l.prog w K mg base "column" ["rows","place"] 1 rN:=pT.cal X G (λ_ _ _ _ _ _=>bS λ_ _=>rfl) (λF=>D_ F T);have mV:aG l.prog w K mg base "reach_of" ["count","pairs"] 2 (sf K):=qa.cal X G (λ_ _ _ _ _ _=>bS λ_ _=>rfl) (λF=>En F T mS mJ);have hJ:aG l.prog w K mg base "twos" ["count"] 1 oz:=qc.cal X G (λ_ _ _ _ _ _=>dD λ_=>rfl) (λF=>Ep F T);have mP:aG l.prog w K mg base "need_one_way" ["count","reach"] 2 rZ:=p6.cal X G (λ_ _ _ _ _ _=>bS λ_ _=>rfl) (λF=>Ei F T hJ);have mK:aG l.prog w K mg base "ends_with" ["rows","things","thing"] 2 (rR K):=pW.cal X G (λ_ _ _ _ _ _=>lF λ_ _ _=>rfl) (λF=>Ec F T mW);have kx:aG l.prog w K mg base "ends_of" ["rows"] 3 (rQ K):=pV.cal X G (λ_ _ _ _ _ _=>dD λ_=>rfl) (λF=>Eb F T mK);have mO:aG l.prog w K mg base "need_ends" ["count","joins","meets"] 2 rY:=p5.cal X G (λ_ _ _ _ _ _=>lF λ_ _ _=>rfl) (λF=>Eh F T hJ);have mU:aG l.prog w K mg base "pairs_of" ["count","reach"] 1 se:=p_.cal X G (λ_ _ _ _ _ _=>bS λ_ _=>rfl) (λF=>Em F T);have pI:lJ l.prog w K mg base C "Order" ["self","count","pairs"] 5 (rT K C):=cO.cal X G (λ_ _ _ _ _ _=>lF λ_ _ _=>rfl) (λF=>Ed F T TC mM mQ mV mP kx mI mO mU);have uF:aG l.prog w K mg base "_law_mixed" ["_law_cell","_law_place"] 1 xE:=u3.cal X G (λ_ _ _ _ _ _=>bS λ_ _=>rfl) (λF=>Qj F T);have uD:aG l.prog w K mg base "_law_draws" ["_law_cell","_law_many"] 2 xB:=uZ.cal X G (λ_ _ _ _ _ _=>bS λ_ _=>rfl) (λF=>Qe F T uF);have uG:aG l.prog w K mg base "_law_number_of" ["_law_draws_here"] 1 (xF K):=u5.cal X G (λ_ _ _ _ _ _=>dD λ_=>rfl) (λF=>Qk F T);have uE:aG l.prog w K mg base "_law_kind" ["_law_e"] 1 (xx λC j=>ki K a0 a1 a2 a3 a4 a5 a6 a7 a8 a9 a10 a11 a12 a13 a14 aE C j):=u0.cal X G (λ_ _ _ _ _ _=>dD λ_=>rfl) (λF=>Qg F T Er);have kB:j0 l.prog w K mg "order_by" ["things","is_at_most"] 7 1 2 (r9 K C):=by
  obtain⟨f,fd,a,F⟩:=u6.ex;refine⟨f,fd,λbase p ja LO=>?_,W.mg_of X G a,F.kp,F.binds (λ_ _ _ _ _ _=>bS λ_ _=>rfl)⟩;have dH:aG l.prog w K mg base "is_whole" ["value"] 1 jS:=pZ.cal X G (λ_ _ _ _ _ _=>dD λ_=>rfl) (λF=>Ef F T);have mL:aG l.prog w K mg base "is_thing" ["count","number"] 2 rV:=pX.cal X G (λ_ _ _ _ _ _=>bS λ_ _=>rfl) (λF=>Ee F T dH);have kA:aG l.prog w K mg base "need_thing" ["count","number"] 3 r6:=p8.cal X G (λ_ _ _ _ _ _=>bS λ_ _=>rfl) (λF=>Ek F T mL);have mM:aG l.prog w K mg base "need_count" ["count"] 2 rX:=p4.cal X G (λ_ _ _ _ _ _=>dD λ_=>rfl) (λF=>Eg F T dH);have mQ:aG l.prog w K mg base "need_pairs" ["count","pairs"] 4 (r0 K):=p7.cal X G (λ_ _ _ _ _ _=>bS λ_ _=>rfl) (λF=>Ej F T kA);have mS:aG l.prog w K mg base "own_row" ["count","thing"] 1 sd:=p9.cal X G (λ_ _ _ _ _ _=>bS λ_ _=>rfl) (λF=>El F T);have mJ:aG l.prog w K mg base "either" ["one","other"] 1 rP:=pU.cal X G (λ_ _ _ _ _ _=>bS λ_ _=>rfl) (λF=>Ea F T);have mW:aG l.prog w K mg base "shared" ["one","other"] 1 si:=qb.cal X G (λ_ _ _ _ _ _=>bS λ_ _=>rfl) (λF=>Eo F T);have mI:aG l.prog w K mg base "column" ["rows","place"] 1 rN:=pT.cal X G (λ_ _ _ _ _ _=>bS λ_ _=>rfl) (λF=>D_ F T);have mV:aG l.prog w K mg base "reach_of" ["count","pairs"] 2 (sf K):=qa.cal X G (λ_ _ _ _ _ _=>bS λ_ _=>rfl) (λF=>En F T mS mJ);have hJ:aG l.prog w K mg base "twos" ["count"] 1 oz:=qc.cal X G (λ_ _ _ _ _ _=>dD λ_=>rfl) (λF=>Ep F T);have mP:aG l.prog w K mg base "need_one_way" ["count","reach"] 2 rZ:=p6.cal X G (λ_ _ _ _ _ _=>bS λ_ _=>rfl) (λF=>Ei F T hJ);have mK:aG l.prog w K mg base "ends_with" ["rows","things","thing"] 2 (rR K):=pW.cal X G (λ_ _ _ _ _ _=>lF λ_ _ _=>rfl) (λF=>Ec F T mW);have kx:aG l.prog w K mg base "ends_of" ["rows"] 3 (rQ K):=pV.cal X G (λ_ _ _ _ _ _=>dD λ_=>rfl) (λF=>Eb F T mK);have mO:aG l.prog w K mg base "need_ends" ["count","joins","meets"] 2 rY:=p5.cal X G (λ_ _ _ _ _ _=>lF λ_ _ _=>rfl) (λF=>Eh F T hJ);have mU:aG l.prog w K mg base "pairs_of" ["count","reach"] 1 se:=p_.cal X G (λ_ _ _ _ _ _=>bS λ_ _=>rfl) (λF=>Em F T);have pI:lJ l.prog w K mg base C "Order" ["self","count","pairs"] 5 (rT K C):=cO.cal X G (λ_ _ _ _ _ _=>lF λ_ _ _=>rfl) (λF=>Ed F T TC mM mQ mV mP kx mI mO mU);exact Ql F T pI LO
 have kE:eE l.prog w K mg base "dividers" ["number"] 2 (rO a8):=uS.Jw X G (λ_ _ _ _ _ _=>dD λ_=>rfl) (λF=>Qm F T vf xZ yb Er iF dH);have uK:eE l.prog w K mg base "dividing" ["number"] 8 (xA C P0 a8):=uT.uH X G (λ_ _ _ _ _ _=>dD λ_=>rfl) ht (λF hc=>Qn F hc tb T TC kE kB);have uB:aG l.prog w K mg base "field_with" ["field","row"] 2 xC:=uU.cal X G (λ_ _ _ _ _ _=>bS λ_ _=>rfl) (λF=>Qf F T vg);have kF:eE l.prog w K mg base "fields_of" ["width"] 3 (rS P1 a8):=uV.uH X G (λ_ _ _ _ _ _=>dD λ_=>rfl) ht1 (λF hc=>Qo F hc Us T xR Er iF dH uB);have uL:eE l.prog w K mg base "sums_order" ["width"] 8 (xG C P1 P2 a8):=u9.uH X G (λ_ _ _ _ _ _=>dD λ_=>rfl) vC (λF hc=>Qp F hc tb2 T TC kF kB);have ky:aG l.prog w K mg base "_law_asked" ["_law_way","_law_number"] 9 (xv P0 P1 P2):=uX.cal X G (λ_ _ _ _ _ _=>bS λ_ _=>rfl) (λF=>Qc F T Er lz kE uK kF uL uE);have uC:aG l.prog w K mg base "_law_dividers" ["_law_number"] 1 xD:=uY.cal X G (λ_ _ _ _ _ _=>dD λ_=>rfl) (λF=>Qi F T);exact(Qh F T uD uG uC ky).mono (by decide)
end My
open PySem PySem.W PyProof.Rows
set_option maxRecDepth 100000 in
set_option maxHeartbeats 0 in
theorem PySem.Challenge.cw_evenclimb_k63_orders_made_refused_holds : PySem.Challenge.rw_evenclimb_k63_orders_made_refused.Holds := by
 w_on;o_law;k_head;(case hw=>w_witness2)
 k_fill
 refine' My.U6 (l:=PySem.Challenge.rw_evenclimb_k63_orders_made_refused) rfl rfl (λw h Y=>⟨PySem.W.km_in_of Y,zh Y _ (List.Mem.tail _ (List.Mem.tail _ (List.Mem.head _))),zh Y _ (List.Mem.tail _ (List.Mem.head _)),zh Y _ (List.Mem.head _)⟩) ?hT ?hT1 ?hT2 ?noT ?hne ?F
 case F =>
  intro w mg fa h KX G hmg
  refine' My.all_mk KX G hmg ?tx ?cO ?nC ?nP ?nR ?nJ ?nM ?ht ?ht1 ?vC ?wg ?wj ?wu ?wx ?wt ?vX ?er ?lz ?iF ?pZ ?pX ?p8 ?p4 ?p7 ?p9 ?pU ?qb ?pT ?qa ?qc ?p6 ?pW ?pV ?p5 ?p_ ?u3 ?uZ ?u5 ?u0 ?u6 ?uS ?uT ?uU ?uV ?u9 ?uX ?uY ?uW
  (case tx=>(refine' My.km.mk' ?l1 ?l2 ?l3 ?l4 ?l5 ?l6 ?l7 ?l8 ?l9 ?l10 ?vP ?vQ ?vR ?vS ?vT ?vU ?m);(case l1=>k_is);(case l2=>k_is);(case l3=>k_is);(case l4=>k_is);(case l5=>k_is);(case l6=>k_is);(case l7=>k_is);(case l8=>k_is);(case l9=>k_is);(case l10=>k_is);(case vP=>k_is);(case vQ=>k_is);(case vR=>k_is);(case vS=>k_is);(case vT=>k_is);(case vU=>k_is);(case m=>k_is);skip)
  (case cO=>(refine' My.ClsAt.mk' ?ns ?pg ?hd ?po ?sa ?mk ?kc ?a ?i ?l ?c ?k);(case ns=>k_is);(case pg=>k_is);(case hd=>k_is);(case po=>k_is);(case sa=>k_is);(case mk=>k_is);(case kc=>k_is);(case a=>k_is);(case i=>k_is);(case l=>k_is);(case c=>k_is);(case k=>k_is))
  (case nC|nP|nR|nJ|nM=>k_is)
  (case ht|ht1|vC=>((refine' My.xS ?a ?l ?c ?l2 ?v);(case a=>k_is);(case l=>k_is);(case c=>exact rfl);(case l2=>k_is);(case v=>exact rfl)))
  (case wg|wj|wu|wx|wt|vX=>k_is)
  (case er=>(refine' L2.oJ.mk ?e0 ?e1 ?e2 ?e3 ?e4 ?e5 ?e6 ?e7 ?e8 ?e9 ?e10 ?Kh ?Ki ?Kj ?Kl ?Km ?Kn);(case e0=>k_is);(case e1=>k_is);(case e2=>k_is);(case e3=>k_is);(case e4=>k_is);(case e5=>k_is);(case e6=>k_is);(case e7=>k_is);(case e8=>k_is);(case e9=>k_is);(case e10=>k_is);(case Kh=>k_is);(case Ki=>k_is);(case Kj=>k_is);(case Kl=>k_is);(case Km=>k_is);(case Kn=>k_is))
  (case lz=>(refine' L2.ki.mk (L2.iP.mk ?x1 ?x2 ?x3 ?x4 ?x5 ?x6 ?x7) ?x8 ?x9 ?x10 ?k0 ?k1 ?k2 ?k3 ?k4 ?k5 ?k6 ?k7 ?k8 ?k9 ?k10 ?k11 ?k12 ?k13 ?k14);(case x1=>k_is);(case x2=>k_is);(case x3=>k_is);(case x4=>k_is);(case x5=>k_is);(case x6=>k_is);(case x7=>k_is);(case x8=>kts_exm);(case x9=>kit_is);(case x10=>kit_is);(case k0=>kit_is);(case k1=>kit_is);(case k2=>kit_is);(case k3=>kit_is);(case k4=>kit_is);(case k5=>kit_is);(case k6=>kit_is);(case k7=>kit_is);(case k8=>kit_is);(case k9=>kit_is);(case k10=>kit_is);(case k11=>kit_is);(case k12=>kit_is);(case k13=>kit_is);(case k14=>kit_is))
  (case iF=>k_exc)
  (case pZ|pX|p8|p4|p7|p9|pU|qb|pT|qa|qc|p6|pW|pV|p5|p_|u3|uZ|u5|u0|u6|uS|uT|uU|uV|u9|uX|uY|uW=>(refine' My.aH.mk' ?a ?l ?c ?k);(case a=>k_is);(case l=>k_is);(case c=>k_is);(case k=>k_is))
 case hT=>(intro w;kernel_rfl)
 case hT1=>(intro w;kernel_rfl)
 case hT2=>(intro w;kernel_rfl)
 case hne=>decide
 case noT=>(intro w;kernel_rfl)
