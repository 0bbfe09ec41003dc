import PyProof.Rows.All
import KE.KIntText
import KE.KRevSl
import KE.KTryMore
import KE.RegKIsAll
import KE.RegKTryMore
import Lean
import OpenK.AllK
import PyProof.EqAt
import PyProof.EqKinds
import PyProof.ExcAttrAll.ValueError
import PyProof.ExcBaseAll.ValueError
import PyProof.ExcInit
import PyProof.FString
import PyProof.InstStoreFacts
import PyProof.NeKinds
import PyProof.NsDelKeeps
import PyProof.ReprHeadsTuple
import PyProof.ReprNest
import PyProof.Rows.SetFrom
import PyProof.Rows.StrItems
import PyProof.Rows.StrSplitCount
import PyProof.StrBlock2
import PyProof.StrBlockH
import PyProof.StrWalks
import PyProof.TupleCall
import Wide.All
import Wide.FinOn
import PySem.Challenge.RW_evenclimb_k72_order_texts_refused
set_option Elab.async false
set_option linter.all false
set_option maxRecDepth 100000
set_option maxHeartbeats 8000000
set_option bootstrap.genMatcherCode false
noncomputable section
noncomputable def ah:=@PySem.wpAny_bind
noncomputable def au:=@if_neg
noncomputable def ax:=@PyProof.Rows.wpS_bind
noncomputable def az:=@if_pos
noncomputable def aB:=@List.length_map
noncomputable def aC:=@PySem.wpAny_pure
noncomputable def aK:=@List.getElem?_eq_getElem
noncomputable def aL:=@PyProof.Rows.wpS_pure
noncomputable def aM:=@PySem.Heap.get?_push_of_some
noncomputable def aO:=@Nat.le_refl
noncomputable def aV:=@PySem.Heap.lt_size
noncomputable def aZ:=@List.getD_eq_getElem?_getD
noncomputable def bu:=@List.mem_cons
noncomputable def bE:=@decide_eq_false
noncomputable def bJ:=@Int.toNat_natCast
noncomputable def bK:=@decide_eq_true
noncomputable def bN:=@Nat.le_trans
noncomputable def bO:=@Nat.ne_of_lt
noncomputable def bR:=@PySem.Heap.get?_push_size
noncomputable def bT:=@List.mem_cons_of_mem
noncomputable def bW:=@List.mem_singleton
noncomputable def bY:=@Bool.false_ne_true
noncomputable def cg:=@Nat.lt_of_lt_of_le
noncomputable def cu:=@PyProof.Rows.boot_isinstance
noncomputable def cw:=@PySem.boot_len
noncomputable def cy:=@PySem.PassesOwn.never
noncomputable def cD:=@List.size_toArray
noncomputable def cE:=@Ne.symm
noncomputable def cG:=@List.getElem?_eq_some_iff
noncomputable def cI:=@List.map_cons
noncomputable def cK:=@List.mem_cons_self
noncomputable def cU:=@List.mem_map
noncomputable def cV:=@PySem.Paired.length
noncomputable def di:=@PyProof.Rows.wpS_forRange
noncomputable def dj:=@PyProof.Rows.wpS_mono
noncomputable def dq:=@Array.length_toList
noncomputable def dr:=@List.length_cons
noncomputable def du:=@PySem.W.mg_of
noncomputable def dB:=@Bool.and_eq_true
noncomputable def dD:=@List.length_append
noncomputable def dR:=@List.getElem?_map
noncomputable def dS:=@Nat.le_of_lt
noncomputable def dU:=@Option.some.inj
noncomputable def dW:=@PySem.wpAny_field
noncomputable def dX:=@PySem.wpAny_mono
noncomputable def eh:=@List.mem_of_getElem?
noncomputable def eK:=@Nat.zero_le
noncomputable def eM:=@PySem.Heap.size_push
noncomputable def eN:=@PySem.W.mg_none_of
noncomputable def fb:=@Int.zero_add
noncomputable def fe:=@List.mem_append
noncomputable def fh:=@Nat.lt_irrefl
noncomputable def fP:=@Array.getElem?_eq_getElem
noncomputable def fS:=@List.not_mem_nil
noncomputable def fU:=@PySem.F.plainAttrs_list
noncomputable def fV:=@PySem.wpAny_holding
noncomputable def gA:=@or_false
noncomputable def gQ:=@Bool.eq_iff_iff
noncomputable def gU:=@List.length_take
noncomputable def gW:=@List.map_append
noncomputable def gX:=@Nat.ne_of_gt
noncomputable def gZ:=@beq_iff_eq
noncomputable def iw:=@List.lookup_cons
noncomputable def iy:=@List.map_map
noncomputable def iA:=@PyProof.Rows.wpS_get
noncomputable def iB:=@PySem.Heap.get?_update_self
noncomputable def iC:=@PySem.W.kia_one
noncomputable def iD:=@PySem.wpAny_setField_rec
noncomputable def i_:=@List.find?_cons
noncomputable def ja:=@List.getElem_mem
noncomputable def jb:=@List.sum_cons
noncomputable def jd:=@Nat.pow_le_pow_right
noncomputable def je:=@PySem.F.plainAttrs_str
noncomputable def jf:=@PySem.Heap.get?_update_other
noncomputable def jg:=@PySem.wpAny_call_entry
noncomputable def jB:=@Bool.true_and
noncomputable def jE:=@Int.one_mul
noncomputable def jF:=@List.all_eq_true
noncomputable def jG:=@List.length_range
noncomputable def jH:=@List.mem_append_right
noncomputable def jI:=@List.nodup_cons
noncomputable def jJ:=@PyProof.Rows.wpS_modify
noncomputable def jK:=@PySem.F.slot_str_split
noncomputable def jL:=@PySem.codeAny_mono
noncomputable def jM:=@PySem.wpAny_seqItems
noncomputable def j_:=@Bool.false_and
noncomputable def ki:=@List.ext_getElem
noncomputable def ko:=@PySem.Obj.data_mapFields
noncomputable def kr:=@PySem.wpAny_attempt
noncomputable def ku:=@PySem.wpAny_call
noncomputable def kx:=@PySem.wpAny_truthy_bool
noncomputable def kH:=@decide_eq_true_iff
noncomputable def lM:=@List.getElem_of_mem
noncomputable def lN:=@List.length_set
noncomputable def lO:=@Nat.testBit_or
noncomputable def lP:=@PySem.F.called_set
noncomputable def lQ:=@PySem.F.slot_list_append
noncomputable def lR:=@PySem.call_meets
noncomputable def lS:=@PySem.sizeLine_eq
noncomputable def lT:=@PySem.wpAny_callSpecial?_slot
noncomputable def lW:=@beq_eq_false_iff_ne
noncomputable def mE:=@if_true
noncomputable def nj:=@Array.getElem?_eq_some_iff
noncomputable def nq:=@List.any_cons
noncomputable def nr:=@List.drop_length
noncomputable def nu:=@List.drop_zero
noncomputable def ny:=@List.filterMap_cons
noncomputable def nz:=@List.length_drop
noncomputable def nA:=@List.map_take
noncomputable def nB:=@List.range_succ
noncomputable def nD:=@List.take_of_length_le
noncomputable def nE:=@Nat.le_succ
noncomputable def nG:=@Nat.lt_of_le_of_lt
noncomputable def nQ:=@PySem.F.type_list_append
noncomputable def nU:=@PySem.F.type_str_split
noncomputable def nW:=@PySem.Str.length_append
noncomputable def nX:=@PySem.mem_of_lookup
noncomputable def nY:=@PySem.wpAny_newObj_type
noncomputable def nZ:=@PySem.wpAny_passesOwn
noncomputable def n_:=@PySem.wpAny_rule
noncomputable def oE:=@if_false
noncomputable def oN:=@of_decide_eq_true
noncomputable def pE:=@Array.getElem?_toList
noncomputable def pF:=@Array.toList_push
noncomputable def pL:=@Int.emod_nonneg
noncomputable def pM:=@List.getElem?_range
noncomputable def pN:=@List.map_congr_left
noncomputable def pO:=@List.map_drop
noncomputable def pP:=@List.map_set
noncomputable def pQ:=@List.mem_append_left
noncomputable def pR:=@List.take_length
noncomputable def pV:=@Nat.lt_succ_self
noncomputable def pW:=@Option.bind_some
noncomputable def p7:=@PySem.Obj.isFreed_of_fields
noncomputable def p8:=@PySem.codeAny_builtin
noncomputable def p9:=@PySem.wpAny_setField
noncomputable def p_:=@PySem.wpAny_setState_of
noncomputable def qa:=@PySem.wpAny_standAt
noncomputable def rG:=@Bool.false_eq_true
noncomputable def rH:=@Bool.or_eq_true
noncomputable def rP:=@Int.natAbs_natCast
noncomputable def rR:=@List.all_cons
noncomputable def rS:=@List.append_nil
noncomputable def rT:=@List.cons.injEq
noncomputable def rV:=@List.cons_append
noncomputable def rW:=@List.getElem?_append_right
noncomputable def rX:=@List.getElem?_set_ne
noncomputable def rY:=@List.length_filter_le
noncomputable def rZ:=@List.mem_filter
noncomputable def r0:=@List.mem_of_mem_take
noncomputable def sd:=@Nat.lt_succ_of_lt
noncomputable def se:=@Nat.lt_trans
noncomputable def sf:=@Nat.min_eq_left
noncomputable def si:=@Nat.testBit_and
noncomputable def sj:=@PyProof.Rows.callWith_type1
noncomputable def sm:=@PySem.Calls.evalArgs_plain
noncomputable def sr:=@PySem.F.slot_list_insert
noncomputable def su:=@PySem.Heap.get?_none_of_le
noncomputable def sv:=@PySem.Heap.size_after_update
noncomputable def sx:=@PySem.StrLaws.join_split
noncomputable def sy:=@PySem.typeIs_str
noncomputable def sC:=@PySem.wpAny_Call_Name_kw
noncomputable def sE:=@PySem.wpAny_execs_nil
noncomputable def sF:=@PySem.wpAny_loadPart_at
noncomputable def sG:=@PySem.wpAny_pyIter_list
noncomputable def sH:=@PySem.wpAny_setEntries_of
noncomputable def tP:=@getElem?_pos
noncomputable def wk:=@Array.getD_eq_getD_getElem?
noncomputable def wm:=@Bool.or_true
noncomputable def wq:=@Int.emod_lt_of_pos
noncomputable def wt:=@Int.natCast_nonneg
noncomputable def wu:=@Int.toNat_of_nonneg
noncomputable def wy:=@List.all_map
noncomputable def wz:=@List.getElem?_append_left
noncomputable def wA:=@List.getElem?_eq_none
noncomputable def wB:=@List.getElem?_set_self
noncomputable def wC:=@List.mem_flatMap
noncomputable def wD:=@List.nil_append
noncomputable def wF:=@List.take_succ_eq_append_getElem
noncomputable def wG:=@Nat.and_assoc
noncomputable def wH:=@Nat.eq_of_testBit_eq
noncomputable def wI:=@Nat.le_of_eq
noncomputable def wJ:=@Nat.log2_lt
noncomputable def wK:=@Nat.min_eq_right
noncomputable def wL:=@Nat.sub_zero
noncomputable def wM:=@Nat.two_pow_pos
noncomputable def wN:=@Option.map_some
noncomputable def wQ:=@PySem.Code.quiet_builtin
noncomputable def wR:=@PySem.F.slot_bool_hash
noncomputable def wU:=@PySem.F.slot_str_join
noncomputable def wV:=@PySem.F.slot_tuple_iterator_next
noncomputable def wW:=@PySem.F.slot_zip_next
noncomputable def wX:=@PySem.F.type_list_insert
noncomputable def wY:=@PySem.F.type_str_join
noncomputable def wZ:=@PySem.Heap.SameBut.update
noncomputable def w4:=@PySem.Heap.get?_update_ne
noncomputable def w5:=@PySem.SeqAt.EqAt.bool_bool
noncomputable def w6:=@PySem.SeqAt.EqAt.same
noncomputable def w8:=@PySem.codeAny_call_builtin
noncomputable def w9:=@PySem.plainId_quiet
noncomputable def w_:=@PySem.wpAny_fieldsOf
noncomputable def xg:=@PySem.wpAny_isInstance
noncomputable def xh:=@PySem.wpAny_of_eq
noncomputable def xi:=@PySem.wpAny_onRaise
noncomputable def DW:=@Array.getElem?_eq_none
noncomputable def DX:=@Array.getElem_mem
noncomputable def DY:=@Array.toList_append
noncomputable def Eb:=@Bool.and_false
noncomputable def Ec:=@Bool.or_false
noncomputable def Eh:=@List.eraseIdx_cons_succ
noncomputable def Ei:=@List.filter_append
noncomputable def Ej:=@List.forIn_cons
noncomputable def Ek:=@List.getElem_map
noncomputable def El:=@List.head_eq_of_cons_eq
noncomputable def Em:=@List.length_nil
noncomputable def En:=@List.map_nil
noncomputable def Eo:=@List.mem_of_mem_drop
noncomputable def Ep:=@List.mem_or_eq_of_mem_set
noncomputable def Es:=@List.mem_range
noncomputable def Et:=@List.of_mem_zip
noncomputable def Eu:=@List.pairwise_map
noncomputable def Ew:=@List.perm_append_singleton
noncomputable def Ex:=@Nat.le_of_not_lt
noncomputable def Ey:=@Nat.sub_self
noncomputable def Ez:=@Nat.succ_mul
noncomputable def EY:=@Nat.testBit_lt_two_pow
noncomputable def E_:=@Nat.testBit_two_pow
noncomputable def Fb:=@Option.some.injEq
noncomputable def Fd:=@Prod.mk.injEq
noncomputable def Fe:=@PyProof.Rows.F.plain_set_update_loop
noncomputable def Ff:=@PySem.Around.under_plainId
noncomputable def Fg:=@PySem.Calls.Constant_str
noncomputable def Fh:=@PySem.Calls.callWith_builtin
noncomputable def Fi:=@PySem.F.args_str_split_2
noncomputable def Fj:=@PySem.F.entry_str_split
noncomputable def Fl:=@PySem.F.excBase_ValueError
noncomputable def Fm:=@PySem.F.slot_dict_get
noncomputable def Fn:=@PySem.F.slot_list_extend
noncomputable def Fo:=@PySem.Heap.get?_push_at
noncomputable def Fp:=@PySem.SeqAt.EqAt.of_refs
noncomputable def Fq:=@PySem.StrLaws.glued_eq_join
noncomputable def Fs:=@PySem.Value.isInt_shape
noncomputable def Ft:=@PySem.W.callWith_K
noncomputable def Fu:=@PySem.codeAny_of_tree
noncomputable def Fv:=@PySem.int_text_length_le
noncomputable def Fw:=@PySem.slot_list_getitem
noncomputable def Fx:=@PySem.wpAny_askSetting
noncomputable def Fy:=@PySem.wpAny_ite_split
noncomputable def Fz:=@PySem.wpAny_specialOf
noncomputable def FG:=@PySem.wpAny_updateSeq_pair
noncomputable def JL:=@ne_true_of_eq_false
noncomputable def Oc:=@Array.mem_iff_getElem
noncomputable def Oh:=@Int.fdiv_eq_ediv_of_nonneg
noncomputable def Oj:=@List.eq_nil_of_length_eq_zero
noncomputable def Ol:=@List.findIdx?_eq_none_iff
noncomputable def Om:=@List.getElem?_cons_succ
noncomputable def Oo:=@List.getElem?_cons_zero
noncomputable def Oq:=@List.getElem?_replicate
noncomputable def Ot:=@List.getElem?_take_of_lt
noncomputable def Ou:=@List.length_eq_zero_iff
noncomputable def Ov:=@List.length_eraseIdx_of_lt
noncomputable def Ow:=@List.length_pos_of_mem
noncomputable def Ox:=@List.length_replicate
noncomputable def Oy:=@List.take_append_drop
noncomputable def Oz:=@Nat.testBit_eq_decide_div_mod_eq
noncomputable def OD:=@Nat.testBit_two_pow_self
noncomputable def OJ:=@Nat.two_pow_add_eq_or_of_lt
noncomputable def O4:=@PySem.F.args_dict_get_2
noncomputable def O5:=@PySem.F.args_tuple_iterator_next_1
noncomputable def O6:=@PySem.F.entry_dict_get
noncomputable def O7:=@PySem.F.entry_tuple_iterator_next
noncomputable def O8:=@PySem.F.slot_list_index
noncomputable def O9:=@PySem.F.type_list_extend
noncomputable def O_:=@PySem.W.cellsFrom_some
noncomputable def Pa:=@PySem.ofString_length
noncomputable def Pb:=@PySem.plainObj_wpAny_Assign_Attribute
noncomputable def Qk:=@decide_eq_false_iff_not

set_option genSizeOf false
namespace L2
open PySem PySem.Spec PyProof.Rows
abbrev Key:=Sum Int Str
noncomputable def oF:Int->Value->Bool
 |k,.bool b=>k==(if b then 1 else 0)
 |_,_=>false
noncomputable def kW:Key->Value->Bool
 |.inl k,v=>Value.isInt k v||oF k v
 |.inr x,v=>Value.isStrOf x v
noncomputable def TV(w:World):Key->Int
 |.inl k=>hashInt k
 |.inr x=>hashStr w x
theorem Ts{k:Int}{v:Value}(h:oF k v=true):∃b:Bool,k=(if b then 1 else 0)/\v=Value.bool b:=by
 cases v with
 |bool b=>exact⟨b,by simpa[oF]using h,rfl⟩
 |_=>simp[oF]at h
theorem iM:∀{k:Key} {v:Value},kW k v=true->(∃i t,k=Sum.inl i/\v=Value.int i t)\/(∃x t,k=Sum.inr x/\v=Value.str x t)\/(∃b:Bool,k=Sum.inl (if b then 1 else 0)/\v=Value.bool b)
 |.inl i,v,h=>by
  rcases(rH _ _).mp (show(Value.isInt i v||oF i v)=true from h)with h|h
  ·obtain⟨t,e⟩:=Fs (k:=i) (v:=v) h
   exact .inl ⟨i,t,rfl,e⟩
  ·obtain⟨b,e,e'⟩:=Ts h
   exact .inr (.inr ⟨b,by rw[e],e'⟩)
 |.inr x,v,h=>by
  obtain⟨t,e⟩:=Value.isStrOf_shape (x:=x) (v:=v) h;exact .inr (.inl ⟨x,t,rfl,e⟩)
theorem TY(i:Int)(t:Tok):kW (.inl i) (.int i t)=true:=by simp[kW,Value.isInt]
theorem T1(x:Str)(t:Tok):kW (.inr x) (.str x t)=true:=by simp[kW,Value.isStrOf]
theorem TX(b:Bool):kW (.inl (if b then 1 else 0)) (.bool b)=true:=by cases b<;>simp[kW,oF]
theorem R8{prog:Program}{w:World}{A:Around}{E:Value->Shared->Prop}{s:Shared}{b:Bool}{Q:Int->Shared->Prop}(h:Q (hashInt (if b then 1 else 0)) {s with toks:=s.toks+1}):
  wpAny (model prog w) A (pyHash (.bool b)) Q E s:=by
 have hr:=rawHash_range (if b then 1 else 0);have hT:s.TypeIs (.bool b) "bool" :=rfl;unfold pyHash;have hv:[Value.bool b].any Value.onHeap=false:=rfl;refine ah ?_;rw[cRoomFor,au (by rw[hv];exact bY)];refine aC ?_;refine ah (Fz hT wR.lookup ?_);show wpAny _ _ (if(some (Value.builtin "int.__hash__")==some Value.none)=true then _ else _) Q E s;rw[au (by rw[beq_builtin_none];exact bY)];refine ah (Fz hT wR.lookup ?_);show wpAny _ _ (callSpecialIfBoundUnlessNone? (.bool b) "__hash__" _>>=_) Q E s;refine ah (wpAny_callSpecialIfBoundUnlessNone?_slot hT wR
  (jg wR hT entry_int_hash
   (show wpAny _ _ (do ret (<- mkInt (rawHash (if b then 1 else 0)))) _ _ s from wpAny_ret_mkInt ?_) (args_int_hash _)))
 show wpAny _ _ (if(decide (-(2:Int) ^ 63<=rawHash (if b then 1 else 0))&&decide (rawHash (if b then 1 else 0)<2 ^ 63))=true then _ else _) Q E _;rw[az (by rw[bK hr.1,bK hr.2];rfl)];exact aC h
theorem uq(a b:Int):decide ((Sum.inl a:Key)=Sum.inl b)=(a==b):=by
 by_cases e:a=b
 ·subst e;simp
 ·have h:¬ (Sum.inl a:Key)=Sum.inl b:=λq=>e (Sum.inl.inj q)
  rw[bE h];exact(lW.mpr e).symm
theorem T3(a b:Str):decide ((Sum.inr a:Key)=Sum.inr b)=decide (a=b):=by
 by_cases e:a=b
 ·subst e;simp
 ·have h:¬ (Sum.inr a:Key)=Sum.inr b:=λq=>e (Sum.inr.inj q)
  rw[bE h,bE e]
theorem Jn(a:Int)(b:Str):decide ((Sum.inl a:Key)=Sum.inr b)=false:=bE (λq=>nomatch q)
theorem Jo(a:Str)(b:Int):decide ((Sum.inr a:Key)=Sum.inl b)=false:=bE (λq=>nomatch q)
noncomputable def fq(prog:Program)(w:World):PySem.KeyKind prog w Key where
 is:=kW
 hash:=TV w
 inj:=λv a b ha hb=>by
  rcases iM ha with⟨i,t,rfl,rfl⟩|⟨x,t,rfl,rfl⟩|⟨x,rfl,rfl⟩
  ·rcases iM hb with⟨j,u,rfl,e⟩|⟨y,u,rfl,e⟩|⟨y,rfl,e⟩
   ·injection e with e1 _;rw[e1]
   ·exact nomatch e
   ·exact nomatch e
  ·rcases iM hb with⟨j,u,rfl,e⟩|⟨y,u,rfl,e⟩|⟨y,rfl,e⟩
   ·exact nomatch e
   ·injection e with e1 _;rw[e1]
   ·exact nomatch e
  ·rcases iM hb with⟨j,u,rfl,e⟩|⟨y,u,rfl,e⟩|⟨y,rfl,e⟩
   ·exact nomatch e
   ·exact nomatch e
   ·injection e with e1;rw[e1]
 byValue:=λk v h=>by
  rcases iM h with⟨i,t,rfl,rfl⟩|⟨x,t,rfl,rfl⟩|⟨x,rfl,rfl⟩<;>rfl
 pyHash:=λhv h=>by
  rcases iM hv with⟨i,t,rfl,rfl⟩|⟨x,t,rfl,rfl⟩|⟨x,rfl,rfl⟩
  ·exact wpAny_pyHash_int h
  ·exact wpAny_pyHash_str h
  ·exact R8 h
 eqBool:=λhu hv h=>by
  rcases iM hu with⟨i,t,rfl,rfl⟩|⟨x,t,rfl,rfl⟩|⟨x,rfl,rfl⟩
  ·rcases iM hv with⟨j,u,rfl,rfl⟩|⟨y,u,rfl,rfl⟩|⟨y,rfl,rfl⟩
   ·rw[uq]at h;exact wpAny_eqBool_int h
   ·rw[Jn]at h;exact SeqAt.EqAt.int_str i t y u _ _ _ _ h
   ·rw[uq]at h;exact SeqAt.EqAt.int_bool i t y _ _ _ _ h
  ·rcases iM hv with⟨j,u,rfl,rfl⟩|⟨y,u,rfl,rfl⟩|⟨y,rfl,rfl⟩
   ·rw[Jo]at h;exact SeqAt.EqAt.str_int x t j u _ _ _ _ h
   ·rw[T3]at h;exact wpAny_eqBool_str h
   ·rw[Jo]at h;exact SeqAt.EqAt.str_bool x t y _ _ _ _ h
  ·rcases iM hv with⟨j,u,rfl,rfl⟩|⟨y,u,rfl,rfl⟩|⟨y,rfl,rfl⟩
   ·rw[uq]at h;exact SeqAt.EqAt.bool_int x j u _ _ _ _ h
   ·rw[Jn]at h;exact SeqAt.EqAt.bool_str x y u _ _ _ _ h
   ·rw[uq]at h
    have e:((if x then(1:Int)else 0)==(if y then(1:Int)else 0))=(x==y):=by cases x<;>cases y<;>rfl
    rw[e]at h;exact w5 x y _ _ _ _ h
 «strs»:=λk x t v h=>by
  rcases iM h with⟨i,u,rfl,e⟩|⟨y,u,rfl,e⟩|⟨y,rfl,e⟩
  ·exact nomatch e
  ·injection e with e1 _
   subst e1;cases v<;>rfl
  ·exact nomatch e
theorem Uv(prog:Program)(w:World)(i:Int)(t:Tok):(fq prog w).is (.inl i) (.int i t)=true:=TY i t
theorem Uw(prog:Program)(w:World)(x:Str)(t:Tok):(fq prog w).is (.inr x) (.str x t)=true:=T1 x t
inductive V where
 |non|bl (b:Bool)|int (i:Int)|str (x:Str)|g_ (b:Array UInt8)|flt (b:UInt64)|ref (a:Addr)|ty (n:String)
 deriving DecidableEq
noncomputable def RelV:V->Value->Prop
 |.non,u=>u=Value.none
 |.bl b,u=>u=Value.bool b
 |.int i,u=>∃t,u=Value.int i t
 |.str x,u=>∃t,u=Value.str x t
 |.g_ b,u=>∃t,u=Value.bytes b t
 |.flt b,u=>∃t,u=Value.float b t
 |.ref a,u=>u=Value.ref a
 |.ty n,u=>u=Value.type n
abbrev Vals:List V->List Value->Prop:=Paired RelV
theorem Vals.length{xs:List V}{us:List Value}(r:Vals xs us):xs.length=us.length:=cV r
theorem Vals.get:∀{xs:List V} {us:List Value} {i:Nat} {x:V},Vals xs us->xs[i]?=some x->∃u,us[i]?=some u/\RelV x u
 |_,_,_,_,.nil,e=>by simp at e
 |_,_,0,_,.cons r _,e=>by simp at e;subst e;exact⟨_,rfl,r⟩
 |_,_,i+1,x,.cons _ t,e=>by
  obtain⟨u,h1,h2⟩:=Vals.get (i:=i) (x:=x) t (by simpa using e);exact⟨u,by simpa using h1,h2⟩
theorem Vals.set{x:V}{u:Value}(r:RelV x u):∀{xs:List V} {us:List Value} (i:Nat),Vals xs us->Vals (xs.set i x) (us.set i u)
 |_,_,_,.nil=>.nil
 |_,_,0,.cons _ t=>.cons r t
 |_,_,i+1,.cons q t=>.cons q (Vals.set r i t)
theorem Vals.append:∀{xs ys:List V} {us ws:List Value},Vals xs us->Vals ys ws->Vals (xs++ys) (us++ws)
 |_,_,_,_,.nil,s=>s
 |_,_,_,_,.cons r t,s=>.cons r (Vals.append t s)
theorem Vals.take:∀{xs:List V} {us:List Value} (n:Nat),Vals xs us->Vals (xs.take n) (us.take n)
 |_,_,0,_=>.nil
 |_,_,_+1,.nil=>.nil
 |_,_,n+1,.cons r t=>.cons r (Vals.take n t)
theorem Vals.drop:∀{xs:List V} {us:List Value} (n:Nat),Vals xs us->Vals (xs.drop n) (us.drop n)
 |_,_,0,r=>r
 |_,_,_+1,.nil=>.nil
 |_,_,n+1,.cons _ t=>Vals.drop n t
noncomputable def fD:Option V->Option Value->Prop
 |some v,some u=>RelV v u
 |none,none=>True
 |_,_=>False
noncomputable def KV{κ:Type}:List (κ × V)->List (κ × Value)->Prop:=Paired λ(p:κ × V) (q:κ × Value)=>p.1=q.1/\RelV p.2 q.2
noncomputable def kV:Key->V
 |.inl i=>.int i
 |.inr x=>.str x
inductive HO where
 |lst (xs:List V)
 |tup (xs:List V)
 |dK (kvs:List (Key × V))|dT (kvs:List (List Key × V))
 |set (S:Int->Bool) (n:Nat)
 |ins (C dx:Addr) (fs:List (Str × V))
 |own (x:Addr)
 |xd (fs:List (Str × V))
 |met (f x:Addr)
 |rng (lo hi:Int)
 |d4 (o:Obj) (u:HO)
 |lC (ps:Array Value)
 |lam (pos:Pos) (qual:Str)
 |ext (φ:Heap->Prop)
noncomputable def Jk(k:Key)(v:V):Prop:=v=kV k\/∃b:Bool,v = .bl b/\k = .inl (if b then 1 else 0)
abbrev z7:List Key->List V->Prop:=Paired Jk
noncomputable def jN(H:Addr->Option HO)(b:Addr)(ks:List Key):Prop:=∃ws,z7 ks ws/\H b=some (.tup ws)
abbrev Hp:=Addr->Option HO
noncomputable def upd(H:Hp)(a:Addr)(o:HO):Hp:=λb=>if b=a then some o else H b
theorem ak{H:Hp}{a:Addr}{o:HO}:upd H a o a=some o:=by unfold upd;rw[az rfl]
theorem aA{H:Hp}{a b:Addr}{o:HO}(h:b≠a):upd H a o b=H b:=by unfold upd;rw[au h]
theorem DG{H:Hp}{a:Addr}{o u:HO}:upd (upd H a o) a u=upd H a u:=by
 funext b;unfold upd;split<;>rfl
theorem mL{H:Hp}{a b:Addr}{o u:HO}(h:H a=some o)(h':H b=some u)(d:o≠u):a≠b:=by
 intro e;subst e;rw[h]at h';exact d (dU h')
theorem cF{H:Hp}{a b:Addr}{o:HO}(h:H a=some o)(h':H b=none):a≠b:=by
 intro e;subst e;rw[h]at h';cases h'
section
variable (P:Program) (w:World)
noncomputable def bG(H:Hp)(h:Heap)(a:Addr):HO->Prop
 |.lst xs=>xs.length<=sizeLine/\∃(its:List Value) (n:Nat),Vals xs its/\h.get? a=some {cls:=.type "list", data:=.seq its.toArray n}
 |.tup xs=>xs.length<=sizeLine/\∃its:List Value,Vals xs its/\IsTup h a its.toArray/\∃o,h.get? a=some o/\o.dict=none
 |.dK kvs=>kvs.length<=sizeLine/\(a==sysModules)=false/\∃vs,KV kvs vs/\h.DictOf (fq P w) a vs
 |.dT kvs=>kvs.length<=sizeLine/\(a==sysModules)=false/\∃xs:List (List Key × Addr × Value),
   Paired (λ(p:List Key × V) (q:List Key × Addr × Value)=>p.1=q.1/\jN H q.2.1 p.1/\RelV p.2 q.2.2) kvs xs /\
   ∃o es ep,h.get? a=some o/\o.ExactDict/\o.data = .dict es ep/\es.toList=xs.map (entryOfKey (tupleKind (fq P w)))/\(xs.map (·.1)).Nodup
 |.set S n=>h.SetOf (intKind P w) a S n
 |.ins C dx fs=>H dx=some (.own a)/\fs.length<=1000/\dx≠a/\h.get? a=some (W.instObj C dx) /\
   ∃mA,h.Ns1 dx mA/\(∀f,fD (fs.lookup f) (mA f))/\PySem.Within mA (fs.map (·.1))
 |.own _=>∃o,h.get? a=some o
 |.xd fs=>∃mA,h.Ns1 a mA/\∀f,fD (fs.lookup f) (mA f)
 |.rng lo hi=>∃t u v,h.get? a=some {cls:=.type "range", data:=.fields #[.int lo t,.int hi u,.int 1 v]}
 |.d4 o u=>h.get? a=some o/\bG H h a u
 |.lC ps=>h.get? a=some {cls:=.none,data:=.fields ps}
 |.lam pos qual=>∃ps,h.get? a=some {cls:=.none,data:=.fields ps}/\TriplesOk ps.toList/\∀cv,codeAmong pos ps.toList=some cv->∃c o u vs t,cv = .ref c/\H c=some (.d4 o u)/\o.data = .fields vs/\vs[1]?=some (.str qual t)
 |.met f x=>h.get? a=some (W.methodObj (.ref f) (.ref x))
 |.ext φ=>φ h/\(∃o,h.get? a=some o)/\∀h1 h2:Heap,φ h1->(∀o,h1.get? a=some o->h2.get? a=some o)->φ h2
noncomputable def bI(H:Hp)(h:Heap):Prop:=∀a o,H a=some o->bG P w H h a o
end
section
variable {P:Program} {w:World} {H H':Hp} {h h':Heap} {a:Addr} {o:HO}
theorem bG.lt(x:bG P w H h a o):a<h.objs.size:=by
 cases o with
 |lst xs=>obtain⟨_,_,_,_,e⟩:=x;exact aV e
 |tup xs=>obtain⟨_,_,_,p,_⟩:=x;exact p.lt
 |dK kvs=>obtain⟨_,_,_,_,o,_,_,e,_⟩:=x;exact aV e
 |dT kvs=>obtain⟨_,_,_,_,o,_,_,e,_⟩:=x;exact aV e
 |set S n=>obtain⟨o,_,_,_,e,_⟩:=x;exact aV e
 |ins C dx fs=>obtain⟨_,_,_,e,_⟩:=x;exact aV e
 |own y=>obtain⟨_,e⟩:=x;exact aV e
 |xd fs=>obtain⟨_,⟨_,_,_,e,_⟩,_⟩:=x;exact aV e
 |rng lo hi=>obtain⟨_,_,_,e⟩:=x;exact aV e
 |d4 ob u=>obtain⟨e,_⟩:=x;exact aV e
 |lC ps=>exact aV (show h.get? a=some _ from x)
 |lam pos qual=>obtain⟨_,e,_⟩:=x;exact aV e
 |met f y=>exact aV (show h.get? a=some _ from x)
 |ext φ=>obtain⟨_,⟨_,e⟩,_⟩:=x;exact aV e
theorem Paired.c5{α β:Type}{F G:α->β->Prop}:∀{l₁:List α} {l₂:List β},Paired F l₁ l₂->(∀a b,F a b->G a b)->Paired G l₁ l₂
 |_,_,.nil,_=>.nil
 |_,_,.cons r t,f=>.cons (f _ _ r) (Paired.c5 t f)
theorem bG.stay(x:bG P w H h a o)(k:∀b u,(b=a\/H b=some (.own a))->h.get? b=some u->h'.get? b=some u)(ho:∀b,H b=some (.own a)->H' b=some (.own a))(ht:∀b xs,H b=some (.tup xs)->H' b=some (.tup xs))(hz:∀b ob u,H b=some (.d4 ob u)->H' b=some (.d4 ob u)):bG P w H' h' a o:=by
 induction o with
 |lst xs=>obtain⟨z,its,n,r,e⟩:=x;exact⟨z,its,n,r,k _ _ (.inl rfl) e⟩
 |tup xs=>obtain⟨z,its,r,⟨ob,e,c⟩,od,e2,d⟩:=x;exact⟨z,its,r,⟨ob,k _ _ (.inl rfl) e,c⟩,od,k _ _ (.inl rfl) e2,d⟩
 |dK kvs=>obtain⟨z,y,vs,r,ob,es,ep,e,c⟩:=x;exact⟨z,y,vs,r,ob,es,ep,k _ _ (.inl rfl) e,c⟩
 |dT kvs =>
  obtain⟨z,y,xs,r,ob,es,ep,e,c⟩:=x;exact⟨z,y,xs,Paired.c5 r λp q z=>⟨z.1,(let⟨ws,k1,k2⟩:=z.2.1;⟨ws,k1,ht _ _ k2⟩),z.2.2⟩,ob,es,ep,k _ _ (.inl rfl) e,c⟩
 |set S n=>obtain⟨ob,es,ep,t,e,c⟩:=x;exact⟨ob,es,ep,t,k _ _ (.inl rfl) e,c⟩
 |ins C dx fs =>
  obtain⟨d,z,ne,e,mA,⟨od,es,ep,e2,c⟩,r⟩:=x;exact⟨ho _ d,z,ne,k _ _ (.inl rfl) e,mA,⟨od,es,ep,k _ _ (.inr d) e2,c⟩,r⟩
 |own y=>obtain⟨ob,e⟩:=x;exact⟨ob,k _ _ (.inl rfl) e⟩
 |xd fs=>obtain⟨mA,⟨od,es,ep,e,c⟩,r⟩:=x;exact⟨mA,⟨od,es,ep,k _ _ (.inl rfl) e,c⟩,r⟩
 |rng lo hi=>obtain⟨t,u,v,e⟩:=x;exact⟨t,u,v,k _ _ (.inl rfl) e⟩
 |d4 ob u ih=>obtain⟨e,q⟩:=x;exact⟨k _ _ (.inl rfl) e,ih q⟩
 |lC ps =>
  have e:h.get? a=some {cls:=.none,data:=.fields ps}:=x;show h'.get? a=some {cls:=.none,data:=.fields ps};exact k a _ (.inl rfl) e
 |lam pos qual=>obtain⟨ps,e,t,q⟩:=x;exact⟨ps,k _ _ (.inl rfl) e,t,λcv z=>let⟨c,o,u,vs,t,q1,q2,q3⟩:=q cv z;⟨c,o,u,vs,t,q1,hz _ _ _ q2,q3⟩⟩
 |met f y =>
  have e:h.get? a=some (W.methodObj (.ref f) (.ref y)):=x;show h'.get? a=some (W.methodObj (.ref f) (.ref y));exact k a _ (.inl rfl) e
 |ext φ=>obtain⟨p,⟨o,e⟩,st⟩:=x;exact⟨st _ _ p λo q=>k _ _ (.inl rfl) q,⟨o,k _ _ (.inl rfl) e⟩,st⟩
theorem bI.lt(x:bI P w H h)(e:H a=some o):a<h.objs.size:=(x a o e).lt
theorem bI.fresh(x:bI P w H h)(e:h.objs.size<=a):H a=none:=by
 cases q:H a with
 |none=>rfl
 |some u=>exact absurd (cg (x.lt q) e) (fh _)
theorem bI.kept(x:bI P w H h)(k:∀b u,h.get? b=some u->h'.get? b=some u):bI P w H h':=λa o e =>
 (x a o e).stay (λb u _ q=>k b u q) (λ_ q=>q) (λ_ _ q=>q) λ_ _ _ q=>q
theorem bI.laid(x:bI P w H h)(k:∀b u,h.get? b=some u->h'.get? b=some u)(hp:h.objs.size<=a)(new:bG P w (upd H a o) h' a o):bI P w (upd H a o) h':=λb u e=>by
 have hn:=x.fresh hp
 by_cases hb:b=a
 ·subst hb;rw[ak]at e;cases e;exact new
 ·rw[aA hb]at e
  exact(x b u e).stay (λc v _ q=>k c v q) (λc q=>by rw[aA (cF q hn)];exact q) (λc xs q=>by rw[aA (cF q hn)];exact q) λc ob u q=>by rw[aA (cF q hn)];exact q
end
noncomputable def Rd(H:Hp)(a:Addr)(u:HO):Prop:=H a=some u\/∃o,H a=some (.d4 o u)
theorem Rd.ok{P:Program}{w:World}{H:Hp}{h:Heap}{a:Addr}{u:HO}(r:Rd H a u)(x:bI P w H h):bG P w H h a u:=by
 rcases r with r|⟨o,r⟩
 ·exact x a u r
 ·obtain⟨_,q⟩:=x a _ r
  exact q
noncomputable def pU:Option HO->Prop
 |some (.lst _)=>True
 |some (.dK _)=>True
 |some (.dT _)=>True
 |some (.set _ _)=>True
 |some (.ins _ _ _)=>True
 |some (.ext _)=>True
 |some (.lam _ _)=>True
 |_=>False
section
variable {P:Program} {w:World} {H:Hp} {h h':Heap} {x e:Addr} {o':HO}
theorem bI.write(ok:bI P w H h)(mu:pU (H x))(he:e=x\/H e=some (.own x))(k:∀b u,b≠e->h.get? b=some u->h'.get? b=some u)(heo:∃u,h'.get? e=some u)
  (new:bG P w (upd H x o') h' x o'):bI P w (upd H x o') h':=λb u q=>by
 have J0:∀c y,H c=some (.own y)->c≠x:=λc y r z=>by subst z;rw[r]at mu;exact mu
 have Ve:∀c xs,H c=some (.tup xs)->c≠x:=λc xs r z=>by subst z;rw[r]at mu;exact mu
 have U5:∀c ob u,H c=some (.d4 ob u)->c≠x:=λc ob u r z=>by subst z;rw[r]at mu;exact mu
 by_cases hb:b=x
 ·subst hb;rw[ak]at q;cases q;exact new
 ·rw[aA hb]at q
  by_cases hbe:b=e
  ·have q':H b=some (.own x):=by
    rcases he with z|z
    ·exact absurd (hbe.trans z) hb
    ·rw[hbe];exact z
   rw[q]at q';cases q';obtain⟨v,hv⟩:=heo;exact⟨v,by rw[hbe];exact hv⟩
  ·refine(ok b u q).stay (λc v hc r=>k c v ?_ r) (λc r=>by rw[aA (J0 c b r)];exact r) (λc xs r=>by rw[aA (Ve c xs r)];exact r) λc ob u r=>by rw[aA (U5 c ob u r)];exact r
   rcases hc with rfl|hc
   ·exact hbe
   ·rintro rfl
    rcases he with z|z
    ·exact J0 c b hc z
    ·rw[hc]at z;cases z;exact hb rfl
end
structure Un (fs ex:List Addr) (H H':Hp) (h h':Heap):Prop where
 keep:∀b o,h.get? b=some o->H b=none->b ∉ fs->b ∉ ex->h'.get? b=some o
 slot:∀b o,h.get? b=some o->H b=none->b∈fs->b ∉ ex->∃sl,h'.get? b=some {o with slots:=sl}
 free:∀b o,h.get? b=some o->H b=none->b ∉ ex->H' b=none
 there:∀b o,h.get? b=some o->b ∉ ex->∃o',h'.get? b=some o'
 tups:∀b xs,H b=some (.tup xs)->H' b=some (.tup xs)
 eS:∀b o u,H b=some (.d4 o u)->H' b=some (.d4 o u)
 fz:∀b ps,H b=some (.lC ps)->∃more,H' b=some (.lC (ps++more))
section
variable {fs fs' ex ex':List Addr} {H H1 H2:Hp} {h h1 h2 h':Heap} {a x e:Addr} {o:HO}
theorem Un.any(u:Un fs ex H H1 h h1){b:Addr}{ob:Obj}(q:h.get? b=some ob)(n:H b=none)(hx:b ∉ ex):∃sl,h1.get? b=some {ob with slots:=sl}:=by
 by_cases hb:b∈fs
 ·exact u.slot b ob q n hb hx
 ·exact⟨ob.slots,u.keep b ob q n hb hx⟩
theorem Un.kept(k:∀b u,h.get? b=some u->h'.get? b=some u):Un fs ex H H h h':=
 ⟨λb ob q _ _ _=>k b ob q,λb ob q _ _ _=>⟨ob.slots,k b ob q⟩,λ_ _ _ n _=>n,λb ob q _=>⟨ob,k b ob q⟩,λ_ _ q=>q,λ_ _ _ q=>q,λ_ ps q=>⟨#[],by rw[q];simp⟩⟩
theorem Un.refl:Un fs ex H H h h:=Un.kept λ_ _ q=>q
theorem Un.laid(k:∀b u,h.get? b=some u->h'.get? b=some u)(hp:h.objs.size<=a)(hn:H a=none):Un fs ex H (upd H a o) h h' where
 keep:=λb u q _ _ _=>k b u q
 slot:=λb u q _ _ _=>⟨u.slots,k b u q⟩
 free:=λb u q n _=>by rw[aA (bO (cg (aV q) hp))];exact n
 there:=λb u q _=>⟨u,k b u q⟩
 tups:=λb xs q=>by rw[aA (cF q hn)];exact q
 eS:=λb u xs q=>by rw[aA (cF q hn)];exact q
 fz:=λb ps q=>⟨#[],by rw[aA (cF q hn),q];simp⟩
theorem Un.write(mu:pU (H x))(he:e=x\/H e=some (.own x))(k:∀b u,b≠e->h.get? b=some u->h'.get? b=some u)(heo:∃u,h'.get? e=some u):Un fs ex H (upd H x o) h h':=by
 have hx:∀b,H b=none->b≠x:=λb n z=>by subst z;rw[n]at mu;exact mu
 have hb:∀b,H b=none->b≠e:=λb n z=>by
  subst z
  rcases he with r|r
  ·exact hx b n r
  ·rw[n]at r;cases r
 have hm:∀b u,H b=some u->¬ pU (some u)->b≠x:=λb u q nm z=>by subst z;rw[q]at mu;exact nm mu
 refine⟨λb u q n _ _=>k b u (hb b n) q,λb u q n _ _=>⟨u.slots,k b u (hb b n) q⟩,λb u q n _=>by rw[aA (hx b n)];exact n,λb u q _=>?_,
  λb xs q=>by rw[aA (hm b _ q λz=>z)];exact q,λb u xs q=>by rw[aA (hm b _ q λz=>z)];exact q,λb ps q=>⟨#[],by rw[aA (hm b _ q λz=>z),q];simp⟩⟩
 by_cases hbe:b=e
 ·subst hbe;exact heo
 ·exact⟨u,k b u hbe q⟩
end
noncomputable def vV(h:Heap)(H:Hp):List Addr:=(List.range h.objs.size).filter λa=>(H a).isSome
noncomputable def jU(h:Heap)(H:Hp):Heap:=W.hideAll h (vV h H)
theorem Se(h:Heap)(H:Hp):(jU h H).objs.size=h.objs.size:=W.hideAll_size _ _
theorem Sd{h:Heap}{H:Hp}{b:Addr}{o:Obj}(e:h.get? b=some o)(n:H b=none):(jU h H).get? b=some o:=
 W.hideAll_get _ e λhm=>by
  have q:(H b).isSome=true:=(rZ.mp hm).2;rw[n]at q;simp at q
theorem Vl{h:Heap}{H:Hp}{b:Addr}{o:Obj}(e:(jU h H).get? b=some o):h.get? b=some o/\H b=none:=by
 have e':h.get? b=some o:=W.of_hideAll (vV h H) e;refine⟨e',?_⟩;cases q:H b with
 |none=>rfl
 |some x =>
  have hm:b∈vV h H:=rZ.mpr ⟨Es.mpr (aV e'),by simp[q]⟩;have z:(jU h H).get? b=none:=W.hideAll_none (vV h H) hm;rw[z]at e;cases e
noncomputable def Pk(g h:Heap)(L:Addr):List (Addr × Obj):=(List.range h.objs.size).filterMap λa=>if a=L\/(g.get? a).isSome=true then none else(h.get? a).map λo=>(a,o)
noncomputable def rest(g h:Heap)(L d:Addr):List (Addr × Obj):=(Pk g h L).filter λp=>decide (p.1≠d)
structure Mod (K:W.Frag) (mg:Str->Option Value) (base:Heap):Prop where
 iN:K.In base
 glob:base.Ns mainGlobals mg
 blt:∃mb,base.Ns builtinsNs mb/\∀x:Str,x ≠ "__name__" -> mb x=bootBuiltins x
 nolimit:base.NoLimit
structure Cx where
 prog:Program
 w:World
 K:W.Frag
 mg:Str->Option Value
 base:Heap
 A:Around
 N:List Str
 s₀:Shared
 H₀:Hp
 env:Env
 outer:List Env
 stack:List Env
 ex:List Addr
 fn:Str->Bool
 calm:Bool
 pn:List (Addr × Obj)
 xe:Value->Shared->Prop
noncomputable def frs(l:List Env):List Addr:=l.filterMap (·.frame)
abbrev Cx.fs (X:Cx):List Addr:=frs X.outer
noncomputable def sN(sc:Scope)(x:Str):Prop:=sc.names.lookup x=some .local\/sc.names.lookup x=some .cell\/sc.names.lookup x=some .free
noncomputable def Loc(sc:Scope)(x:Str):Prop:=sc.names.lookup x=some .local\/sc.names.lookup x=some .cell
noncomputable def Look(env:Env)(h:Heap)(m:Str->Option Value)(x:Str)(u:Value):Prop:=
 (env.kindOf x=some .local/\m x=some u)\/((env.kindOf x=some .cell\/env.kindOf x=some .free)/\∃c,env.cells.lookup x=some c/\h.IsCell c (some u))
structure Cx.Ok (X:Cx):Prop where
 mod:Mod X.K X.mg X.base
 kind:X.env.scope.kind = .function
 glob:X.env.globals=mainGlobals
 blt:X.env.builtins=builtinsNs
 above:X.s₀.heap.objs.size<=X.env.locals
 inj:∀x y c,X.env.cells.lookup x=some c->X.env.cells.lookup y=some c->x=y
 has:∀x,(X.env.kindOf x=some .cell\/X.env.kindOf x=some .free)->∃c,X.env.cells.lookup x=some c
 cab:∀x c,X.fn x=true->X.env.cells.lookup x=some c->X.s₀.heap.objs.size<=c
 hd:X.calm=true->X.A.handled=none
 frames:X.A.frames=some X.stack
 stk:X.stack=X.outer\/(X.stack=X.env::X.outer/\X.env.frame=some X.env.locals)
 mh:∀b∈X.ex,b≠X.env.locals/\∀x c,X.env.cells.lookup x=some c->c≠b
 bs:∀b o,X.base.get? b=some o->X.s₀.heap.get? b=some o/\X.H₀ b=none
 f6:X.base.objs.size<=X.s₀.heap.objs.size
 jq:∀b o,X.base.get? b=some o->b ∉ X.ex
 jS:∀b∈X.ex,b ∉ X.fs
 dw:X.s₀.heap.FunFrames X.base X.outer
 iJ:∀b∈X.fs,X.H₀ b=none
structure Inv (X:Cx) (pins:List (Addr × Obj)) (σ:List (Option V)) (H:Hp) (s:Shared):Prop where
 ok:X.Ok
 os:s.os=X.s₀.os
 bare:AllBare s.gens
 base:Un X.fs X.ex X.H₀ H X.s₀.heap s.heap
 loc:∃m,s.heap.Ns X.env.locals m/\∀(i:Nat) (x:Str) (v:V),X.N[i]?=some x->σ[i]?=some (some v)->sN X.env.scope x->∃u,RelV v u/\Look X.env s.heap m x u
 cell:∀x c,X.env.cells.lookup x=some c->∃v,s.heap.IsCell c v
 free:H X.env.locals=none
 dH:∀x c,X.env.cells.lookup x=some c->H c=none
 pin:∀p∈X.pn++pins,s.heap.get? p.1=some p.2/\H p.1=none/\p.1≠X.env.locals/\p.1 ∉ X.fs/\∀v,p.2.data≠.cell v
 hok:bI X.prog X.w H s.heap
 len:σ.length=X.N.length
section
variable {X:Cx} {pins:List (Addr × Obj)} {σ:List (Option V)} {H H':Hp} {s:Shared} {h':Heap}
theorem Cx.Ok.U8(ok:X.Ok){b:Addr}{o:Obj}(e:X.base.get? b=some o):b ∉ X.fs:=λhb=>by
 have:=(ok.dw.mem hb).1;rw[e]at this;cases this
theorem Inv.bs(I:Inv X pins σ H s):∀b o,X.base.get? b=some o->s.heap.get? b=some o/\H b=none:=λb o e =>
 ⟨I.base.keep b o (I.ok.bs b o e).1 (I.ok.bs b o e).2 (I.ok.U8 e) (I.ok.jq b o e),I.base.free b o (I.ok.bs b o e).1 (I.ok.bs b o e).2 (I.ok.jq b o e)⟩
theorem Inv.bk(I:Inv X pins σ H s):∀b o,X.base.get? b=some o->s.heap.get? b=some o:=λb o e=>(I.bs b o e).1
theorem Inv.mod(I:Inv X pins σ H s):Mod X.K X.mg X.base:=I.ok.mod
theorem Inv.cn(I:Inv X pins σ H s):X.K.In s.heap:=I.ok.mod.iN.keeps I.bk
theorem Inv.lt(I:Inv X pins σ H s):X.env.locals<s.heap.objs.size:=let⟨_,hn,_⟩:=I.loc;hn.lt
theorem Inv.sz(I:Inv X pins σ H s):X.s₀.heap.objs.size<=s.heap.objs.size:=bN I.ok.above (dS I.lt)
theorem Inv.U_(I:Inv X pins σ H s){a:Addr}(h:s.heap.objs.size<=a):a ∉ X.fs:=λhb=>by
 obtain⟨_,o,ho,_⟩:=I.ok.dw.mem hb;exact absurd (cg (aV ho) (bN I.sz h)) (fh _)
theorem Inv.iG(I:Inv X pins σ H s):∀x c,X.env.cells.lookup x=some c->c≠X.env.locals:=λx c e z=>by
 obtain⟨v,o,ho,hd⟩:=I.cell x c e;obtain⟨m,⟨o',es,ep,ho',hd',_⟩,_⟩:=I.loc;rw[z,ho']at ho;cases ho;rw[hd']at hd;cases hd
theorem Inv.dw(I:Inv X pins σ H s):s.heap.FunFrames X.base X.outer:=by
 have all:∀(l:List Env),(∀b∈frs l,b∈X.fs)->X.s₀.heap.FunFrames X.base l->s.heap.FunFrames X.base l:=by
  intro l
  induction l with
  |nil=>intro _ _;trivial
  |cons env r ih =>
   intro hs hl;obtain⟨hk,⟨L,o,hf,hn,ho,hd⟩,hr⟩:=hl;have hL:L∈X.fs:=hs L (by unfold frs;rw[ny,hf];exact cK);obtain⟨sl,e⟩:=I.base.slot L o ho (I.ok.iJ L hL) hL λz=>I.ok.jS L z hL;exact⟨hk,⟨L,_,hf,hn,e,hd⟩,ih (λb hb=>hs b (by unfold frs;rw[ny,hf];exact bT _ hb)) hr⟩
 exact all X.outer (λ_ hb=>hb) I.ok.dw
theorem Inv.stack(I:Inv X pins σ H s):s.heap.FunFrames X.base X.stack:=by
 rcases I.ok.stk with e|⟨e,hf⟩
 ·rw[e];exact I.dw
 ·rw[e]
  obtain⟨m,hn,_⟩:=I.loc;refine .cons (by rw[I.ok.kind];decide) hf hn ?_ I.dw;exact su (bN I.ok.f6 I.ok.above)
theorem Inv.rA(I:Inv X pins σ H s):∀b∈frs X.stack,b∈X.env.locals::X.fs:=λb hb=>by
 rcases I.ok.stk with e|⟨e,hf⟩
 ·rw[e]at hb;exact bT _ hb
 ·rw[e]at hb
  unfold frs at hb;rw[ny,hf]at hb;exact hb
theorem Inv.pq(I:Inv X pins σ H s):∀b∈frs X.stack,H b=none:=λb hb=>by
 rcases bu.mp (I.rA b hb)with e|hb
 ·rw[e];exact I.free
 ·obtain⟨_,o,ho,_⟩:=I.ok.dw.mem hb
  exact I.base.free b o ho (I.ok.iJ b hb) λz=>I.ok.jS b z hb
theorem Inv.step{g':Array GenState}{t':Nat}{d':Drawn}{ch:List Addr}(I:Inv X pins σ H s)(hch:∀b∈ch,(b∈X.ex\/X.s₀.heap.objs.size<=b)/\b≠X.env.locals/\(∀x c,X.env.cells.lookup x=some c->c≠b)/\∀p∈X.pn++pins,p.1≠b)(keep:∀b o,b≠X.env.locals->b ∉ X.fs->b ∉ ch->s.heap.get? b=some o->H b=none->h'.get? b=some o)
  (slot:∀b o,b≠X.env.locals->b∈X.fs->b ∉ ch->s.heap.get? b=some o->H b=none->∃sl,h'.get? b=some {o with slots:=sl}) (free:∀b o,b ∉ ch->s.heap.get? b=some o->H b=none->H' b=none)
  (there:∀b o,b ∉ ch->s.heap.get? b=some o->∃o',h'.get? b=some o')
  (tups:∀b xs,H b=some (.tup xs)->H' b=some (.tup xs)) (eS:∀b o u,H b=some (.d4 o u)->H' b=some (.d4 o u)) (fz:∀b ps,H b=some (.lC ps)->∃more,H' b=some (.lC (ps++more)))
  (ns:∀m,s.heap.Ns X.env.locals m->h'.Ns X.env.locals m) (hok:bI X.prog X.w H' h') (hg:AllBare g') :
  Inv X pins σ H' {s with heap:=h',gens:=g',drawn:=d',toks:=t'}:=by
 have oJ:∀b o,X.s₀.heap.get? b=some o->b≠X.env.locals:=λb o e=>bO (cg (aV e) I.ok.above);have uD:∀b o,X.s₀.heap.get? b=some o->b ∉ X.ex->b ∉ ch:=λb o e hx hb=>by
  rcases(hch b hb).1 with z|z
  ·exact hx z
  ·exact absurd (cg (aV e) z) (fh _)
 have cellK:∀x c,X.env.cells.lookup x=some c->∀v,s.heap.IsCell c v->h'.IsCell c v:=λx c e v ⟨o,ho,hd⟩=>by
  have eW:c ∉ ch:=λz=>(hch c z).2.2.1 x c e rfl
  by_cases hc:c∈X.fs
  ·obtain⟨sl,q⟩:=slot c o (I.iG x c e) hc eW ho (I.dH x c e)
   exact⟨_,q,hd⟩
  ·exact⟨o,keep c o (I.iG x c e) hc eW ho (I.dH x c e),hd⟩
 refine⟨I.ok,I.os,hg,⟨λb o e n hb hx=>?_,λb o e n hb hx=>?_,λb o e n hx=>?_,λb o e hx=>?_,λb xs e=>tups b xs (I.base.tups b xs e),λb o xs e=>eS b o xs (I.base.eS b o xs e),λb ps e=>?_⟩,?_,λx c e=>?_,?_,λx c e=>?_,λp hp=>?_,hok,I.len⟩
 ·exact keep b o (oJ b o e) hb (uD b o e hx) (I.base.keep b o e n hb hx) (I.base.free b o e n hx)
 ·obtain⟨sl,e1⟩:=I.base.slot b o e n hb hx
  obtain⟨sl',e2⟩:=slot b _ (oJ b o e) hb (uD b o e hx) e1 (I.base.free b o e n hx);exact⟨sl',e2⟩
 ·obtain⟨o',e1⟩:=I.base.there b o e hx
  exact free b o' (uD b o e hx) e1 (I.base.free b o e n hx)
 ·obtain⟨o',e1⟩:=I.base.there b o e hx
  exact there b o' (uD b o e hx) e1
 ·obtain⟨m1,e1⟩:=I.base.fz b ps e
  obtain⟨m2,e2⟩:=fz b _ e1;exact⟨m1++m2,by rw[e2,Array.append_assoc]⟩
 ·obtain⟨m,hn,hl⟩:=I.loc
  refine⟨m,ns m hn,λi x v e1 e2 e3=>?_⟩;obtain⟨u,r,l⟩:=hl i x v e1 e2 e3;refine⟨u,r,?_⟩
  rcases l with l|⟨k,c,e,z⟩
  ·exact .inl l
  ·exact .inr ⟨k,c,e,cellK x c e _ z⟩
 ·obtain⟨v,z⟩:=I.cell x c e
  exact⟨v,cellK x c e v z⟩
 ·obtain⟨m,⟨o,_,_,ho,_⟩,_⟩:=I.loc
  exact free _ o (λz=>(hch _ z).2.1 rfl) ho I.free
 ·obtain⟨v,o,ho,hd⟩:=I.cell x c e
  exact free c o (λz=>(hch c z).2.2.1 x c e rfl) ho (I.dH x c e)
 ·obtain⟨e,n,ne,nf,d⟩:=I.pin p hp
  have eW:p.1 ∉ ch:=λz=>(hch p.1 z).2.2.2 p hp rfl;exact⟨keep p.1 p.2 ne nf eW e n,free p.1 p.2 eW e n,ne,nf,d⟩
theorem Inv.un{t':Nat}(I:Inv X pins σ H s)(u:Un X.fs [] H H' s.heap h')(hok:bI X.prog X.w H' h'):Inv X pins σ H' {s with heap:=h',toks:=t'}:=by
 obtain⟨m,⟨o,es,ep,ho,r⟩,_⟩:=id I.loc;obtain⟨sl,hL⟩:=u.any ho I.free (by simp);exact I.step (g':=s.gens) (d':=s.drawn) (ch:=[]) (λ_ z=>nomatch z) (λb o _ hb _ e n=>u.keep b o e n hb (by simp)) (λb o _ hb _ e n=>u.slot b o e n hb (by simp)) (λb o _ e n=>u.free b o e n (by simp)) (λb o _ e=>u.there b o e (by simp)) u.tups u.eS u.fz (λm' hm=>by
  obtain⟨o',es',ep',ho',r'⟩:=hm;rw[ho]at ho';cases ho';exact⟨_,es',ep',hL,r'⟩) hok I.bare
theorem Inv.call{g':Array GenState}{t':Nat}{d':Drawn}{ch:List Addr}(I:Inv X pins σ H s)(u:Un (frs X.stack) ch H H' s.heap h')(hok:bI X.prog X.w H' h')(hg:AllBare g')(hch:∀b∈ch,(b∈X.ex\/X.s₀.heap.objs.size<=b)/\b≠X.env.locals/\(∀x c,X.env.cells.lookup x=some c->c≠b)/\∀p∈X.pn++pins,p.1≠b):
  Inv X pins σ H' {s with heap:=h',gens:=g',drawn:=d',toks:=t'}:=by
 obtain⟨m,⟨o,es,ep,ho,r⟩,_⟩:=id I.loc;obtain⟨sl,hL⟩:=u.any ho I.free λz=>(hch _ z).2.1 rfl;exact I.step (ch:=ch) hch (λb o hL hb hc e n=>u.keep b o e n (λz=>(bu.mp (I.rA b z)).elim hL hb) hc) (λb o _ _ hc e n=>u.any e n hc) (λb o hc e n=>u.free b o e n hc) (λb o hc e=>u.there b o e hc) u.tups u.eS u.fz (λm' hm=>by
  obtain⟨o',es',ep',ho',r'⟩:=hm;rw[ho]at ho';cases ho';exact⟨_,es',ep',hL,r'⟩) hok hg
theorem Inv.turned{t':Nat}{it:Addr}(I:Inv X pins σ H s)(k:∀b o,b≠it->s.heap.get? b=some o->h'.get? b=some o)(hn:H it=none)(hL:it≠X.env.locals)
  (h1:it∈X.ex\/X.s₀.heap.objs.size<=it) (h2:∀x c,X.env.cells.lookup x=some c->c≠it) (h3:∀p∈X.pn++pins,p.1≠it):Inv X pins σ H {s with heap:=h',toks:=t'}:=by
 have JR:∀b u,H b=some u->b≠it:=λb u e z=>by rw[z,hn]at e;cases e
 refine I.step (g':=s.gens) (d':=s.drawn) (ch:=[it]) (λb hb=>?_) (λb o _ _ hc e _=>k b o (λz=>hc (by simp[z])) e) (λb o _ _ hc e _=>⟨o.slots,k b o (λz=>hc (by simp[z])) e⟩) (λ_ _ _ _ n=>n)
  (λb o hc e=>⟨o,k b o (λz=>hc (by simp[z])) e⟩) (λ_ _ e=>e) (λ_ _ _ e=>e) (λb ps e=>⟨#[],by rw[e];simp⟩) (λm hm=>?_) (λb u e=>?_) I.bare
 ·have e:b=it:=by simpa using hb
  subst e;exact⟨h1,hL,h2,h3⟩
 ·obtain⟨o,es,ep,ho,r⟩:=hm
  exact⟨o,es,ep,k _ o (cE hL) ho,r⟩
 ·refine(I.hok b u e).stay (λc v hc q=>k c v ?_ q) (λ_ q=>q) (λ_ _ q=>q) λ_ _ _ q=>q
  rcases hc with z|z
  ·rw[z];exact JR b u e
  ·exact JR c _ z
theorem Inv.tok(I:Inv X pins σ H s)(t:Nat):Inv X pins σ H {s with toks:=t}:=I.un (h':=s.heap) (t':=t) Un.refl I.hok
theorem Inv.kept{t':Nat}(I:Inv X pins σ H s)(k:∀b u,s.heap.get? b=some u->h'.get? b=some u):Inv X pins σ H {s with heap:=h',toks:=t'}:=I.un (Un.kept k) (I.hok.kept k)
theorem Inv.laid{a:Addr}{o:HO}{t':Nat}(I:Inv X pins σ H s)(k:∀b u,s.heap.get? b=some u->h'.get? b=some u)(hp:s.heap.objs.size<=a)(new:bG X.prog X.w (upd H a o) h' a o):
  Inv X pins σ (upd H a o) {s with heap:=h',toks:=t'}:=I.un (Un.laid k hp (I.hok.fresh hp)) (I.hok.laid k hp new)
theorem Inv.write{x e:Addr}{o:HO}{t':Nat}(I:Inv X pins σ H s)(mu:pU (H x))(he:e=x\/H e=some (.own x))(k:∀b u,b≠e->s.heap.get? b=some u->h'.get? b=some u)(heo:∃u,h'.get? e=some u)
  (new:bG X.prog X.w (upd H x o) h' x o):Inv X pins σ (upd H x o) {s with heap:=h',toks:=t'}:=I.un (Un.write mu he k heo) (I.hok.write mu he k heo new)
theorem Inv.weak{σ':List (Option V)}(I:Inv X pins σ H s)(hl:σ'.length=σ.length)(w:∀(i:Nat) v,σ'[i]?=some (some v)->σ[i]?=some (some v)):Inv X pins σ' H s:=
 ⟨I.ok,I.os,I.bare,I.base,let⟨m,hn,hl'⟩:=I.loc;⟨m,hn,λi x v e1 e2 e3=>hl' i x v e1 (w i v e2) e3⟩,I.cell,I.free,I.dH,I.pin,I.hok,hl.trans I.len⟩
theorem Inv.Ky{lj:List (Addr × Obj)}(I:Inv X pins σ H s)(h:∀p∈lj,s.heap.get? p.1=some p.2/\H p.1=none/\p.1≠X.env.locals/\p.1 ∉ X.fs/\∀v,p.2.data≠.cell v):Inv X lj σ H s:=
 ⟨I.ok,I.os,I.bare,I.base,I.loc,I.cell,I.free,I.dH,λp hp=>(fe.mp hp).elim (λz=>I.pin p (pQ _ z)) (h p),I.hok,I.len⟩
theorem Ao{N:List Str}(hN:N.Nodup){i j:Nat}{x:Str}(a:N[i]?=some x)(b:N[j]?=some x):i=j:=by
 obtain⟨h1,e1⟩:=cG.mp a;obtain⟨h2,e2⟩:=cG.mp b;exact(List.getElem_inj hN).mp (e1.trans e2.symm)
theorem Dp{M:Model}{A:Around}{E:Value->Shared->Prop}{i:Nat}{x:Str}{v:V}{u:Value}{Q:Unit->Shared->Prop}(I:Inv X pins σ H s)(hN:X.N.Nodup)(hi:X.N[i]?=some x)(hx:Loc X.env.scope x)(r:RelV v u)(h:∀s',Inv X pins (σ.set i (some v)) H s'->(∃a,Heap.SameBut a s.heap s'.heap/\(a=X.env.locals\/X.env.cells.lookup x=some a))->Q () s')(hf:X.fn x=true\/X.env.scope.names.lookup x=some .local:=by first|exact .inl rfl|exact .inr rfl|assumption):wpAny M A (storeName X.env x u) Q E s:=by
 obtain⟨m,hn,hl⟩:=id I.loc;have hcls:(X.env.scope.kind==.class||(X.env.scope.kind==.module&&X.env.locals != X.env.globals))=false:=by rw[I.ok.kind];rfl
 have hiσ:i<σ.length:=by rw[I.len];exact(cG.mp hi).1
 have iG:=I.iG;have tracked:∀{a:Addr} {h':Heap},(∃o,s.heap.get? a=some o/\H a=none)->Heap.SameBut a s.heap h'->bI X.prog X.w H h':=λ{a h'} ha hs b ob e=>by
  obtain⟨_,_,hfree⟩:=ha;refine(I.hok b ob e).stay (λc w' hc q=>(hs.2 c ?_).trans q) (λ_ q=>q) (λ_ _ q=>q) λ_ _ _ q=>q;rintro rfl
  rcases hc with rfl|hc
  ·rw[hfree]at e;cases e
  ·rw[hfree]at hc;cases hc
 rcases hx with hk|hk
 ·refine wpAny_storeName_local hk hn (λh' hn' hs=>?_) hcls
  obtain⟨oL,_,_,hoL,_⟩:=id hn;refine h _ ⟨I.ok,I.os,I.bare,⟨λb o e n hb hx=>?_,λb o e n hb hx=>?_,I.base.free,λb o e hx=>?_,I.base.tups,I.base.eS,I.base.fz⟩,⟨_,hn',λj y v' e1 e2 e3=>?_⟩,λy c e=>?_,I.free,I.dH,λp hp=>?_,tracked ⟨oL,hoL,I.free⟩ hs,by simpa using I.len⟩ ⟨_,hs,.inl rfl⟩
  ·exact(hs.2 b (bO (cg (aV e) I.ok.above))).trans (I.base.keep b o e n hb hx)
  ·obtain⟨sl,e1⟩:=I.base.slot b o e n hb hx
   exact⟨sl,(hs.2 b (bO (cg (aV e) I.ok.above))).trans e1⟩
  ·obtain⟨o',e1⟩:=I.base.there b o e hx
   exact⟨o',(hs.2 b (bO (cg (aV e) I.ok.above))).trans e1⟩
  ·by_cases hj:j=i
   ·subst hj
    rw[hi]at e1;cases e1;rw[wB hiσ]at e2;cases e2;exact⟨u,r,.inl ⟨hk,by simp⟩⟩
   ·rw[rX (cE hj)]at e2
    obtain⟨u',r',q⟩:=hl j y v' e1 e2 e3;refine⟨u',r',?_⟩
    rcases q with⟨k,e⟩|⟨k,c,e,z⟩
    ·refine .inl ⟨k,?_⟩
     have:y≠x:=λe=>hj (Ao hN e1 (e▸hi));simp[this,e]
    ·exact .inr ⟨k,c,e,z.sameBut hs (iG y c e)⟩
  ·obtain⟨w',z⟩:=I.cell y c e
   exact⟨w',z.sameBut hs (iG y c e)⟩
  ·obtain⟨e,n,ne,nf,d⟩:=I.pin p hp
   exact⟨(hs.2 p.1 ne).trans e,n,ne,nf,d⟩
 ·have hfn:X.fn x=true:=by
   rcases hf with z|z
   ·exact z
   ·rw[z]at hk;cases hk
  obtain⟨c,hc⟩:=I.ok.has x (.inl hk);obtain⟨w',z⟩:=I.cell x c hc;refine wpAny_storeName_cell I.ok.kind hk hc z (λh' hc' hs=>?_);obtain⟨oc,hoc,Ss⟩:=id z;refine h {s with heap:=h'} ⟨I.ok,I.os,I.bare,⟨λb o e n hb hx=>?_,λb o e n hb hx=>?_,I.base.free,λb o e hx=>?_,I.base.tups,I.base.eS,I.base.fz⟩,⟨m,hn.sameBut hs (cE (iG x c hc)),λj y v' e1 e2 e3=>?_⟩,λy c' e=>?_,I.free,I.dH,λp hp=>?_,tracked ⟨oc,hoc,I.dH x c hc⟩ hs,by simpa using I.len⟩ ⟨c,hs,.inr hc⟩
  ·exact(hs.2 b (bO (cg (aV e) (I.ok.cab x c hfn hc)))).trans (I.base.keep b o e n hb hx)
  ·obtain⟨sl,e1⟩:=I.base.slot b o e n hb hx
   exact⟨sl,(hs.2 b (bO (cg (aV e) (I.ok.cab x c hfn hc)))).trans e1⟩
  ·obtain⟨o',e1⟩:=I.base.there b o e hx
   exact⟨o',(hs.2 b (bO (cg (aV e) (I.ok.cab x c hfn hc)))).trans e1⟩
  ·by_cases hj:j=i
   ·subst hj
    rw[hi]at e1;cases e1;rw[wB hiσ]at e2;cases e2;exact⟨u,r,.inr ⟨.inl hk,c,hc,hc'⟩⟩
   ·rw[rX (cE hj)]at e2
    obtain⟨u',r',q⟩:=hl j y v' e1 e2 e3;refine⟨u',r',?_⟩
    rcases q with q|⟨k,c',e,z'⟩
    ·exact .inl q
    ·refine .inr ⟨k,c',e,z'.sameBut hs ?_⟩
     rintro rfl;exact hj (Ao hN e1 (I.ok.inj _ _ _ e hc▸hi))
  ·by_cases hcc:c'=c
   ·subst hcc;exact⟨_,hc'⟩
   ·obtain⟨w2,z2⟩:=I.cell y c' e
    exact⟨w2,z2.sameBut hs hcc⟩
  ·obtain⟨e,n,ne,nf,d⟩:=I.pin p hp
   refine⟨(hs.2 p.1 ?_).trans e,n,ne,nf,d⟩;intro q;rw[q,hoc]at e;have q':oc=p.2:=dU e;exact d w' (by rw[<- q'];exact Ss)
theorem Nm{M:Model}{A:Around}{E:Value->Shared->Prop}{i:Nat}{x:Str}{v:V}{u:Value}{Q:Unit->Shared->Prop}(I:Inv X pins σ H s)(hN:X.N.Nodup)(hi:X.N[i]?=some x)(hx:Loc X.env.scope x)(r:RelV v u)(h:∀s',Inv X pins (σ.set i (some v)) H s'->Q () s')(hf:X.fn x=true\/X.env.scope.names.lookup x=some .local:=by first|exact .inl rfl|exact .inr rfl|assumption):wpAny M A (storeName X.env x u) Q E s:=
 Dp I hN hi hx r (λs' I' _=>h s' I') hf
theorem Inv.call'{s':Shared}{ch:List Addr}(I:Inv X pins σ H s)(ho:s'.os=s.os)(u:Un (frs X.stack) ch H H' s.heap s'.heap)(hok:bI X.prog X.w H' s'.heap)(hg:AllBare s'.gens)(hch:∀b∈ch,(b∈X.ex\/X.s₀.heap.objs.size<=b)/\b≠X.env.locals/\(∀x c,X.env.cells.lookup x=some c->c≠b)/\∀p∈X.pn++pins,p.1≠b):Inv X pins σ H' s':=by
 obtain⟨h',g',d',t',o'⟩:=s';have e:o'=s.os:=ho;subst e;exact I.call (g':=g') (t':=t') (d':=d') u hok hg hch
end
abbrev XK:=Value->Option Addr->Hp->Prop
abbrev St:=List (Option V)
abbrev VK:=V->Hp->Prop
abbrev TE:=St->Hp->VK->Prop
abbrev TT:=St->Hp->(Bool->Hp->Prop)->Prop
abbrev TA:=St->Hp->(List V->Hp->Prop)->Prop
structure Ends where
 nx:St->Hp->Prop
 rt:VK
 bk:St->Hp->Prop:=λ_ _=>False
 ct:St->Hp->Prop:=λ_ _=>False
abbrev TS:=Ends->St->Hp->Prop
noncomputable def EP(X:Cx)(pins:List (Addr × Obj))(σ:St)(Q:VK)(u:Value)(s':Shared):Prop:=∃v H',Inv X pins σ H' s'/\RelV v u/\Q v H'
noncomputable def TP(X:Cx)(pins:List (Addr × Obj))(σ:St)(Q:Bool->Hp->Prop)(b:Bool)(s':Shared):Prop:=∃H',Inv X pins σ H' s'/\Q b H'
noncomputable def AP(X:Cx)(pins:List (Addr × Obj))(σ:St)(Q:List V->Hp->Prop)(us:List Value)(s':Shared):Prop:=∃vs H',Inv X pins σ H' s'/\Vals vs us/\Q vs H'
noncomputable def SP(X:Cx)(pins:List (Addr × Obj))(D:Ends)(f:Flow)(s':Shared):Prop:=
 match f with
 |.next=>∃σ' H',Inv X pins σ' H' s'/\D.nx σ' H'
 |.brk=>∃σ' H',Inv X pins σ' H' s'/\D.bk σ' H'
 |.cont=>∃σ' H',Inv X pins σ' H' s'/\D.ct σ' H'
 |.ret u=>∃v σ' H',Inv X pins σ' H' s'/\RelV v u/\D.rt v H'
noncomputable def PE(X:Cx)(e:Expr)(t:TE):Prop:=
 ∀(pins:List (Addr × Obj)) (s:Shared) (σ:St) (H:Hp) (Q:VK),Inv X pins σ H s->t σ H Q->wpAny (model X.prog X.w) X.A (eval e X.env) (EP X pins σ Q) X.xe s
noncomputable def PT(X:Cx)(e:Expr)(t:TT):Prop:=
 ∀(pins:List (Addr × Obj)) (s:Shared) (σ:St) (H:Hp) (Q:Bool->Hp->Prop),Inv X pins σ H s->t σ H Q->wpAny (model X.prog X.w) X.A (isTrue e X.env (eval e X.env)) (TP X pins σ Q) X.xe s
noncomputable def PW(X:Cx)(e:Expr)(t:TT):Prop:=
 ∀(whole:Sem Value) (pins:List (Addr × Obj)) (s:Shared) (σ:St) (H:Hp) (Q:Bool->Hp->Prop),Inv X pins σ H s->t σ H Q->wpAny (model X.prog X.w) X.A (isTrue e X.env whole) (TP X pins σ Q) X.xe s
theorem PW.pt{X:Cx}{e:Expr}{t:TT}(h:PW X e t):PT X e t:=h _
noncomputable def PA(X:Cx)(es:List Expr)(t:TA):Prop:=
 ∀(pos:Pos) (pins:List (Addr × Obj)) (s:Shared) (σ:St) (H:Hp) (Q:List V->Hp->Prop),Inv X pins σ H s->t σ H Q->wpAny (model X.prog X.w) X.A (spliced (backTo pos (starEach es X.env))) (AP X pins σ Q) X.xe s
noncomputable def PS(X:Cx)(st:Stmt)(t:TS):Prop:=
 ∀(pins:List (Addr × Obj)) (s:Shared) (σ:St) (H:Hp) (D:Ends),Inv X pins σ H s->t D σ H->wpAny (model X.prog X.w) X.A (exec st X.env) (SP X pins D) X.xe s
noncomputable def dE(X:Cx)(st:List Stmt)(t:TS):Prop:=
 ∀(pins:List (Addr × Obj)) (s:Shared) (σ:St) (H:Hp) (D:Ends),Inv X pins σ H s->t D σ H->wpAny (model X.prog X.w) X.A (execs st X.env) (SP X pins D) X.xe s
theorem aG{α:Type}{t:Sem α}{Q Q':α->Shared->Prop}{M:Model}{A:Around}{E:Value->Shared->Prop}{s:Shared}(h:wpAny M A t Q E s)(hQ:∀a s,Q a s->Q' a s):wpAny M A t Q' E s:=dX h hQ λ_ _ x=>x
section
variable {X:Cx}
noncomputable def dO(i:Nat):TE:=λσ H Q=>∃v,σ[i]?=some (some v)/\Q v H
noncomputable def tC(v:V):TE:=λ_ H Q=>Q v H
theorem W' {i:Nat} {x:Str} {pos:Pos} (hN:X.N[i]?=some x) (hv:sN X.env.scope x) (hd:(x==("__debug__" : Str))=false:=by decide) (hcd:(x==("__classdict__" : Str))=false:=by decide):PE X (.Name x pos) (dO i):=by
 intro pins s σ H Q I h;obtain⟨v,e,h⟩:=h;obtain⟨m,hn,hl⟩:=I.loc;obtain⟨u,r,l⟩:=hl i x v hN e hv;have fin:EP X pins σ Q u s:=⟨v,H,I,r,h⟩
 rcases l with⟨hk,hm⟩|⟨hk,c,hc,hcell⟩
 ·exact wpAny_Name (wpAny_loadName_local I.ok.kind hk hn hm fin) hd
 ·rcases hk with hk|hk
  ·exact wpAny_Name (wpAny_loadName_cell I.ok.kind hk hc hcell fin) hd
  ·exact wpAny_Name (wpAny_loadName_free I.ok.kind hk hc hcell fin hcd) hd
theorem aj{i j pos}:PE X (.Constant (.int i) j pos) (tC (.int i)):=λ_ _ _ H _ I h=>wpAny_Constant_int ⟨.int i,H,I.tok _,⟨_,rfl⟩,h⟩
theorem iQ{b j pos}:PE X (.Constant (.bool b) j pos) (tC (.bl b)):=λ_ _ _ H _ I h=>Constant_bool ⟨.bl b,H,I,rfl,h⟩
theorem gB{j pos}:PE X (.Constant .none j pos) (tC .non):=λ_ _ _ H _ I h=>Constant_none ⟨.non,H,I,rfl,h⟩
theorem bz{x j pos}:PE X (.Constant (.str x) j pos) (tC (.str x)):=λ_ _ _ H _ I h=>Fg ⟨.str x,H,I.tok _,⟨_,rfl⟩,h⟩
noncomputable def Gl(X:Cx)(x:Str):Prop:=X.env.kindOf x=some .globalImplicit
theorem kY{E:Value->Shared->Prop}{pins:List (Addr × Obj)}{s:Shared}{σ:St}{H:Hp}{x:Str}{u:Value}{pos:Pos}{Q:Value->Shared->Prop}(I:Inv X pins σ H s)(hg:Gl X x)(hm:X.mg x=some u)(h:Q u s)
  (hd:(x==("__debug__" : Str))=false:=by decide):wpAny (model X.prog X.w) X.A (eval (.Name x pos) X.env) Q E s:=
 Calls.Name_function_global I.ok.kind hg (Calls.loadGlobal_global (by rw[I.ok.glob];exact I.mod.glob.keeps I.bk) hm h) hd
theorem mG{E:Value->Shared->Prop}{pins:List (Addr × Obj)}{s:Shared}{σ:St}{H:Hp}{x:Str}{u:Value}{pos:Pos}{Q:Value->Shared->Prop}(I:Inv X pins σ H s)(hg:Gl X x)(hm:X.mg x=none)(hv:bootBuiltins x=some u)(h:Q u s)
  (hn:x ≠ "__name__" :=by decide) (hd:(x==("__debug__" : Str))=false:=by decide):wpAny (model X.prog X.w) X.A (eval (.Name x pos) X.env) Q E s:=by
 obtain⟨mb,h1,h2⟩:=I.mod.blt;exact Calls.Name_function_global I.ok.kind hg (Calls.loadGlobal_builtin (by rw[I.ok.glob];exact I.mod.glob.keeps I.bk) hm (by rw[I.ok.blt];exact h1.keeps I.bk) ((h2 x hn).trans hv) h) hd
theorem eE {x:Str} {v:V} {u:Value} {pos:Pos} (hg:Gl X x) (hm:X.mg x=some u) (r:RelV v u) (hd:(x==("__debug__" : Str))=false:=by decide):PE X (.Name x pos) (tC v):=
 λ_ _ _ H _ I h=>kY I hg hm ⟨v,H,I,r,h⟩ hd
theorem fu {x:Str} {v:V} {u:Value} {pos:Pos} (hg:Gl X x) (hm:X.mg x=none) (hv:bootBuiltins x=some u) (r:RelV v u) (hn:x ≠ "__name__" :=by decide) (hd:(x==("__debug__" : Str))=false:=by decide):PE X (.Name x pos) (tC v):=
 λ_ _ _ H _ I h=>mG I hg hm hv ⟨v,H,I,r,h⟩ hn hd
variable {a b:Expr} {ta tb:TE} {pos:Pos}
noncomputable def tB(t:TE):TT:=λσ H Q=>t σ H λx H1=>∃c,x = .bl c/\Q c H1
theorem dh{e:Expr}{t:TE}(h:PE X e t)(he:∀whole,isTrue e X.env whole=(do let v <- whole;standAt e.pos;holding [v] (truthy v)):=by intro _;rfl):PT X e (tB t):=by
 intro pins s σ H Q I hw;refine isTrue_plain (aG (h pins s σ H _ I hw) λv s1 ⟨x,H1,I1,r1,q1⟩=>?_) (he _);obtain⟨d,rfl,q⟩:=q1;cases r1;exact kx ⟨H1,I1,q⟩
variable {tA vR:TT} {rest:List Expr}
noncomputable def YD(t u:TT):TT:=λσ H Q=>t σ H λc H1=>if c=true then u σ H1 Q else Q false H1
noncomputable def YW(t u:TT):TT:=λσ H Q=>t σ H λc H1=>if c=true then Q true H1 else u σ H1 Q
noncomputable def Du(t:TT):TT:=λσ H Q=>t σ H λc H1=>Q (!c) H1
theorem gN(ha:PT X a tA):PW X (.BoolOp .And [a] pos) tA:=by
 intro wh pins s σ H Q I h;refine isTrue_and (aG (ha pins s σ H Q I h) λc s1 e=>?_);cases c with
 |true=>exact isTrue_and_nil e
 |false=>exact e
theorem gC(ha:PT X a tA):PW X (.BoolOp .Or [a] pos) tA:=by
 intro wh pins s σ H Q I h;refine isTrue_or (aG (ha pins s σ H Q I h) λc s1 e=>?_);cases c with
 |false=>exact isTrue_or_nil e
 |true=>exact e
theorem gK(ha:PT X a tA)(hb:PW X (.BoolOp .And (b::rest) pos) vR):PW X (.BoolOp .And (a::b::rest) pos) (YD tA vR):=by
 intro wh pins s σ H Q I h;refine isTrue_and (aG (ha pins s σ H _ I h) λc s1 ⟨H1,I1,q1⟩=>?_);cases c with
 |true=>exact hb wh pins s1 σ H1 Q I1 q1
 |false=>exact⟨H1,I1,q1⟩
theorem fN(ha:PT X a tA)(hb:PW X (.BoolOp .Or (b::rest) pos) vR):PW X (.BoolOp .Or (a::b::rest) pos) (YW tA vR):=by
 intro wh pins s σ H Q I h;refine isTrue_or (aG (ha pins s σ H _ I h) λc s1 ⟨H1,I1,q1⟩=>?_);cases c with
 |true=>exact⟨H1,I1,q1⟩
 |false=>exact hb wh pins s1 σ H1 Q I1 q1
theorem gJ(ha:PT X a tA):PT X (.UnaryOp .Not a pos) (Du tA):=by
 intro pins s σ H Q I h;exact isTrue_not (ha pins s σ H (λc H1=>Q (!c) H1) I h)
noncomputable def YF(ta tb:TE):TE:=λσ H Q=>ta σ H λx H1=>∃c,x = .bl c/\if c=true then tb σ H1 Q else Q (.bl false) H1
noncomputable def YX(ta tb:TE):TE:=λσ H Q=>ta σ H λx H1=>∃c,x = .bl c/\if c=true then Q (.bl true) H1 else tb σ H1 Q
noncomputable def YT(ta:TE):TE:=λσ H Q=>ta σ H λx H1=>∃c,x = .bl c/\Q (.bl (!c)) H1
theorem iR{op}{t:TE}(h:PE X a t):PE X (.BoolOp op [a] pos) t:=λpins s σ H Q I hw=>BoolOp_one (h pins s σ H Q I hw)
theorem jt(ha:PE X a ta)(hb:PE X (.BoolOp .And (b::rest) pos) tb):PE X (.BoolOp .And (a::b::rest) pos) (YF ta tb):=by
 intro pins s σ H Q I h;refine BoolOp_and (aG (ha pins s σ H _ I h) λv s1 ⟨x,H1,I1,r1,q1⟩=>?_);obtain⟨c,rfl,q1⟩:=q1;cases r1;refine kx ?_;cases c with
 |true=>exact hb pins s1 σ H1 Q I1 q1
 |false=>exact⟨.bl false,H1,I1,rfl,q1⟩
theorem Kr(ha:PE X a ta)(hb:PE X (.BoolOp .Or (b::rest) pos) tb):PE X (.BoolOp .Or (a::b::rest) pos) (YX ta tb):=by
 intro pins s σ H Q I h;refine BoolOp_or (aG (ha pins s σ H _ I h) λv s1 ⟨x,H1,I1,r1,q1⟩=>?_);obtain⟨c,rfl,q1⟩:=q1;cases r1;refine kx ?_;cases c with
 |false=>exact hb pins s1 σ H1 Q I1 q1
 |true=>exact⟨.bl true,H1,I1,rfl,q1⟩
theorem Kq(ha:PE X a ta):PE X (.UnaryOp .Not a pos) (YT ta):=by
 intro pins s σ H Q I h;refine UnaryOp_ (aG (ha pins s σ H _ I h) λv s1 ⟨x,H1,I1,r1,q1⟩=>?_);obtain⟨c,rfl,q1⟩:=q1;cases r1;exact not_of (kx ⟨.bl (!c),H1,I1,rfl,q1⟩)
end
noncomputable def ai(K:W.Frag)(H:Hp)(a:Addr)(xs:List V):Prop:=
 Rd H a (.lst xs) \/
  ∃(o:Obj) (its:Array Value) (n:Nat),K.lookup a=some o/\o.cls = .type "list" /\ o.dict=none/\o.data = .seq its n/\its.size<=sizeLine/\Vals xs its.toList
noncomputable def aQ(K:W.Frag)(H:Hp)(a:Addr)(xs:List V):Prop:=
 Rd H a (.tup xs) \/
  ∃(o:Obj) (its:Array Value) (n:Nat),K.lookup a=some o/\o.cls = .type "tuple" /\ o.data = .seq its n/\its.size<=sizeLine/\Vals xs its.toList
noncomputable def Pj:Value->Option V
 |.none=>some .non
 |.bool b=>some (.bl b)
 |.int i _=>some (.int i)
 |.str x _=>some (.str x)
 |.bytes b _=>some (.g_ b)
 |.float b _=>some (.flt b)
 |.ref a=>some (.ref a)
 |.type n=>some (.ty n)
 |_=>none
theorem RelV.abs{x:V}{u:Value}(r:RelV x u):Pj u=some x:=by
 cases x with
 |non=>cases r;rfl
 |bl _=>cases r;rfl
 |int _=>obtain⟨t,rfl⟩:=r;rfl
 |str _=>obtain⟨t,rfl⟩:=r;rfl
 |g_ _=>obtain⟨t,rfl⟩:=r;rfl
 |flt _=>obtain⟨t,rfl⟩:=r;rfl
 |ref _=>cases r;rfl
 |ty _=>cases r;rfl
theorem RelV.inj{x y:V}{u:Value}(r:RelV x u)(q:RelV y u):x=y:=dU (r.abs.symm.trans q.abs)
theorem Vals.inj:∀{xs ys:List V} {us:List Value},Vals xs us->Vals ys us->xs=ys
 |_,_,_,.nil,.nil=>rfl
 |_,_,_,.cons r t,.cons r' t'=>by rw[r.inj r',Vals.inj t t']
section
variable {X:Cx} {pins:List (Addr × Obj)} {σ:St} {H:Hp} {s:Shared} {a:Addr} {xs ys:List V}
theorem ai.of{K:W.Frag}(h:H a=some (.lst xs)):ai K H a xs:=.inl (.inl h)
theorem aQ.of{K:W.Frag}(h:H a=some (.tup xs)):aQ K H a xs:=.inl (.inl h)
theorem Inv.list(I:Inv X pins σ H s)(h:ai X.K H a xs):∃its:List Value,Vals xs its/\PlainL s.heap a its.toArray/\xs.length<=sizeLine:=by
 rcases h with h|⟨o,its,n,hk,hc,hd,hs,hz,r⟩
 ·obtain⟨z,its,n,r,e⟩:=h.ok I.hok
  exact⟨its,r,⟨_,n,e,rfl,rfl,rfl⟩,z⟩
 ·refine⟨its.toList,r,⟨o,n,I.cn a o hk,hc,hd,by simpa using hs⟩,?_⟩
  have e:=r.length;simp only[dq]at e;omega
theorem Inv.tuple(I:Inv X pins σ H s)(h:aQ X.K H a xs):∃its:List Value,Vals xs its/\IsTup s.heap a its.toArray/\xs.length<=sizeLine:=by
 rcases h with h|⟨o,its,n,hk,hc,hs,hz,r⟩
 ·obtain⟨z,its,r,p,_⟩:=h.ok I.hok
  exact⟨its,r,p,z⟩
 ·refine⟨its.toList,r,⟨o,I.cn a o hk,hc,n,by simpa using hs⟩,?_⟩
  have e:=r.length;simp only[dq]at e;omega
theorem Inv.Jx(I:Inv X pins σ H s)(h:ai X.K H a xs)(h':ai X.K H a ys):xs=ys:=by
 obtain⟨its,r,⟨o,n,e,_,_,d⟩,_⟩:=I.list h;obtain⟨its',r',⟨o',n',e',_,_,d'⟩,_⟩:=I.list h';rw[e]at e';cases e';rw[d]at d';injection d' with d1 _
 have:its=its':=by simpa using congrArg Array.toList d1
 subst this;exact r.inj r'
theorem Inv.Dw(I:Inv X pins σ H s)(h:aQ X.K H a xs)(h':aQ X.K H a ys):xs=ys:=by
 obtain⟨its,r,⟨o,e,_,n,d⟩,_⟩:=I.tuple h;obtain⟨its',r',⟨o',e',_,n',d'⟩,_⟩:=I.tuple h';rw[e]at e';cases e';rw[d]at d';injection d' with d1 _
 have:its=its':=by simpa using congrArg Array.toList d1
 subst this;exact r.inj r'
end
abbrev Cx.wish (X:Cx) (E:Value->Shared->Prop):Cx:={X with xe:=E}
abbrev Cx.uG (X:Cx):Cx:=X.wish λ_ _=>False
theorem Cx.Ok.wish{X:Cx}(ok:X.Ok)(E:Value->Shared->Prop):(X.wish E).Ok:=
 ⟨ok.mod,ok.kind,ok.glob,ok.blt,ok.above,ok.inj,ok.has,ok.cab,ok.hd,ok.frames,ok.stk,ok.mh,ok.bs,ok.f6,ok.jq,ok.jS,ok.dw,ok.iJ⟩
theorem Cx.Ok.fA{X:Cx}{E:Value->Shared->Prop}(ok:(X.wish E).Ok):X.Ok:=
 ⟨ok.mod,ok.kind,ok.glob,ok.blt,ok.above,ok.inj,ok.has,ok.cab,ok.hd,ok.frames,ok.stk,ok.mh,ok.bs,ok.f6,ok.jq,ok.jS,ok.dw,ok.iJ⟩
section
variable {X:Cx} {pins:List (Addr × Obj)} {σ:St} {H:Hp} {s:Shared} {E:Value->Shared->Prop}
theorem Inv.wish(I:Inv X pins σ H s)(E:Value->Shared->Prop):Inv (X.wish E) pins σ H s:=⟨I.ok.wish E,I.os,I.bare,I.base,I.loc,I.cell,I.free,I.dH,I.pin,I.hok,I.len⟩
theorem Inv.fA(I:Inv (X.wish E) pins σ H s):Inv X pins σ H s:=⟨I.ok.fA,I.os,I.bare,I.base,I.loc,I.cell,I.free,I.dH,I.pin,I.hok,I.len⟩
theorem SP.fA{D:Ends}{f:Flow}{s':Shared}(h:SP (X.wish E) pins D f s'):SP X pins D f s':=by
 cases f with
 |next=>obtain⟨σ',H',I,q⟩:=h;exact⟨σ',H',I.fA,q⟩
 |brk=>obtain⟨σ',H',I,q⟩:=h;exact⟨σ',H',I.fA,q⟩
 |cont=>obtain⟨σ',H',I,q⟩:=h;exact⟨σ',H',I.fA,q⟩
 |ret u=>obtain⟨v,σ',H',I,r,q⟩:=h;exact⟨v,σ',H',I.fA,r,q⟩
theorem dE.uG{st:List Stmt}{t:TS}(h:dE X.uG st t):dE X st t:=λpins s σ H D I hw =>
 dX (h pins s σ H D (I.wish _) hw) (λ_ _ q=>q.fA) λ_ _ z=>False.elim z
end
section
variable {X:Cx} {st:Stmt} {rest:List Stmt} {t u:TS} {e:Expr} {te:TE} {pos:Pos}
noncomputable def vS:TS:=λD σ H=>D.nx σ H
noncomputable def bD(t u:TS):TS:=λD σ H=>t {D with nx:=u D} σ H
theorem bx:dE X [] vS:=λ_ _ σ H _ I h=>sE ⟨σ,H,I,h⟩
theorem ao(h1:PS X st t)(h2:dE X rest u):dE X (st::rest) (bD t u):=by
 intro pins s σ H D I h;refine wpAny_execs_cons (aG (h1 pins s σ H {D with nx:=u D} I h) λf s1 q=>?_);cases f with
 |next =>
  obtain⟨σ',H',I',q⟩:=q;exact h2 pins s1 σ' H' D I' q
 |ret v=>exact q
 |brk=>exact q
 |cont=>exact q
theorem aq(h1:PS X st t):dE X [st] t:=by
 intro pins s σ H D I h;refine wpAny_execs_cons (aG (h1 pins s σ H D I h) λf s1 q=>?_);cases f with
 |next=>exact sE q
 |ret v=>exact q
 |brk=>exact q
 |cont=>exact q
theorem Inv.quiet{pins:List (Addr × Obj)}{σ:St}{H:Hp}{s:Shared}(I:Inv X pins σ H s):interactive X.env=false:=by simp[interactive,I.ok.kind]
noncomputable def YL(te:TE):TS:=λD σ H=>te σ H λ_ H1=>D.nx σ H1
theorem c9(he:PE X e te)(hs:swapsWith e none pos.line X.env=pure false:=by rfl):PS X (.Expr e pos) (YL te):=by
 intro pins s σ H D I h;exact wpAny_Expr_any (aG (he pins s σ H _ I h) λv s1 ⟨x,H1,I1,r1,q1⟩=>⟨σ,H1,I1,q1⟩) I.quiet hs
noncomputable def m6(te:TE):TS:=λD σ H=>te σ H D.rt
theorem aS(he:PE X e te):PS X (.Return (some e) pos) (m6 te):=by
 intro pins s σ H D I h;exact wpAny_Return_some (aG (he pins s σ H _ I h) λv s1 ⟨x,H1,I1,r1,q1⟩=>⟨x,σ,H1,I1,r1,q1⟩)
noncomputable def rC(c:TT)(t u:TS):TS:=λD σ H=>c σ H λb H1=>if b=true then t D σ H1 else u D σ H1
theorem bq{c:Expr}{a b:List Stmt}{tc:TT}(hc:PT X c tc)(ha:dE X a t)(hb:dE X b u):PS X (.If c a b pos) (rC tc t u):=by
 intro pins s σ H D I h;refine wpAny_If (aG (hc pins s σ H _ I h) λd s1 ⟨H1,I1,q1⟩=>?_);cases d with
 |true=>exact ha pins s1 σ H1 D I1 q1
 |false=>exact hb pins s1 σ H1 D I1 q1
end
abbrev TG:=V->St->Hp->(St->Hp->Prop)->Prop
abbrev kB:=List V->St->Hp->(St->Hp->Prop)->Prop
noncomputable def PG(X:Cx)(target:Expr)(t:TG):Prop:=
 ∀(pins:List (Addr × Obj)) (s:Shared) (σ:St) (H:Hp) (v:V) (u:Value) (Q:St->Hp->Prop),Inv X pins σ H s->RelV v u->t v σ H Q ->
  wpAny (model X.prog X.w) X.A (assign target X.env u) (λ_ s'=>∃σ' H',Inv X pins σ' H' s'/\Q σ' H') X.xe s
noncomputable def pZ(X:Cx)(ts:List Expr)(t:kB):Prop:=
 ∀(pins:List (Addr × Obj)) (s:Shared) (σ:St) (H:Hp) (vs:List V) (us:List Value) (Q:St->Hp->Prop),Inv X pins σ H s->Vals vs us->t vs σ H Q ->
  wpAny (model X.prog X.w) X.A (assignInOrder ((assignEach ts X.env).map (·.2)) us) (λ_ s'=>∃σ' H',Inv X pins σ' H' s'/\Q σ' H') X.xe s
abbrev xl:=V->V->V->Hp->(Hp->Prop)->Prop
noncomputable def Fc(X:Cx)(t:xl):Prop:=
 ∀(pins:List (Addr × Obj)) (s:Shared) (σ:St) (H:Hp) (o i v:V) (ov iv u:Value) (Q:Hp->Prop),Inv X pins σ H s->RelV o ov->RelV i iv->RelV v u->t o i v H Q ->
  wpAny (model X.prog X.w) X.A (setItem ov iv u) (λ_ s'=>∃H',Inv X pins σ H' s'/\Q H') X.xe s
section
variable {X:Cx} {pos:Pos}
noncomputable def aW(i:Nat):TG:=λv σ H Q=>Q (σ.set i (some v)) H
theorem aY{i:Nat}{x:Str}(hN:X.N.Nodup)(hi:X.N[i]?=some x)(hx:Loc X.env.scope x)(hf:X.fn x=true\/X.env.scope.names.lookup x=some .local:=by first|exact .inl rfl|exact .inr rfl|assumption):PG X (.Name x pos) (aW i):=by
 intro pins s σ H v u Q I r h;exact wpAny_assign_Name (Nm I hN hi hx r (λs' I'=>⟨_,H,I',h⟩) hf)
noncomputable def tO:kB:=λvs σ H Q=>vs = []/\Q σ H
noncomputable def mq(t:TG)(u:kB):kB:=λvs σ H Q=>∃v r,vs=v::r/\t v σ H λσ' H'=>u r σ' H' Q
theorem Az:pZ X [] tO:=by
 intro pins s σ H vs us Q I r h;obtain⟨e,h⟩:=h;subst e;cases r;exact assignInOrder_nil ⟨σ,H,I,h⟩
theorem oW{e:Expr}{es:List Expr}{t:TG}{u:kB}(h1:PG X e t)(h2:pZ X es u)(hs:(assignEach (e::es) X.env).map (·.2)=assign e X.env::(assignEach es X.env).map (·.2):=by rfl):pZ X (e::es) (mq t u):=by
 intro pins s σ H vs us Q I r h;obtain⟨v,vr,e1,h⟩:=h;subst e1;cases r with
 |cons r rr =>
  rw[hs];refine assignInOrder_cons (aG (h1 pins s σ H _ _ _ I r h) λ_ s1 ⟨σ1,H1,I1,q1⟩=>?_);exact h2 pins s1 σ1 H1 _ _ Q I1 rr q1
noncomputable def qq(K:W.Frag)(n:Nat)(t:kB):TG:=λv σ H Q=>∃a xs,v = .ref a/\aQ K H a xs/\xs.length=n/\t xs σ H Q
theorem Ks{es:List Expr}{k:Nat}{t:kB}{n:Nat}(hc:X.calm=true)(h:pZ X es t)(hn:(assignEach es X.env).length=n:=by rfl)(hst:(assignEach es X.env).findIdx? (·.1)=none:=by rfl):PG X (.Tuple es k pos) (qq X.K n t):=by
 intro pins s σ H v u Q I r hw;obtain⟨a,xs,e1,hq,hl,hw⟩:=hw;subst e1;cases r;obtain⟨its,rv,ht,hz⟩:=I.tuple hq;refine assign_Tuple_tuple (I.ok.hd hc) ht (by simp[hn,<- hl,rv.length]) hst λh' hx=>?_;have I1:Inv X pins σ H {s with heap:=h'}:=I.kept (t':=s.toks) λb o e=>hx b o (bO (aV e)) e;exact h pins _ σ H xs _ Q I1 (by simpa using rv) hw
noncomputable def Hr(to ti:TE)(t:xl):TG:=λv σ H Q=>to σ H λo H1=>ti σ H1 λi H2=>t o i v H2 λH3=>Q σ H3
theorem mR{o i:Expr}{to ti:TE}{t:xl}(ho:PE X o to)(hi:PE X i ti)(hs:Fc X t)
  (ha:∀v,assign (.Subscript o i pos) X.env v=(do
   let ov <- holding [v] (eval o X.env)
   let iv <- holding [v,ov] (eval i X.env)
   standAt pos
   holding [v,ov,iv] (setItem ov iv v)
   release [v,ov,iv] []):=by intro _;rfl):PG X (.Subscript o i pos) (Hr to ti t):=by
 intro pins s σ H v u Q I r h;rw[ha];refine ah (fV (aG (ho pins s σ H _ I h) λov s1 ⟨x,H1,I1,r1,q1⟩=>?_));refine ah (fV (aG (hi pins s1 σ H1 _ I1 q1) λiv s2 ⟨y,H2,I2,r2,q2⟩=>?_));refine ah (qa (ah (fV (aG (hs pins s2 σ H2 x y v ov iv u _ I2 r1 r2 r q2) λ_ s3 ⟨H3,I3,q3⟩=>?_))));exact wpAny_release ⟨σ,H3,I3,q3⟩
noncomputable def pz(te:TE)(g:TG):TS:=λD σ H=>te σ H λx H1=>g x σ H1 D.nx
theorem ll{tg e:Expr}{te:TE}{g:TG}(he:PE X e te)(hg:PG X tg g)(hs:swapsWithSole [tg] e pos.line X.env=pure false:=by rfl)(hw:swappedStores [tg] e X.env=pure none:=by rfl)
  (h1:(assignEach [tg] X.env).map (·.2) = [assign tg X.env]:=by rfl):PS X (.Assign [tg] e pos) (pz te g):=by
 intro pins s σ H D I h;refine wpAny_Assign_stores (aG (he pins s σ H _ I h) λv s1 ⟨x,H1,I1,r1,q1⟩=>?_) hs hw;rw[h1];exact aG (hg pins s1 σ H1 x v _ I1 r1 q1) λ_ s2 q=>q
theorem aJ{i:Nat}{x:Str}{e:Expr}{te:TE}{pos':Pos}(hN:X.N.Nodup)(hi:X.N[i]?=some x)(hx:Loc X.env.scope x)(he:PE X e te)(hs:swapsWith e (some (.Name x pos')) pos.line X.env=pure false:=by rfl)(hf:X.fn x=true\/X.env.scope.names.lookup x=some .local:=by first|exact .inl rfl|exact .inr rfl|assumption):
  PS X (.Assign [.Name x pos'] e pos) (pz te (aW i)):=by
 intro pins s σ H D I h;refine wpAny_Assign_Name (aG (he pins s σ H _ I h) λv s1 ⟨y,H1,I1,r1,q1⟩=>?_) hs;exact Nm I1 hN hi hx r1 (λs2 I2=>⟨_,H1,I2,q1⟩) hf
noncomputable def Y4(c:TT)(tb:TS):TS:=λD σ H=>∃W:Nat->St->Hp->Prop,(∃m,W m σ H)/\∀m σ H,W m σ H ->
 c σ H λb H1=>if b=true then ∃N:St->Hp->Prop,(∀σ' H',N σ' H'->∃m',m'<m/\W m' σ' H')/\tb {D with nx:=N,ct:=N,bk:=D.nx} σ H1 else D.nx σ H1
theorem KH{c:Expr}{body:List Stmt}{tc:TT}{tb:TS}(hp:PassesOwn (model X.prog X.w) X.A X.env X.xe)(hc:PT X c tc)(hb:dE X body tb):PS X (.While c body [] pos) (Y4 tc tb):=by
 intro pins s σ H D I h;obtain⟨W,⟨m0,w0⟩,turn⟩:=h;refine wpAny_While (codeAny_whileLoop (λn s'=>∃σ' H',Inv X pins σ' H' s'/\W n σ' H') ?_ m0 ⟨σ,H,I,w0⟩);rintro n s1 ⟨σ1,H1,I1,w1⟩;refine nZ hp (aG (hc pins s1 σ1 H1 _ I1 (turn n σ1 H1 w1)) λb s2 ⟨H2,I2,q2⟩=>?_);cases b with
 |true =>
  obtain⟨N,hN,q2⟩:=q2;rw[az rfl];refine nZ hp (aG (hb pins s2 σ1 H2 _ I2 q2) λf s3 q3=>?_);cases f with
  |next =>
   obtain⟨σ3,H3,I3,n3⟩:=q3;obtain⟨m',hm,w3⟩:=hN σ3 H3 n3;exact⟨m',hm,σ3,H3,I3,w3⟩
  |cont =>
   obtain⟨σ3,H3,I3,n3⟩:=q3;obtain⟨m',hm,w3⟩:=hN σ3 H3 n3;exact⟨m',hm,σ3,H3,I3,w3⟩
  |brk=>exact q3
  |ret v=>exact q3
 |false =>
  rw[au bY];exact sE ⟨σ1,H2,I2,q2⟩
end
structure It where
 go:Nat->Hp->Prop
 lI:Nat->Hp->V->Hp->Prop
 stop:Nat->Hp->Prop
noncomputable def eJ(X:Cx)(pins:List (Addr × Obj))(H:Hp)(b:Addr):Prop:=
 H b=none/\b≠X.env.locals/\b ∉ X.fs/\(b∈X.ex\/X.s₀.heap.objs.size<=b)/\(∀x c,X.env.cells.lookup x=some c->c≠b)/\∀p∈X.pn++pins,p.1≠b
theorem Inv.ml{X:Cx}{pins:List (Addr × Obj)}{σ:St}{H H':Hp}{s:Shared}{b:Addr}(I:Inv X pins σ H s)(hb:s.heap.objs.size<=b)(hn:H' b=none):eJ X pins H' b:=by
 refine⟨hn,gX (cg I.lt hb),I.U_ hb,.inr (bN I.sz hb),λx c e z=>?_,λp hp z=>?_⟩
 ·obtain⟨v,q⟩:=I.cell x c e
  exact absurd (cg q.lt (by rw[z];exact hb)) (fh _)
 ·exact absurd (cg (aV (I.pin p hp).1) (by rw[z];exact hb)) (fh _)
structure Turn (P:Program) (w:World) (K:W.Frag) (tg:Expr) (J:It) (fp:List Addr) (it:Addr) (tn:Nat->Heap->Prop):Prop where
 mem:it∈fp
 obj:∀i h,tn i h->∀b∈fp,∃o,h.get? b=some o/\∀v,o.data≠.cell v
 keep:∀i h h',tn i h->(∀b∈fp,∀o,h.get? b=some o->h'.get? b=some o)->tn i h'
 item:∀(X:Cx),X.prog=P->X.w=w->X.K=K->X.calm=true->∀(i:Nat) (pins:List (Addr × Obj)) (s:Shared) (σ:St) (H:Hp) (E:Value->Shared->Prop),Inv X pins σ H s->(∀b∈fp,eJ X pins H b)->tn i s.heap->J.go i H ->
  wpAny (model P w) X.A (pyNext (.ref it)) (λr s1=>∃u,r=some u /\
   wpAny (model P w) X.A (letOwnedTupleGo tg (.ref it) u) (λ_ s2=>∃x H',Inv X pins σ H' s2/\RelV x u/\J.lI i H x H'/\tn (i+1) s2.heap/\∀b∈fp,H' b=none) E s1) E s
 done:∀(X:Cx),X.prog=P->X.w=w->X.K=K->X.calm=true->∀(i:Nat) (pins:List (Addr × Obj)) (s:Shared) (σ:St) (H:Hp) (E:Value->Shared->Prop),Inv X pins σ H s->(∀b∈fp,eJ X pins H b)->tn i s.heap->J.stop i H ->
  wpAny (model P w) X.A (pyNext (.ref it)) (λr s1=>r=none/\Inv X pins σ H s1) E s
 self:∀(A:Around) (i:Nat) (s:Shared) (Q:Value->Shared->Prop) (E:Value->Shared->Prop),tn i s.heap->Q (.ref it) s->wpAny (model P w) A (pyIter (.ref it)) Q E s
abbrev TI:=St->Hp->(It->Hp->Prop)->Prop
noncomputable def PIE(X:Cx)(pins:List (Addr × Obj))(σ:St)(tg:Expr)(R:It->Hp->Prop)(itv:Value)(s2:Shared):Prop:=
 ∃(it:Addr) (fp:List Addr) (tn:Nat->Heap->Prop) (J:It) (H':Hp),itv = .ref it/\Inv X pins σ H' s2/\Turn X.prog X.w X.K tg J fp it tn/\tn 0 s2.heap/\(∀b∈fp,eJ X pins H' b)/\R J H'
noncomputable def PI(X:Cx)(tg iter:Expr)(wi:TI):Prop:=
 ∀(pins:List (Addr × Obj)) (s:Shared) (σ:St) (H:Hp) (R:It->Hp->Prop),Inv X pins σ H s->wi σ H R ->
  wpAny (model X.prog X.w) X.A (eval iter X.env) (λv s1=>wpAny (model X.prog X.w) X.A (pyIter v) (PIE X pins σ tg R) X.xe s1) X.xe s
theorem qu{M:Model}{A:Around}{E:Value->Shared->Prop}{s:Shared}{tg:Expr}{it:Addr}{u:Value}{o:Obj}{n:String}{vs:Array Value}{Q:Unit->Shared->Prop}(ho:s.heap.get? it=some o)(hc:o.cls = .type n)(hd:o.data = .fields vs)
  (hn:["enumerate","zip","dict_itemiterator","dict_reverseitemiterator","odict_iterator","itertools.zip_longest","itertools.pairwise"].contains n=false) (hQ:Q () s):wpAny M A (letOwnedTupleGo tg (.ref it) u) Q E s:=by
 unfold letOwnedTupleGo;cases tg<;>first
  |exact aC hQ
  | (cases u<;>first
    |exact aC hQ
    | (refine ah (wpAny_load ho ?_);rw[hc,hd];show wpAny M A (if(["enumerate","zip","dict_itemiterator","dict_reverseitemiterator","odict_iterator","itertools.zip_longest","itertools.pairwise"].contains n&&vs[0]?==some (rawInt _))=true then _ else _) Q E s;rw[au (by intro h;rw[hn,j_]at h;cases h)];exact aC hQ))
noncomputable def kf(K:W.Frag)(a:Addr):It:=
 ⟨λi H=>∃xs x,ai K H a xs/\xs[i]?=some x,λi H x H'=>H'=H/\∀xs,ai K H a xs->xs[i]?=some x,λi H=>∃xs,ai K H a xs/\xs.length<=i⟩
noncomputable def lK(K:W.Frag)(a:Addr):It:=
 ⟨λi H=>∃xs x,aQ K H a xs/\xs[i]?=some x,λi H x H'=>H'=H/\∀xs,aQ K H a xs->xs[i]?=some x,λi H=>∃xs,aQ K H a xs/\xs.length<=i⟩
noncomputable def kg(lo:Int)(n:Nat):It:=⟨λi _=>i<n,λi H x H'=>H'=H/\x = .int (lo+i),λi _=>n<=i⟩
theorem Zf{P:Program}{w:World}{K:W.Frag}{tg:Expr}(a it:Addr):Turn P w K tg (kf K a) [it] it (λi h=>h.IsListIter it a i) where
 mem:=by simp
 obj:=λi h st b hb=>by
  have e:b=it:=by simpa using hb
  subst e;obtain⟨o,e,c,d⟩:=st;exact⟨o,e,λv z=>by rw[d]at z;cases z⟩
 keep:=λi h h' st k=>st.at λo e=>k it (by simp) o e
 item:=by
  intro X hP hw hK hc i pins s σ H E I hf st hg;subst hP hw hK;obtain⟨xs,x,hq,hx⟩:=hg;obtain⟨its,rv,p,hz⟩:=I.list hq;obtain⟨u,hu,ru⟩:=rv.get hx;obtain⟨f0,f1,f2,f3,f4,f5⟩:=hf it (by simp);refine wpAny_pyNext_list_item st p.isList (x:=u) (by simpa using hu) λh' st' sb=>?_;have I1:Inv X pins σ H {s with heap:=h'}:=I.turned (t':=s.toks) (λb o hb e=>(sb.2 b hb).trans e) f0 f1 f3 f4 f5;obtain⟨o,e,c,d⟩:=id st';exact⟨u,rfl,qu (s:={s with heap:=h'}) e c d (by decide) ⟨x,H,I1,ru,⟨rfl,λys hy=>by rw[I.Jx hy hq];exact hx⟩,st',λb hb=>(hf b hb).1⟩⟩
 done:=by
  intro X hP hw hK hc i pins s σ H E I hf st hg;subst hP hw hK;obtain⟨xs,hq,hx⟩:=hg;obtain⟨its,rv,p,hz⟩:=I.list hq;obtain⟨f0,f1,f2,f3,f4,f5⟩:=hf it (by simp);have hl:=rv.length;exact wpAny_pyNext_list_end (I.ok.hd hc) st p.isList (by simp;omega) λh' eb=>⟨rfl,I.turned (t':=s.toks) (λb o hb e=>eb b o hb e) f0 f1 f3 f4 f5⟩
 self:=λ_ _ _ _ _ st h=>wpAny_pyIter_listiter st h
theorem Zh{P:Program}{w:World}{K:W.Frag}{tg:Expr}(a it:Addr):Turn P w K tg (lK K a) [it] it (λi h=>h.IsTupleIter it a i) where
 mem:=by simp
 obj:=λi h st b hb=>by
  have e:b=it:=by simpa using hb
  subst e;obtain⟨o,e,c,d⟩:=st;exact⟨o,e,λv z=>by rw[d]at z;cases z⟩
 keep:=λi h h' st k=>st.at λo e=>k it (by simp) o e
 item:=by
  intro X hP hw hK hc i pins s σ H E I hf st hg;subst hP hw hK;obtain⟨xs,x,hq,hx⟩:=hg;obtain⟨its,rv,p,hz⟩:=I.tuple hq;obtain⟨u,hu,ru⟩:=rv.get hx;obtain⟨f0,f1,f2,f3,f4,f5⟩:=hf it (by simp);refine wpAny_pyNext_tuple_item st (show s.heap.IsTuple a its.toArray from p) (x:=u) (by simpa using hu) λh' st' sb=>?_;have I1:Inv X pins σ H {s with heap:=h'}:=I.turned (t':=s.toks) (λb o hb e=>(sb.2 b hb).trans e) f0 f1 f3 f4 f5;obtain⟨o,e,c,d⟩:=id st';exact⟨u,rfl,qu (s:={s with heap:=h'}) e c d (by decide) ⟨x,H,I1,ru,⟨rfl,λys hy=>by rw[I.Dw hy hq];exact hx⟩,st',λb hb=>(hf b hb).1⟩⟩
 done:=by
  intro X hP hw hK hc i pins s σ H E I hf st hg;subst hP hw hK;obtain⟨xs,hq,hx⟩:=hg;obtain⟨its,rv,p,hz⟩:=I.tuple hq;obtain⟨f0,f1,f2,f3,f4,f5⟩:=hf it (by simp);have hl:=rv.length;exact wpAny_pyNext_tuple_end (I.ok.hd hc) st (show s.heap.IsTuple a its.toArray from p) (by simp;omega) λh' eb=>⟨rfl,I.turned (t':=s.toks) (λb o hb e=>eb b o hb e) f0 f1 f3 f4 f5⟩
 self:=λ_ _ _ _ _ st h=>wpAny_pyIter_tupleiter st h
theorem Zg{P:Program}{w:World}{K:PySem.W.Frag}{tg:Expr}(it:Addr)(lo:Int)(n:Nat):Turn P w K tg (kg lo n) [it] it (λi h=>IsRangeIter h it (lo+(i:Nat)*1) ((n:Int) - (i:Nat)) 1) where
 mem:=by simp
 obj:=λi h st b hb=>by
  have e:b=it:=by simpa using hb
  subst e;exact⟨_,st,λv z=>by
   have z':Data.fields _=Data.cell v:=z;cases z'⟩
 keep:=λi h h' st k=>k it (by simp) _ st
 item:=by
  intro X hP hw hK hc i pins s σ H E I hf st hg;subst hP hw hK;obtain⟨f0,f1,f2,f3,f4,f5⟩:=hf it (by simp);have W:=Walks.range (prog:=X.prog) (w:=X.w) (I.ok.hd hc) it lo 1 n;refine W.item i s _ _ hg st λv h' tk hv st' kk=>?_;obtain⟨t,rfl⟩:=hv;have I1:Inv X pins σ H {s with heap:=h',toks:=tk}:=I.turned (λb o hb e=>kk b o (by simpa using hb) e) f0 f1 f3 f4 f5;refine⟨_,rfl,qu (s:={s with heap:=h',toks:=tk}) (n:= "range_iterator") st' rfl rfl (by decide) ⟨.int (lo+i),H,I1,⟨t,?_⟩,⟨rfl,rfl⟩,st',λb hb=>(hf b hb).1⟩⟩;rw[Int.mul_one]
 done:=by
  intro X hP hw hK hc i pins s σ H E I hf st hg;subst hP hw hK;obtain⟨f0,f1,f2,f3,f4,f5⟩:=hf it (by simp);exact wpAny_pyNext_range_end (I.ok.hd hc) st (by have:n<=i:=hg;omega) λh' eb=>⟨rfl,I.turned (t':=s.toks) (λb o hb e=>eb b o hb e) f0 f1 f3 f4 f5⟩
 self:=λ_ _ _ _ _ st h=>wpAny_pyIter_rangeiter st h
section
variable {X:Cx} {tg:Expr}
noncomputable def IW(K:W.Frag)(tl:TE):TI:=λσ H R=>tl σ H λx H1=>∃a,x = .ref a/\(∃xs,ai K H1 a xs)/\R (kf K a) H1
noncomputable def I0(K:W.Frag)(tl:TE):TI:=λσ H R=>tl σ H λx H1=>∃a,x = .ref a/\(∃xs,aQ K H1 a xs)/\R (lK K a) H1
theorem Xb{l:Expr}{tl:TE}(hl:PE X l tl):PI X tg l (IW X.K tl):=by
 intro pins s σ H R I h;refine aG (hl pins s σ H _ I h) λv s1 ⟨x,H1,I1,r1,q1⟩=>?_;obtain⟨a,e,⟨xs,hq⟩,q⟩:=q1;subst e;cases r1;obtain⟨its,rv,p,hz⟩:=I1.list hq;refine sG p.isList ?_;refine⟨s1.heap.objs.size,[s1.heap.objs.size],_,_,H1,rfl,I1.kept (t':=s1.toks) λb o e=>aM _ e,Zf a _,⟨_,bR _ rfl,rfl,rfl⟩,λb hb=>?_,q⟩;have e:b=s1.heap.objs.size:=by simpa using hb
 subst e;exact I1.ml (aO _) (I1.hok.fresh (aO _))
theorem Xd{l:Expr}{tl:TE}(hl:PE X l tl):PI X tg l (I0 X.K tl):=by
 intro pins s σ H R I h;refine aG (hl pins s σ H _ I h) λv s1 ⟨x,H1,I1,r1,q1⟩=>?_;obtain⟨a,e,⟨xs,hq⟩,q⟩:=q1;subst e;cases r1;obtain⟨its,rv,p,hz⟩:=I1.tuple hq;refine wpAny_pyIter_tuple (show s1.heap.IsTuple a its.toArray from p) ?_;refine⟨s1.heap.objs.size,[s1.heap.objs.size],_,_,H1,rfl,I1.kept (t':=s1.toks) λb o e=>aM _ e,Zh a _,⟨_,bR _ rfl,rfl,rfl⟩,λb hb=>?_,q⟩;have e:b=s1.heap.objs.size:=by simpa using hb
 subst e;exact I1.ml (aO _) (I1.hok.fresh (aO _))
theorem K5{pins:List (Addr × Obj)}{σ:St}{H:Hp}{s:Shared}{R:It->Hp->Prop}{E:Value->Shared->Prop}{lo hi:Int}{t u v:Tok}{tk:Nat}(I:Inv X pins σ H s)(h1:-(2 ^ 62)<=lo)(h2:lo<2 ^ 62)(h3:-(2 ^ 62)<=hi)(h4:hi<2 ^ 62)
  (q:R (kg lo (hi - lo).toNat) H):wpAny (model X.prog X.w) X.A (pyIter (.ref s.heap.objs.size)) (PIE X pins σ tg R) E {s with heap:=s.heap.push {cls:=.type "range", data:=.fields #[.int lo t,.int hi u,.int 1 v]},toks:=tk}:=by
 refine wpAny_pyIter_range (IsRange.new ..) (small_one h1 h2 h3 h4) ?_;have I1:Inv X pins σ H {s with heap:=s.heap.push {cls:=.type "range", data:=.fields #[.int lo t,.int hi u,.int 1 v]},toks:=tk}:=I.kept λb o e=>aM _ e;refine⟨(s.heap.push {cls:=.type "range", data:=.fields #[.int lo t,.int hi u,.int 1 v]}).objs.size,[(s.heap.push {cls:=.type "range", data:=.fields #[.int lo t,.int hi u,.int 1 v]}).objs.size],_,_,H,rfl,
  I1.kept (t':=tk) λb o e=>aM _ e,Zg _ lo (hi - lo).toNat,?_,λb hb=>?_,q⟩
 ·have e1:lo+((0:Nat):Int)*1=lo:=by simp
  have e2:(((hi - lo).toNat:Nat):Int) - ((0:Nat):Int)=Builtin.Range.rangeSize lo hi 1:=by rw[rangeSize_one];split<;>omega
  show IsRangeIter _ _ (lo+((0:Nat):Int)*1) ((((hi - lo).toNat:Nat):Int) - ((0:Nat):Int)) 1;rw[e1,e2];exact bR _ rfl
 ·have e:b=(s.heap.push {cls:=.type "range", data:=.fields #[.int lo t,.int hi u,.int 1 v]}).objs.size:=by simpa using hb
  subst e;exact I1.ml (aO _) (I1.hok.fresh (aO _))
noncomputable def zR(ta:TA):TI:=λσ H R=>ta σ H λvs H1=>∃j:Int,vs = [.int j]/\-(2 ^ 62)<=j/\j<2 ^ 62/\R (kg 0 j.toNat) H1
noncomputable def Tb(ta:TA):TI:=λσ H R=>ta σ H λvs H1=>∃i j:Int,vs = [.int i,.int j]/\(-(2 ^ 62)<=i/\i<2 ^ 62/\-(2 ^ 62)<=j/\j<2 ^ 62)/\R (kg i (j - i).toNat) H1
theorem cS {a:Expr} {ta:TA} {p pos:Pos} (hg:Gl X "range") (hm:X.mg "range" = none) (ha:PA X [a] ta) (hs:starEach [a] X.env = [(false,eval a X.env)]:=by rfl):PI X tg (.Call (.Name "range" p) [a] [] pos) (zR ta):=by
 intro pins s σ H R I h;refine Call_ (mG I hg hm boot_range (sj (aG (ha pos pins s σ H _ I h) λus s1 ⟨vs,H1,I1,r1,q1⟩=>?_) hs rfl));obtain⟨j,e,q1,q2,q⟩:=q1;subst e;cases r1 with
 |cons r rr =>
  cases rr;obtain⟨t,rfl⟩:=r;exact call_range_1 (K5 I1 (by omega) (by omega) q1 q2 (by simpa using q))
theorem qR {a b:Expr} {ta:TA} {p pos:Pos} (hg:Gl X "range") (hm:X.mg "range" = none) (ha:PA X [a,b] ta) (hs:starEach [a,b] X.env = [(false,eval a X.env),(false,eval b X.env)]:=by rfl) (hs2:starEach [b] X.env = [(false,eval b X.env)]:=by rfl) :
  PI X tg (.Call (.Name "range" p) [a,b] [] pos) (Tb ta):=by
 intro pins s σ H R I h;refine Call_ (mG I hg hm boot_range (sj (aG (ha pos pins s σ H _ I h) λus s1 ⟨vs,H1,I1,r1,q1⟩=>?_) (by rw[hs,hs2]) (by rw[hs2];rfl)));obtain⟨i,j,e,⟨q1,q2,q3,q4⟩,q⟩:=q1;subst e;cases r1 with
 |cons r rr =>
  cases rr with
  |cons r' rr =>
   cases rr;obtain⟨t,rfl⟩:=r;obtain⟨t',rfl⟩:=r';exact call_range_2 (K5 I1 q1 q2 q3 q4 q)
noncomputable def Ds(wi:TI)(g:TG)(tb:TS):TS:=λD σ H=>wi σ H λJ H1=>∃W:Nat->Nat->St->Hp->Prop,(∃m,W 0 m σ H1)/\∀i m σ H,W i m σ H ->
 (J.stop i H/\D.nx σ H)\/(J.go i H/\∃N:St->Hp->Prop,(∀σ' H',N σ' H'->∃m',m'<m/\W (i+1) m' σ' H')/\∀x H',J.lI i H x H'->g x σ H' λσ2 H2=>tb {D with nx:=N,ct:=N,bk:=D.nx} σ2 H2)
noncomputable def qS(fp:List Addr)(h:Heap):List (Addr × Obj):=fp.filterMap λb=>(h.get? b).map λo=>(b,o)
theorem uw{fp:List Addr}{h:Heap}{b:Addr}{o:Obj}(hb:b∈fp)(e:h.get? b=some o):(b,o)∈qS fp h:=List.mem_filterMap.mpr ⟨b,hb,by rw[e];rfl⟩
theorem Vm{fp:List Addr}{h:Heap}{p:Addr × Obj}(hp:p∈qS fp h):p.1∈fp/\h.get? p.1=some p.2:=by
 obtain⟨b,hb,e⟩:=List.mem_filterMap.mp hp;cases q:h.get? b with
 |none=>rw[q]at e;cases e
 |some o =>
  rw[q]at e;have e':(b,o)=p:=dU e;subst e';exact⟨hb,q⟩
theorem Inv.pinned{pins:List (Addr × Obj)}{σ:St}{H:Hp}{s:Shared}{fp:List Addr}(I:Inv X pins σ H s)(hf:∀b∈fp,eJ X pins H b)(ho:∀b∈fp,∃o,s.heap.get? b=some o/\∀v,o.data≠.cell v):Inv X (pins++qS fp s.heap) σ H s:=
 I.Ky λp hp=>(fe.mp hp).elim (λz=>I.pin p (jH _ z)) λz=>by
  obtain⟨hb,e⟩:=Vm z;obtain⟨f0,f1,f2,_⟩:=hf p.1 hb;obtain⟨o,e',d⟩:=ho p.1 hb;rw[e]at e';cases e';exact⟨e,f0,f1,f2,d⟩
theorem Inv.vX{pins pl:List (Addr × Obj)}{σ:St}{H:Hp}{s:Shared}(I:Inv X (pins++pl) σ H s):Inv X pins σ H s:=I.Ky λp hp=>I.pin p (jH _ (pQ _ hp))
theorem b_{iter:Expr}{body:List Stmt}{wi:TI}{g:TG}{tb:TS}{pos:Pos}(hp:PassesOwn (model X.prog X.w) X.A X.env X.xe)(hc:X.calm=true)(hi:PI X tg iter wi)(hg:PG X tg g)(hb:dE X body tb)(hs:∀x,foldedSetIterable iter X.env x=pure x:=by intro _;rfl):PS X (.For tg iter body [] pos) (Ds wi g tb):=by
 intro pins s σ H D I h;refine wpAny_For (aG (hi pins s σ H _ I h) λv s1 h1=>aG h1 λitv s2 h2=>?_) hs;obtain⟨it,fp,tn,J,H2,e,I2,T,st2,f2,W,⟨m0,w0⟩,turn⟩:=h2;subst e;have stat:∀{H':Hp},(∀b∈fp,H' b=none)->∀b∈fp,eJ X pins H' b:=λhn b hb=>⟨hn b hb,(f2 b hb).2⟩;refine codeAny_forLoop_any (λn s'=>∃i σ' H',Inv X pins σ' H' s'/\tn i s'.heap/\(∀b∈fp,H' b=none)/\W i n σ' H') ?_ m0 ⟨0,σ,H2,I2,st2,λb hb=>(f2 b hb).1,w0⟩;rintro n s3 ⟨i,σ3,H3,I3,st3,qp,w3⟩
 rcases turn i n σ3 H3 w3 with⟨stop,qn⟩|⟨go,N,hN,step⟩
 ·refine nZ hp (aG (T.done X rfl rfl rfl hc i pins s3 σ3 H3 X.xe I3 (stat qp) st3 stop) λr s4 ⟨hr,I4⟩=>?_)
  subst hr;exact sE ⟨σ3,H3,I4,qn⟩
 ·refine nZ hp (aG (T.item X rfl rfl rfl hc i pins s3 σ3 H3 X.xe I3 (stat qp) st3 go) λr s4 ⟨u,hr,h4⟩=>?_)
  subst hr;refine nZ hp (aG h4 λ_ s5 ⟨x,H5,I5,r5,y5,jw,zB⟩=>?_);have wo:=I5.pinned (stat zB) (T.obj _ _ jw);refine nZ hp (aG (hg _ s5 σ3 H5 x u _ wo r5 (step x H5 y5)) λ_ s6 ⟨σ6,H6,I6,q6⟩=>?_);refine nZ hp (aG (hb _ s6 σ6 H6 _ I6 q6) λf s7 q7=>?_);have again:∀{σ7:St} {H7:Hp},Inv X (pins++qS fp s5.heap) σ7 H7 s7->N σ7 H7->∃m,m<n/\∃i σ' H',Inv X pins σ' H' s7/\tn i s7.heap/\(∀b∈fp,H' b=none)/\W i m σ' H':=λ{σ7 H7} I7 n7=>by
   obtain⟨m',hm,w7⟩:=hN σ7 H7 n7;refine⟨m',hm,i+1,σ7,H7,I7.vX,T.keep _ _ _ jw λb hb o e=>(I7.pin (b,o) (jH _ (jH _ (uw hb e)))).1,λb hb=>?_,w7⟩;obtain⟨o,e,d⟩:=T.obj _ _ jw b hb;exact(I7.pin (b,o) (jH _ (jH _ (uw hb e)))).2.1
  cases f with
  |next=>obtain⟨σ7,H7,I7,n7⟩:=q7;exact again I7 n7
  |cont=>obtain⟨σ7,H7,I7,n7⟩:=q7;exact again I7 n7
  |brk=>obtain⟨σ7,H7,I7,q7⟩:=q7;exact⟨σ7,H7,I7.vX,q7⟩
  |ret v=>obtain⟨x7,σ7,H7,I7,r7,q7⟩:=q7;exact⟨x7,σ7,H7,I7.vX,r7,q7⟩
end
theorem jn{K:PySem.W.Frag}{a:Addr}{xs:List V}{g:TG}{tb:TS}{D:Ends}{σ:St}{H:Hp}(Pv:Nat->St->Hp->Prop)(h0:Pv 0 σ H)(hl:∀i σ H,i<=xs.length->Pv i σ H->ai K H a xs)
  (hs:∀i x σ H,xs[i]?=some x->Pv i σ H->g x σ H λσ2 H2=>tb {D with nx:=Pv (i+1),ct:=Pv (i+1),bk:=D.nx} σ2 H2) (hd:∀σ H,Pv xs.length σ H->D.nx σ H) :
  ∃W:Nat->Nat->St->Hp->Prop,(∃m,W 0 m σ H)/\∀i m σ H,W i m σ H ->
   ((kf K a).stop i H/\D.nx σ H)\/((kf K a).go i H/\∃N:St->Hp->Prop,(∀σ' H',N σ' H'->∃m',m'<m/\W (i+1) m' σ' H')/\∀x H',(kf K a).lI i H x H'->g x σ H' λσ2 H2=>tb {D with nx:=N,ct:=N,bk:=D.nx} σ2 H2):=by
 refine⟨λi m σ H=>m=xs.length - i/\i<=xs.length/\Pv i σ H,⟨xs.length,by simp,eK _,h0⟩,?_⟩;rintro i m σ H ⟨rfl,hi,p⟩;have q:=hl i σ H hi p
 by_cases hlt:i<xs.length
 ·refine .inr ⟨⟨xs,xs[i],q,by simp[hlt]⟩,Pv (i+1),λσ' H' p'=>⟨xs.length - (i+1),by omega,rfl,hlt,p'⟩,λx H' y=>?_⟩
  obtain⟨e,y⟩:=y;subst e;exact hs i x σ _ (y xs q) p
 ·have e:i=xs.length:=by omega
  subst e;exact .inl ⟨⟨xs,q,aO _⟩,hd σ H p⟩
theorem Ra{K:PySem.W.Frag}{a:Addr}{xs:List V}{g:TG}{tb:TS}{D:Ends}{σ:St}{H:Hp}(Pv:Nat->St->Hp->Prop)(h0:Pv 0 σ H)(hl:∀i σ H,i<=xs.length->Pv i σ H->aQ K H a xs)
  (hs:∀i x σ H,xs[i]?=some x->Pv i σ H->g x σ H λσ2 H2=>tb {D with nx:=Pv (i+1),ct:=Pv (i+1),bk:=D.nx} σ2 H2) (hd:∀σ H,Pv xs.length σ H->D.nx σ H) :
  ∃W:Nat->Nat->St->Hp->Prop,(∃m,W 0 m σ H)/\∀i m σ H,W i m σ H ->
   ((lK K a).stop i H/\D.nx σ H)\/((lK K a).go i H/\∃N:St->Hp->Prop,(∀σ' H',N σ' H'->∃m',m'<m/\W (i+1) m' σ' H')/\∀x H',(lK K a).lI i H x H'->g x σ H' λσ2 H2=>tb {D with nx:=N,ct:=N,bk:=D.nx} σ2 H2):=by
 refine⟨λi m σ H=>m=xs.length - i/\i<=xs.length/\Pv i σ H,⟨xs.length,by simp,eK _,h0⟩,?_⟩;rintro i m σ H ⟨rfl,hi,p⟩;have q:=hl i σ H hi p
 by_cases hlt:i<xs.length
 ·refine .inr ⟨⟨xs,xs[i],q,by simp[hlt]⟩,Pv (i+1),λσ' H' p'=>⟨xs.length - (i+1),by omega,rfl,hlt,p'⟩,λx H' y=>?_⟩
  obtain⟨e,y⟩:=y;subst e;exact hs i x σ _ (y xs q) p
 ·have e:i=xs.length:=by omega
  subst e;exact .inl ⟨⟨xs,q,aO _⟩,hd σ H p⟩
theorem dZ{lo:Int}{n:Nat}{g:TG}{tb:TS}{D:Ends}{σ:St}{H:Hp}(Pv:Nat->St->Hp->Prop)(h0:Pv 0 σ H)
  (hs:∀i σ H,i<n->Pv i σ H->g (.int (lo+i)) σ H λσ2 H2=>tb {D with nx:=Pv (i+1),ct:=Pv (i+1),bk:=D.nx} σ2 H2) (hd:∀σ H,Pv n σ H->D.nx σ H) :
  ∃W:Nat->Nat->St->Hp->Prop,(∃m,W 0 m σ H)/\∀i m σ H,W i m σ H ->
   ((kg lo n).stop i H/\D.nx σ H)\/((kg lo n).go i H/\∃N:St->Hp->Prop,(∀σ' H',N σ' H'->∃m',m'<m/\W (i+1) m' σ' H')/\∀x H',(kg lo n).lI i H x H'->g x σ H' λσ2 H2=>tb {D with nx:=N,ct:=N,bk:=D.nx} σ2 H2):=by
 refine⟨λi m σ H=>m=n - i/\i<=n/\Pv i σ H,⟨n,by simp,eK _,h0⟩,?_⟩;rintro i m σ H ⟨rfl,hi,p⟩
 by_cases hlt:i<n
 ·refine .inr ⟨hlt,Pv (i+1),λσ' H' p'=>⟨n - (i+1),by omega,rfl,hlt,p'⟩,λx H' y=>?_⟩
  obtain⟨e,y⟩:=y;subst e y;exact hs i σ _ hlt p
 ·have e:i=n:=by omega
  subst e;exact .inl ⟨aO _,hd σ H p⟩
abbrev R2:=V->V->Hp->VK->Prop
noncomputable def bP(X:Cx)(f:Value->Value->Sem Value)(r:R2):Prop:=
 ∀(pins:List (Addr × Obj)) (s:Shared) (σ:St) (H:Hp) (x y:V) (v u:Value) (Q:VK),Inv X pins σ H s->RelV x v->RelV y u->r x y H Q ->
  wpAny (model X.prog X.w) X.A (f v u) (EP X pins σ Q) X.xe s
noncomputable def xn(X:Cx)(f:Value->Sem Value)(r:V->Hp->VK->Prop):Prop:=
 ∀(pins:List (Addr × Obj)) (s:Shared) (σ:St) (H:Hp) (x:V) (v:Value) (Q:VK),Inv X pins σ H s->RelV x v->r x H Q ->
  wpAny (model X.prog X.w) X.A (f v) (EP X pins σ Q) X.xe s
noncomputable def dP(X:Cx)(f:Value)(r:List V->Hp->VK->Prop):Prop:=
 ∀(pins:List (Addr × Obj)) (s:Shared) (σ:St) (H:Hp) (xs:List V) (us:List Value) (Q:VK),Inv X pins σ H s->Vals xs us->r xs H Q ->
  wpAny (model X.prog X.w) X.A (call f us) (EP X pins σ Q) X.xe s
noncomputable def ig(r:R2)(ta tb:TE):TE:=λσ H Q=>ta σ H λx H1=>tb σ H1 λy H2=>r x y H2 Q
noncomputable def Y3(r:V->Hp->VK->Prop)(ta:TE):TE:=λσ H Q=>ta σ H λx H1=>r x H1 Q
noncomputable def rI(C:Int->Int->Prop)(g:Int->Int->V):R2:=λx y H Q=>∃i j,x = .int i/\y = .int j/\C i j/\Q (g i j) H
noncomputable def iS(g:Int->Int->V):R2:=λx y H Q=>∃i j,x = .int i/\y = .int j/\Q (g i j) H
noncomputable def rU(g:Int->V):V->Hp->VK->Prop:=λx H Q=>∃i,x = .int i/\Q (g i) H
section
variable {X:Cx} {a b c:Expr} {ta tb tc:TE} {pos:Pos}
theorem xx(ha:PE X a ta)(hb:PE X b tb){pins:List (Addr × Obj)}{s:Shared}{σ:St}{H:Hp}{R:V->V->Hp->Prop}(I:Inv X pins σ H s)(h:ta σ H λx H1=>tb σ H1 λy H2=>R x y H2){Q:Value->Shared->Prop}{f:Value->Value->Sem Value}(hf:∀v u s2 x y H2,Inv X pins σ H2 s2->RelV x v->RelV y u->R x y H2->wpAny (model X.prog X.w) X.A (f v u) Q X.xe s2):wpAny (model X.prog X.w) X.A (eval a X.env) (λv s₁=>wpAny (model X.prog X.w) X.A (eval b X.env) (λu s₂=>wpAny (model X.prog X.w) X.A (f v u) Q X.xe s₂) X.xe s₁) X.xe s:=by
 refine aG (ha pins s σ H _ I h) λv s1 ⟨x,H1,I1,r1,q1⟩=>?_;refine aG (hb pins s1 σ H1 _ I1 q1) λu s2 ⟨y,H2,I2,r2,q2⟩=>?_;exact hf v u s2 x y H2 I2 r1 r2 q2
theorem av{op:Operator}{r:R2}(ho:bP X (binaryOp op) r)(ha:PE X a ta)(hb:PE X b tb):PE X (.BinOp a op b pos) (ig r ta tb):=by
 intro pins s σ H Q I h;exact wpAny_BinOp (xx ha hb I h λv u s2 x y H2 I2 rx ry q=>ho pins s2 σ H2 x y v u Q I2 rx ry q)
theorem W_{op:UnaryOp}{r:V->Hp->VK->Prop}(ho:xn X (unaryOp op) r)(ha:PE X a ta):PE X (.UnaryOp op a pos) (Y3 r ta):=by
 intro pins s σ H Q I h;exact UnaryOp_ (aG (ha pins s σ H _ I h) λv s1 ⟨x,H1,I1,r1,q1⟩=>ho pins s1 σ H1 x v Q I1 r1 q1)
theorem oP{f:Value->Value->Sem Value}{C:Int->Int->Prop}{g:Int->Int->Int}
  (rule:∀(i j:Int) (t u:Tok) (s:Shared) (Q:Value->Shared->Prop) (E:Value->Shared->Prop),C i j->Q (.int (g i j) s.toks) {s with toks:=s.toks+1}->wpAny (model X.prog X.w) X.A (f (.int i t) (.int j u)) Q E s) :
  bP X f (rI C λi j=>.int (g i j)):=by
 intro pins s σ H x y v u Q I rx ry h;obtain⟨i,j,rfl,rfl,hc,q⟩:=h;obtain⟨t,rfl⟩:=rx;obtain⟨t',rfl⟩:=ry;exact rule i j t t' s _ _ hc ⟨.int (g i j),H,I.tok _,⟨_,rfl⟩,q⟩
theorem uR{f:Value->Value->Sem Value}{g:Int->Int->Int}
  (rule:∀(i j:Int) (t u:Tok) (s:Shared) (Q:Value->Shared->Prop) (E:Value->Shared->Prop),Q (.int (g i j) s.toks) {s with toks:=s.toks+1}->wpAny (model X.prog X.w) X.A (f (.int i t) (.int j u)) Q E s) :
  bP X f (iS λi j=>.int (g i j)):=by
 intro pins s σ H x y v u Q I rx ry h;obtain⟨i,j,rfl,rfl,q⟩:=h;obtain⟨t,rfl⟩:=rx;obtain⟨t',rfl⟩:=ry;exact rule i j t t' s _ _ ⟨.int (g i j),H,I.tok _,⟨_,rfl⟩,q⟩
theorem uQ{f:Value->Value->Sem Value}{g:Int->Int->Bool}(rule:∀(i j:Int) (t u:Tok) (s:Shared) (Q:Value->Shared->Prop) (E:Value->Shared->Prop),Q (.bool (g i j)) s->wpAny (model X.prog X.w) X.A (f (.int i t) (.int j u)) Q E s):bP X f (iS λi j=>.bl (g i j)):=by
 intro pins s σ H x y v u Q I rx ry h;obtain⟨i,j,rfl,rfl,q⟩:=h;obtain⟨t,rfl⟩:=rx;obtain⟨t',rfl⟩:=ry;exact rule i j t t' s _ _ ⟨.bl (g i j),H,I,rfl,q⟩
noncomputable def Ed(i j:Int):Prop:=0<j/\j<1073741824
noncomputable def rK(i j:Int):Prop:=0<=j/\j<=1000000/\i.natAbs<2 ^ 64
noncomputable def rJ(i j:Int):Prop:=(-(2 ^ 64)<i/\i<2 ^ 64)\/(-(2 ^ 64)<j/\j<2 ^ 64)
theorem rJ.ok{i j:Int}(h:rJ i j):IntMulOk i j:=by
 rcases h with⟨h1,h2⟩|⟨h1,h2⟩
 ·exact .of_left (intBits_le_64 h1 h2)
 ·exact .of_right (intBits_le_64 h1 h2)
theorem Zk(k:Nat):(0:Int)<=2 ^ k:=by
 rw[two_pow_cast];exact wt _
theorem dI:bP X (binaryOp .Add) (iS λi j=>.int (i+j)):=uR λ_ _ _ _ _ _ _ q=>add_int q
theorem qL:bP X (binaryOp .Sub) (iS λi j=>.int (i - j)):=uR λ_ _ _ _ _ _ _ q=>sub_int q
theorem oS:bP X (binaryOp .Mult) (rI rJ λi j=>.int (i*j)):=oP λ_ _ _ _ _ _ _ hc q=>mul_int q hc.ok
theorem oQ:bP X (binaryOp .FloorDiv) (rI Ed λi j=>.int (i / j)):=oP λi j _ _ _ _ _ hc q=>by
 have h1:(0:Int)<j:=hc.1;have h2:j<1073741824:=hc.2;exact floordiv_int (by omega) (by rw[Oh i (by omega)];exact q) (.inl (PyProof.noPylong_small (by omega)))
theorem cq:bP X (binaryOp .Mod) (rI (λ_ j=>0<j) λi j=>.int (i % j)):=oP λi j _ _ _ _ _ hc q=>by
 have h1:(0:Int)<j:=hc;exact mod_int' (by omega) (by rw[Int.fmod_eq_emod_of_nonneg i (by omega)];exact q)
theorem WD:bP X (binaryOp .Pow) (rI rK λi j=>.int (i ^ j.toNat)):=oP λ_ _ _ _ _ _ _ hc q=>pow_int_small hc.1 hc.2.1 hc.2.2 q
theorem gw:bP X (binaryOp .LShift) (rI rK λi j=>.int (i*2 ^ j.toNat)):=oP λ_ _ _ _ _ _ _ hc q=>lshift_int_small hc.1 hc.2.1 hc.2.2 q
theorem lb:bP X (binaryOp .RShift) (rI (λ_ j=>0<=j) λi j=>.int (i / 2 ^ j.toNat)):=oP λi j _ _ _ _ _ hc q =>
 rshift_int hc (by rw[Oh i (Zk _)];exact q)
theorem gq:bP X (binaryOp .BitAnd) (iS λi j=>.int (Builtin.bitAnd i j)):=uR λ_ _ _ _ _ _ _ q=>and_int q
theorem qK:bP X (binaryOp .BitOr) (iS λi j=>.int (Builtin.bitOr i j)):=uR λ_ _ _ _ _ _ _ q=>or_int q
theorem Zo{f:Value->Sem Value}{g:Int->Int}
  (rule:∀(i:Int) (t:Tok) (s:Shared) (Q:Value->Shared->Prop) (E:Value->Shared->Prop),Q (.int (g i) s.toks) {s with toks:=s.toks+1}->wpAny (model X.prog X.w) X.A (f (.int i t)) Q E s) :
  xn X f (rU λi=>.int (g i)):=by
 intro pins s σ H x v Q I rx h;obtain⟨i,rfl,q⟩:=h;obtain⟨t,rfl⟩:=rx;exact rule i t s _ _ ⟨.int (g i),H,I.tok _,⟨_,rfl⟩,q⟩
theorem Zq:xn X (unaryOp .USub) (rU λi=>.int (-i)):=Zo λ_ _ _ _ _ q=>neg_int q
end
noncomputable def MT:V->V->Bool
 |.non,.non=>true | .non,.int _=>true | .int _,.non=>true | .non,.bl _=>true | .bl _,.non=>true | .non,.str _=>true | .str _,.non=>true
 |.int _,.int _=>true | .bl _,.bl _=>true | .str _,.str _=>true | .g_ _,.g_ _=>true
 |.int _,.str _=>true | .str _,.int _=>true | .bl _,.str _=>true | .str _,.bl _=>true
 |_,_=>false
noncomputable def Xs:R2:=λx y H Q=>MT x y=true/\Q (.bl (decide (x=y))) H
noncomputable def KY:R2:=λx y H Q=>MT x y=true/\Q (.bl (!decide (x=y))) H
theorem GK{i j:Int}:decide (V.int i=V.int j)=(i==j):=by
 rw[gQ];simp
theorem GF{i j:Bool}:decide (V.bl i=V.bl j)=(i==j):=by
 rw[gQ];simp
theorem GL{i j:Str}:decide (V.str i=V.str j)=(i==j):=by
 rw[gQ];simp
theorem GJ{i j:Array UInt8}:decide (V.g_ i=V.g_ j)=(i.toList==j.toList):=by
 rw[gQ];cases i;cases j;simp
section
variable {X:Cx} {a b c:Expr} {ta tb tc:TE} {pos:Pos}
theorem ck{pins:List (Addr × Obj)}{σ:St}{H:Hp}{s:Shared}{Q:VK}{k k':Bool}(I:Inv X pins σ H s)(q:Q (.bl k) H)(e:k=k'):EP X pins σ Q (.bool k') s:=by
 subst e;exact⟨.bl k,H,I,rfl,q⟩
theorem bQ:bP X (compareOp .Eq) Xs:=by
 intro pins s σ H x y v u Q I rx ry h;obtain⟨hs,q⟩:=h;cases x with
 |non =>
  cases rx;cases y with
  |non=>cases ry;exact PySem.EqNone.eq_none_none (ck I q (by simp))
  |bl j=>cases ry;exact PySem.EqNone.eq_none_bool (ck I q (by simp))
  |int j=>obtain⟨t',rfl⟩:=ry;exact PySem.EqNone.eq_none_int (ck I q (by simp))
  |str j=>obtain⟨t',rfl⟩:=ry;exact PySem.EqNone.eq_none_str (ck I q (by simp))
  |_=>exact absurd (show false=true from hs) bY
 |bl i =>
  cases rx;cases y with
  |non=>cases ry;exact PySem.EqNone.eq_bool_none (ck I q (by simp))
  |bl j=>cases ry;exact eq_bool (ck I q GF)
  |str j=>obtain⟨t',rfl⟩:=ry;exact PySem.EqMixed.eq_bool_str (ck I q (by simp))
  |_=>exact absurd (show false=true from hs) bY
 |int i =>
  obtain⟨t,rfl⟩:=rx;cases y with
  |non=>cases ry;exact PySem.EqNone.eq_int_none (ck I q (by simp))
  |int j=>obtain⟨t',rfl⟩:=ry;exact eq_int (ck I q GK)
  |str j=>obtain⟨t',rfl⟩:=ry;exact PySem.EqMixed.eq_int_str (ck I q (by simp))
  |_=>exact absurd (show false=true from hs) bY
 |str i =>
  obtain⟨t,rfl⟩:=rx;cases y with
  |non=>cases ry;exact PySem.EqNone.eq_str_none (ck I q (by simp))
  |bl j=>cases ry;exact PySem.EqMixed.eq_str_bool (ck I q (by simp))
  |int j=>obtain⟨t',rfl⟩:=ry;exact PySem.EqMixed.eq_str_int (ck I q (by simp))
  |str j=>obtain⟨t',rfl⟩:=ry;exact eq_str (ck I q GL)
  |_=>exact absurd (show false=true from hs) bY
 |g_ i =>
  obtain⟨t,rfl⟩:=rx;cases y with
  |g_ j=>obtain⟨t',rfl⟩:=ry;exact W.eq_bytes (ck I q GJ)
  |_=>exact absurd (show false=true from hs) bY
 |_=>cases y<;>exact absurd (show false=true from hs) bY
theorem jW:bP X (compareOp .NotEq) KY:=by
 intro pins s σ H x y v u Q I rx ry h;obtain⟨hs,q⟩:=h;cases x with
 |non =>
  cases rx;cases y with
  |non=>cases ry;exact PySem.EqNone.ne_none_none (ck I q (by simp))
  |bl j=>cases ry;exact PySem.EqNone.ne_none_bool (ck I q (by simp))
  |int j=>obtain⟨t',rfl⟩:=ry;exact PySem.EqNone.ne_none_int (ck I q (by simp))
  |str j=>obtain⟨t',rfl⟩:=ry;exact PySem.EqNone.ne_none_str (ck I q (by simp))
  |_=>exact absurd (show false=true from hs) bY
 |bl i =>
  cases rx;cases y with
  |non=>cases ry;exact PySem.EqNone.ne_bool_none (ck I q (by simp))
  |bl j=>cases ry;exact ne_bool (ck I q (congrArg not GF))
  |str j=>obtain⟨t',rfl⟩:=ry;exact PySem.EqMixed.ne_bool_str (ck I q (by simp))
  |_=>exact absurd (show false=true from hs) bY
 |int i =>
  obtain⟨t,rfl⟩:=rx;cases y with
  |non=>cases ry;exact PySem.EqNone.ne_int_none (ck I q (by simp))
  |int j=>obtain⟨t',rfl⟩:=ry;exact ne_int (ck I q (congrArg not GK))
  |str j=>obtain⟨t',rfl⟩:=ry;exact PySem.EqMixed.ne_int_str (ck I q (by simp))
  |_=>exact absurd (show false=true from hs) bY
 |str i =>
  obtain⟨t,rfl⟩:=rx;cases y with
  |non=>cases ry;exact PySem.EqNone.ne_str_none (ck I q (by simp))
  |bl j=>cases ry;exact PySem.EqMixed.ne_str_bool (ck I q (by simp))
  |int j=>obtain⟨t',rfl⟩:=ry;exact PySem.EqMixed.ne_str_int (ck I q (by simp))
  |str j=>obtain⟨t',rfl⟩:=ry;exact ne_str (ck I q (congrArg not GL))
  |_=>exact absurd (show false=true from hs) bY
 |g_ i =>
  obtain⟨t,rfl⟩:=rx;cases y with
  |g_ j=>obtain⟨t',rfl⟩:=ry;exact W.ne_bytes (ck I q (congrArg not GJ))
  |_=>exact absurd (show false=true from hs) bY
 |_=>cases y<;>exact absurd (show false=true from hs) bY
theorem la:bP X (compareOp .Lt) (iS λi j=>.bl (decide (i<j))):=uQ λ_ _ _ _ _ _ _ q=>lt_int q
theorem uT:bP X (compareOp .LtE) (iS λi j=>.bl (decide (i<=j))):=uQ λ_ _ _ _ _ _ _ q=>le_int q
theorem mM:bP X (compareOp .Gt) (iS λi j=>.bl (decide (j<i))):=uQ λ_ _ _ _ _ _ _ q=>gt_int q
theorem J3:bP X (compareOp .GtE) (iS λi j=>.bl (decide (j<=i))):=uQ λ_ _ _ _ _ _ _ q=>ge_int q
theorem Wv:bP X (compareOp .In) (λx y H Q=>∃i j,x = .str i/\y = .str j/\Q (.bl (!(Builtin.Str.occurrences j i 0 j.length 1).isEmpty)) H):=by
 intro pins s σ H x y v u Q I rx ry h;obtain⟨i,j,rfl,rfl,q⟩:=h;obtain⟨t,rfl⟩:=rx;obtain⟨t',rfl⟩:=ry;exact in_str (ck I q rfl)
theorem oR:bP X (compareOp .Is) (λx y H Q=>y = .non/\Q (.bl (decide (x = .non))) H):=by
 intro pins s σ H x y v u Q I rx ry h;obtain⟨rfl,q⟩:=h;cases ry;refine is_none_gen (ck I q ?_);cases x<;>first
  | (cases rx;rfl)
  | (obtain⟨t,rfl⟩:=rx;rfl)
theorem aP(b:Expr){op:CmpOp}(h:op≠.In:=by decide)(h2:op≠.NotIn:=by decide):behindInMarks op b=false:=by
 have e1:(op==CmpOp.In)=false:=by cases op<;>first|rfl|exact absurd rfl h
 have e2:(op==CmpOp.NotIn)=false:=by cases op<;>first|rfl|exact absurd rfl h2
 cases b<;>simp[behindInMarks,e1,e2]
theorem hZ{op:CmpOp}{r:R2}(ho:bP X (compareOp op) r)(ha:PE X a ta)(hb:PE X b tb)(hm:behindInMarks op b=false):PE X (.Compare a [op] [b] pos) (ig r ta tb):=by
 intro pins s σ H Q I h;exact wpAny_Compare1 (xx ha hb I h λv u s2 x y H2 I2 rx ry q=>ho pins s2 σ H2 x y v u Q I2 rx ry q) hm
noncomputable def Dv(t:TE):TT:=λσ H Q=>t σ H λx H'=>∃k,x = .bl k/\Q k H'
theorem aU{op:CmpOp}{r:R2}(ho:bP X (compareOp op) r)(ha:PE X a ta)(hb:PE X b tb)(hm:behindInMarks op b=false):PT X (.Compare a [op] [b] pos) (Dv (ig r ta tb)):=by
 intro pins s σ H Q I h;refine wpAny_isTrue_Compare1 (aG (ha pins s σ H _ I h) λv s1 ⟨x,H1,I1,r1,q1⟩=>aG (hb pins s1 σ H1 _ I1 q1) λu s2 ⟨y,H2,I2,r2,q2⟩ =>
  aG (ho pins s2 σ H2 x y v u _ I2 r1 r2 q2) λc s3 ⟨z,H3,I3,r3,k,e,q3⟩=>?_) hm
 subst e;cases r3;exact kx ⟨H3,I3,q3⟩
noncomputable def Nv(r r':R2)(ta tb tc:TE):TE:=λσ H Q=>ta σ H λx H1=>tb σ H1 λy H2=>r x y H2 λz H3=>∃k,z = .bl k /\
 (if k=true then tc σ H3 λw' H4=>r' y w' H4 Q else Q (.bl false) H3)
theorem W2{op op':CmpOp}{r r':R2}(ho:bP X (compareOp op) r)(ho':bP X (compareOp op') r')(ha:PE X a ta)(hb:PE X b tb)(hc:PE X c tc)(hm:lastMarks [op,op'] [b,c]=false:=by with_unfolding_all rfl):PE X (.Compare a [op,op'] [b,c] pos) (Nv r r' ta tb tc):=by
 intro pins s σ H Q I h;refine Compare_chain (aG (ha pins s σ H _ I h) λv s1 ⟨x,H1,I1,r1,q1⟩=>chain_link (aG (hb pins s1 σ H1 _ I1 q1) λu s2 ⟨y,H2,I2,r2,q2⟩ =>
  aG (ho pins s2 σ H2 x y v u _ I2 r1 r2 q2) λd s3 ⟨z,H3,I3,r3,k,e,q3⟩=>?_)) hm
 subst e;cases r3;refine kx ?_;cases k with
 |false=>exact ite_ff ⟨.bl false,H3,I3,rfl,q3⟩
 |true=>exact ite_tt (chain_last (aG (hc pins s3 σ H3 _ I3 q3) λw' s4 ⟨z',H4,I4,r4,q4⟩=>ho' pins s4 σ H4 y z' u w' Q I4 r2 r4 q4))
theorem Xl{op op':CmpOp}{r r':R2}(ho:bP X (compareOp op) r)(ho':bP X (compareOp op') r')(ha:PE X a ta)(hb:PE X b tb)(hc:PE X c tc)(hm:lastMarks [op,op'] [b,c]=false:=by with_unfolding_all rfl):PT X (.Compare a [op,op'] [b,c] pos) (Dv (Nv r r' ta tb tc)):=by
 intro pins s σ H Q I h;refine isTrue_chain (aG (ha pins s σ H _ I h) λv s1 ⟨x,H1,I1,r1,q1⟩=>test_link (aG (hb pins s1 σ H1 _ I1 q1) λu s2 ⟨y,H2,I2,r2,q2⟩ =>
  aG (ho pins s2 σ H2 x y v u _ I2 r1 r2 q2) λd s3 ⟨z,H3,I3,r3,k,e,q3⟩=>?_)) hm
 subst e;cases r3;refine kx ?_;cases k with
 |false =>
  obtain⟨k',e',q'⟩:=q3;cases e';exact ite_ff ⟨H3,I3,q'⟩
 |true =>
  refine ite_tt (test_last (aG (hc pins s3 σ H3 _ I3 q3) λw' s4 ⟨z',H4,I4,r4,q4⟩=>aG (ho' pins s4 σ H4 y z' u w' _ I4 r2 r4 q4) λd' s5 ⟨z2,H5,I5,r5,k2,e2,q5⟩=>?_));subst e2;cases r5;exact kx ⟨H5,I5,q5⟩
theorem oH:(sizeLine:Nat)<2 ^ 63:=by rw[lS];decide
theorem uS:bP X (binaryOp .Add) (λx y H Q=>∃i j,x = .str i/\y = .str j/\i.length+j.length<=sizeLine/\Q (.str (i++j)) H):=by
 intro pins s σ H x y v u Q I rx ry h;obtain⟨i,j,rfl,rfl,hz,q⟩:=h;obtain⟨t,rfl⟩:=rx;obtain⟨t',rfl⟩:=ry;exact add_str (λt' tk=>⟨.str (i++j),H,I.tok _,⟨_,rfl⟩,q⟩) hz
theorem vals1{x:V}{us:List Value}(r:Vals [x] us):∃u,us = [u]/\RelV x u:=by
 cases r with
 |cons r1 r2=>cases r2;exact⟨_,rfl,r1⟩
theorem ou:dP X (.type "str") (λxs H Q=>∃i,xs = [.int i]/\i.natAbs.log2<1920/\Q (.str (toString i)) H):=by
 intro pins s σ H xs us Q I r h;obtain⟨i,rfl,hz,q⟩:=h;obtain⟨u,rfl,t,rfl⟩:=vals1 r;exact PySem.P.str_of_int hz ⟨.str _,H,I.tok _,⟨_,rfl⟩,q⟩
end
structure nH (h:Heap) (x dx C:Addr) (mA:Str->Option Value):Prop where
 obj:h.get? x=some (W.instObj C dx)
 ns:h.Ns1 dx mA
 ne:dx≠x
theorem Jz{h:Heap}{dx:Addr}{mA:Str->Option Value}(n:h.Ns1 dx mA):∃od,h.get? dx=some od/\∀name,W.lookIn name od=some (mA name):=by
 obtain⟨o,es,ep,ho,hd,hk,_,hm⟩:=n;refine⟨o,ho,λname=>?_⟩;have e:=hm name;unfold nsFind findBy at e;rw[<- Array.find?_toList]at e;unfold W.lookIn;rw[hd];dsimp only
 split
 ·rename_i y q
  rw[q]at e;exact congrArg some e
 ·rename_i q
  rw[q]at e;have a:es.toList.any (·.refKey)=false:=by
   rw[List.any_eq_false];intro y hy;obtain⟨z,t,hkey⟩:=hk y (Array.mem_toList_iff.mp hy);simp[DictEntry.refKey,hkey]
  have a':¬ es.toList.any (·.refKey)=true:=by rw[a];exact bY
  rw[au a'];exact congrArg some e
theorem nH.look{h:Heap}{x dx C:Addr}{mA:Str->Option Value}(I:nH h x dx C mA):∃od,W.InstAt h x (W.instObj C dx) C (some od)/\∀name,W.lookIn name od=some (mA name):=
 let⟨od,ho,hl⟩:=Jz I.ns
 ⟨od,⟨I.obj,rfl,rfl,ho⟩,hl⟩
section
variable {prog:Program} {w:World} {A:Around} {E:Value->Shared->Prop} {s:Shared} {K:W.Frag} {x dx C f:Addr} {mA:Str->Option Value} {name:Str} {v:Value}
theorem get_map{expr:Bool}{Q:Value->Shared->Prop}(X:K.In s.heap)(I:nH s.heap x dx C mA)(hg:W.plainGet K C name=true)(hh:W.hasDictIn K C=true)
  (ha:W.findIn K (.ref C) name=some none) (hv:mA name=some v) (hv':W.handedIn v=true) (h:Q v {s with toks:=s.toks+1}) :
  wpAny (model prog w) A (getAttr (.ref x) name expr) Q E s:=by
 obtain⟨od,J,hl⟩:=I.look;exact W.get_value X J (W.plainGet_of hg).1 (W.findObj_own hh ha rfl (by rw[hl,hv])) hv' h
theorem Yf{ns:List Str}{Q:Unit->Shared->Prop}(X:K.In s.heap)(I:nH s.heap x dx C mA)
  (hs:W.findIn K (.ref C) "__setattr__" = some (some (.builtin "object.__setattr__"))) (hp:W.plainOver K C=true) (ht:W.takerIn K C name=some none) (hh:W.hasDictIn K C=true)
  (hw:PySem.Within mA ns) (hsz:ns.length<=sizeLine)
  (h:∀h',nH h' x dx C (λy=>if y=name then some v else mA y)->Heap.SameBut dx s.heap h'->Q () {s with heap:=h',toks:=s.toks+2}) :
  wpAny (model prog w) A (setAttr (.ref x) name v) Q E s:=by
 obtain⟨od,J,hl⟩:=I.look;refine W.set_plain X J hs (W.osa_open (s:={s with toks:=s.toks+1}) (r:=none) X J hp ht λb=>?_);obtain⟨cd,hc,hd'⟩:=W.any_some hh;have hx:s.heap.get? x=some ⟨.ref C,some dx,.plain,#[]⟩:=I.obj;refine ah (aC (ah (ah (wpAny_loadPart hx (ah (W.Looks.here (s:={s with toks:=s.toks+1}) (W.looks_clsIn X hc) ?_))))));rw[hd'];refine aC (a:=some dx) (ah (aC (ah ?_)));refine wpAny_nsSet1 (s:={s with toks:=s.toks+1}) I.ns λh' hn2 hs2=>?_;obtain⟨oD,esD,epD,hoD,hdD,hcD⟩:=hn2.count (PySem.Within.cons name v hw);refine ah (wpAny_lookBehind hoD (by rw[hdD];exact pastItsLine_dict (bN hcD (by rw[dr];omega))) ?_);exact aC (h _ ⟨(hs2.2 _ (cE I.ne)).trans I.obj,hn2,I.ne⟩ hs2)
theorem Uj{R:Result->Shared->Prop}{vs:List Value}{kw:List (Str × Value)}(X:K.In s.heap)(hm:W.makesIn K C=true)
  (hi:W.findIn K (.ref C) "__init__" = some (some (.ref f))) (hf:W.typeIn K (.ref f)=some (.type "function"))
  (h:codeAny (model prog w) (A.under (.builtin "type.__call__" ⟨.ref C::vs,kw⟩)) (.call (.ref f) ⟨.ref (s.heap.objs.size+1)::vs,kw⟩) (W.InitBack (s.heap.objs.size+1) R)
   {s with heap:=(s.heap.push W.emptyDict).push (W.instObj C s.heap.objs.size)}) :
  codeAny (model prog w) A (.call (.ref C) ⟨vs,kw⟩) R s:=by
 obtain⟨hh,g,d,t,os⟩:=s;exact W.make_core (W.makes_of X hm) (W.looks_findIn X hi) (λself=>W.bind_fn X self hf) (.inl rfl) h
end
noncomputable def bV(f:Str)(v:V):List (Str × V)->List (Str × V)
 | []=>[(f,v)]
 | (g,x)::r=>if g=f then(g,v)::r else(g,x)::bV f v r
theorem iO(f g:Str)(v:V):∀fs:List (Str × V),(bV f v fs).lookup g=if g=f then some v else fs.lookup g
 | []=>by
  show List.lookup g [(f,v)]=_
  by_cases h:g=f
  ·have hb:(g==f)=true:=gZ.mpr h
   simp only[List.lookup,hb,az h]
  ·have hb:(g==f)=false:=lW.mpr h
   simp only[List.lookup,hb,au h]
 | (k,x)::r=>by
  have ih:=iO f g v r;rw[show bV f v ((k,x)::r)=(if k=f then(k,v)::r else(k,x)::bV f v r)from rfl]
  by_cases hk:k=f
  ·rw[az hk]
   by_cases h:g=k
   ·have hb:(g==k)=true:=gZ.mpr h
    simp only[List.lookup,hb,az (h.trans hk)]
   ·have hb:(g==k)=false:=lW.mpr h
    simp only[List.lookup,hb,au (λe:g=f=>h (e.trans hk.symm))]
  ·rw[au hk]
   by_cases h:g=k
   ·have hb:(g==k)=true:=gZ.mpr h
    simp only[List.lookup,hb,au (λe:g=f=>hk (h.symm.trans e))]
   ·have hb:(g==k)=false:=lW.mpr h
    simp only[List.lookup,hb];exact ih
theorem Aa(f:Str)(v:V):∀fs:List (Str × V),f∈(bV f v fs).map (·.1)/\∀g,g∈fs.map (·.1)->g∈(bV f v fs).map (·.1)
 | []=>⟨by simp[bV],λg h=>by simp at h⟩
 | (k,x)::r=>by
  obtain⟨i1,i2⟩:=Aa f v r;rw[show bV f v ((k,x)::r)=(if k=f then(k,v)::r else(k,x)::bV f v r)from rfl]
  by_cases hk:k=f
  ·rw[az hk]
   subst hk;exact⟨by simp,λg h=>by simpa using h⟩
  ·rw[au hk]
   refine⟨?_,λg h=>?_⟩
   ·rw[cI]
    exact bT _ i1
   ·rw[cI]at h ⊢
    rcases bu.mp h with e|e
    ·exact bu.mpr (.inl e)
    ·exact bT _ (i2 g e)
theorem oG(f:Str)(v:V):∀fs:List (Str × V),(bV f v fs).length<=fs.length+1
 | []=>by simp[bV]
 | (k,x)::r=>by
  have ih:=oG f v r;rw[show bV f v ((k,x)::r)=(if k=f then(k,v)::r else(k,x)::bV f v r)from rfl]
  by_cases hk:k=f
  ·rw[az hk,dr,dr];omega
  ·rw[au hk,dr,dr];omega
theorem fD.some_of{v:V}{o:Option Value}(r:fD (some v) o):∃u,o=some u/\RelV v u:=by
 cases o with
 |none=>exact(show False from r).elim
 |some u=>exact⟨u,rfl,r⟩
theorem Hz{v:V}{u:Value}(r:RelV v u):W.handedIn u=true:=by
 cases v with
 |non=>cases(show u=Value.none from r);rfl
 |bl b=>cases(show u=Value.bool b from r);rfl
 |int i=>obtain⟨t,e⟩:=(show ∃t,u=Value.int i t from r);cases e;rfl
 |str x=>obtain⟨t,e⟩:=(show ∃t,u=Value.str x t from r);cases e;rfl
 |g_ b=>obtain⟨t,e⟩:=(show ∃t,u=Value.bytes b t from r);cases e;rfl
 |flt b=>obtain⟨t,e⟩:=(show ∃t,u=Value.float b t from r);cases e;rfl
 |ref a=>cases(show u=Value.ref a from r);rfl
 |ty n=>cases(show u=Value.type n from r);rfl
section
variable {P:Program} {w:World} {H H':Hp} {h h':Heap} {a C dx:Addr} {fs fs':List (Str × V)}
theorem zT(hok:bI P w H h)(e:H a=some (.ins C dx fs)):∃mA,nH h a dx C mA/\(∀f,fD (fs.lookup f) (mA f))/\PySem.Within mA (fs.map (·.1))/\fs.length<=1000/\H dx=some (.own a):=by
 obtain⟨d,z,ne,ob,mA,n,r,q⟩:=(show bG P w H h a (.ins C dx fs)from hok a _ e);exact⟨mA,⟨ob,n,ne⟩,r,q,z,d⟩
end
structure Cls (K:W.Frag) (C:Addr):Prop where
 pg:W.plainGet K C Str.empty=true
 hd:W.hasDictIn K C=true
 po:W.plainOver K C=true
 sa:W.findIn K (.ref C) "__setattr__" = some (some (.builtin "object.__setattr__"))
theorem Cls.get{K:W.Frag}{C:Addr}(c:Cls K C)(f:Str):W.plainGet K C f=true:=c.pg
noncomputable def iz(K:W.Frag)(C:Addr)(f:Str):Prop:=W.findIn K (.ref C) f=some none
theorem iz.taker{K:W.Frag}{C:Addr}{f:Str}(n:iz K C f):W.takerIn K C f=some none:=by
 unfold W.takerIn;rw[show W.findIn K (.ref C) f=some none from n];rfl
section
variable {X:Cx} {pins:List (Addr × Obj)} {σ:St} {H:Hp} {s:Shared} {a C dx:Addr} {fs:List (Str × V)} {f:Str} {v:V} {A:Around} {E:Value->Shared->Prop}
theorem Rh{b:Bool}{Q:Value->Shared->Prop}(I:Inv X pins σ H s)(e:H a=some (.ins C dx fs))(c:Cls X.K C)(n:iz X.K C f)(l:fs.lookup f=some v)(h:∀u s',Inv X pins σ H s'->RelV v u->Q u s'):wpAny (model X.prog X.w) A (getAttr (.ref a) f b) Q E s:=by
 obtain⟨mA,O,r,_,_,_⟩:=zT I.hok e;obtain⟨u,hu,ru⟩:=fD.some_of (v:=v) (o:=mA f) (by rw[<- l];exact r f);exact get_map I.cn O (c.get f) c.hd n hu (Hz ru) (h u _ (I.tok _) ru)
theorem Yj{y:V}{u:Value}{Q:Unit->Shared->Prop}(I:Inv X pins σ H s)(e:H a=some (.ins C dx fs))(c:Cls X.K C)(n:iz X.K C f)(hl:fs.length<1000)(ry:RelV y u)(h:∀s',Inv X pins σ (upd H a (.ins C dx (bV f y fs))) s'->Q () s'):wpAny (model X.prog X.w) A (setAttr (.ref a) f u) Q E s:=by
 obtain⟨mA,O,r,wi,_,ho⟩:=zT I.hok e;have hz:(fs.map (·.1)).length<=sizeLine:=by rw[aB,lS];omega
 refine Yf I.cn O c.sa c.po n.taker c.hd wi hz λh' O' sb=>h _ ?_;have hd:∃o,h'.get? dx=some o:=let⟨o,_,_,e',_⟩:=O'.ns;⟨o,e'⟩
 refine I.write (x:=a) (e:=dx) (by rw[e];exact True.intro) (.inr ho) (λb q hb z=>(sb.2 b hb).trans z) hd ?_;refine⟨by rw[aA O.ne];exact ho,?_,O.ne,O'.obj,_,O'.ns,λg=>?_,λg hg=>?_⟩
 ·have:=oG f y fs;omega
 ·show fD ((bV f y fs).lookup g) (if g=f then some u else mA g)
  rw[iO]
  by_cases q:g=f
  ·rw[az q,az q];exact ry
  ·rw[au q,au q];exact r g
 ·by_cases q:g=f
  ·rw[q];exact(Aa f y fs).1
  ·refine(Aa f y fs).2 g (wi g λz=>hg ?_)
   show(if g=f then some u else mA g)=none;rw[au q];exact z
theorem Inv.made(I:Inv X pins σ H s):Inv X pins σ (upd (upd H s.heap.objs.size (.own (s.heap.objs.size+1))) (s.heap.objs.size+1) (.ins C s.heap.objs.size []))
  {s with heap:=(s.heap.push W.emptyDict).push (W.instObj C s.heap.objs.size)}:=by
 have e1:(s.heap.push W.emptyDict).get? s.heap.objs.size=some W.emptyDict:=bR s.heap rfl;have e2:((s.heap.push W.emptyDict).push (W.instObj C s.heap.objs.size)).get? (s.heap.objs.size+1)=some (W.instObj C s.heap.objs.size):=by
  have:=bR (s.heap.push W.emptyDict) (o:=W.instObj C s.heap.objs.size) rfl
  rwa [eM]at this
 have e3:(s.heap.push W.emptyDict).Ns s.heap.objs.size (λ_=>none):=⟨W.emptyDict,#[],_,e1,rfl,(λe he=>absurd he (by simp)),λ_=>rfl⟩;have I1:=I.laid (a:=s.heap.objs.size) (o:=.own (s.heap.objs.size+1)) (h':=s.heap.push W.emptyDict) (t':=s.toks) (λb u q=>aM _ q) (aO _) ⟨_,e1⟩;refine I1.laid (a:=s.heap.objs.size+1) (o:=.ins C s.heap.objs.size []) (t':=s.toks) (λb u q=>aM _ q) (wI (eM _ _)) ?_;have ne:s.heap.objs.size≠s.heap.objs.size+1:=bO (pV _);refine⟨by rw[aA ne,ak],eK _,ne,e2,λ_=>none,(Heap.Ns1.of_empty e3).at λo q=>aM _ q,λ_=>True.intro,λy hy=>absurd rfl hy⟩
theorem FP{prog:Program}{w:World}{env:Env}{e:Expr}{f:Str}{pos:Pos}{s:Shared}{Q:Value->Shared->Prop}(hb:attributeBase e f env (eval e env)=eval e env)(h:wpAny (model prog w) A (eval e env) (λo s₁=>wpAny (model prog w) A (getAttr o f true) Q E s₁) E s):wpAny (model prog w) A (eval (.Attribute e f pos) env) Q E s:=
 Attribute_any_ h (by rw[arm_eval_Attribute,hb])
end
noncomputable def Nx(K:W.Frag)(ta:TE)(f:Str):TE:=λσ H Q=>ta σ H λx H1=>∃a C dx fs v,x = .ref a/\H1 a=some (.ins C dx fs)/\Cls K C/\iz K C f/\fs.lookup f=some v/\Q v H1
noncomputable def Ld(K:W.Frag)(ta tv:TE)(f:Str):TS:=λD σ H=>tv σ H λy H1=>ta σ H1 λx H2=>∃a C dx fs,x = .ref a/\H2 a=some (.ins C dx fs)/\Cls K C/\iz K C f/\fs.length<1000 /\
 D.nx σ (upd H2 a (.ins C dx (bV f y fs)))
section
variable {X:Cx} {o e value:Expr} {f:Str} {pos pos' tpos:Pos} {ta tv:TE}
theorem W6(he:PE X e ta)(hb:attributeBase e f X.env (eval e X.env)=eval e X.env):PE X (.Attribute e f pos) (Nx X.K ta f):=by
 intro pins s σ H Q I h;refine FP hb (aG (he pins s σ H _ I h) λu s1 ⟨x,H1,I1,rx,a,C,dx,fs,v,ex,ea,c,n,l,q⟩=>?_);subst ex;obtain rfl:u=Value.ref a:=rx;exact Rh I1 ea c n l λu' s2 I2 ru=>⟨v,H1,I2,ru,q⟩
theorem Xh(ha:PE X o ta)(hv:PE X value tv)(hs:swapsWith value (some (.Attribute o f pos')) pos.line X.env=pure false):PS X (.Assign [.Attribute o f pos'] value pos) (Ld X.K ta tv f):=by
 intro pins s σ H D I h;refine Pb (aG (hv pins s σ H _ I h) λu s1 ⟨y,H1,I1,ry,q⟩=>aG (ha pins s1 σ H1 _ I1 q) λov s2 ⟨x,H2,I2,rx,a,C,dx,fs,ex,ea,c,n,l,q2⟩=>?_) hs;subst ex;obtain rfl:ov=Value.ref a:=rx;exact Yj I2 ea c n l ry λs3 I3=>⟨σ,_,I3,q2⟩
end
section
variable {X:Cx} {pins:List (Addr × Obj)} {σ:St} {H:Hp} {s:Shared} {A:Around} {E:Value->Shared->Prop} {Q:Value->Shared->Prop} {c:Value} {b:Bool}
inductive fX (K:W.Frag) (H:Hp):V->Value->Prop where
 |non:fX K H .non (.type "NoneType")
 |bl (x:Bool):fX K H (.bl x) (.type "bool")
 |int (i:Int):fX K H (.int i) (.type "int")
 |str (x:Str):fX K H (.str x) (.type "str")
 |flt (x:UInt64):fX K H (.flt x) (.type "float")
 |lst {a:Addr} {xs:List V} (e:H a=some (.lst xs)):fX K H (.ref a) (.type "list")
 |d4 {a:Addr} {o:Obj} {xs:List V} (e:H a=some (.d4 o (.lst xs))):fX K H (.ref a) (.type "list")
 |tup {a:Addr} {xs:List V} (e:H a=some (.tup xs)):fX K H (.ref a) (.type "tuple")
 |dK {a:Addr} {kvs:List (Key × V)} (e:H a=some (.dK kvs)):fX K H (.ref a) (.type "dict")
 |dT {a:Addr} {kvs:List (List Key × V)} (e:H a=some (.dT kvs)):fX K H (.ref a) (.type "dict")
 |ins {a C dx:Addr} {fs:List (Str × V)} (e:H a=some (.ins C dx fs)) (cl:Cls K C) (ha:W.findIn K (.ref C) "__class__" = some (some (.builtin "object.__class__")))
   (hn:W.specialIn K (.builtin "object.__class__") "__get__" = some (some (.builtin "getset_descriptor.__get__"))) (htk:W.takesIn K (.builtin "object.__class__")=some true)
   (hm:W.mroIn K C (.type "object")=some true):fX K H (.ref a) (.ref C)
theorem Tx{x:V}{u t:Value}(I:Inv X pins σ H s)(rx:RelV x u)(ty:fX X.K H x t)(e:W.kitOne X.K t c=some b)(h:∀tk,Q (.bool b) {s with toks:=tk}):
  wpAny (model X.prog X.w) A (call (.builtin "isinstance") [u,c]) Q E s:=by
 cases ty with
 |non=>cases(show u=Value.none from rx);exact W.kia_one W.kitx_none I.cn True.intro e (λz=>nomatch z) h
 |bl y=>cases(show u=Value.bool y from rx);exact W.kia_one W.kitx_bool I.cn True.intro e (λz=>nomatch z) h
 |int i=>obtain⟨t,q⟩:=(show ∃t,u=Value.int i t from rx);cases q;exact W.kia_one W.kitx_int I.cn True.intro e (λz=>nomatch z) h
 |str y=>obtain⟨t,q⟩:=(show ∃t,u=Value.str y t from rx);cases q;exact W.kia_one W.kitx_str I.cn True.intro e (λz=>nomatch z) h
 |flt y=>obtain⟨t,q⟩:=(show ∃t,u=Value.float y t from rx);cases q;exact W.kia_one W.kitx_float I.cn True.intro e (λz=>nomatch z) h
 | @lst a xs ea =>
  cases(show u=Value.ref a from rx);obtain⟨_,_,n,_,h1⟩:=(show bG X.prog X.w H s.heap a (.lst xs)from I.hok a _ ea);exact W.kia_one W.kitx_list I.cn ⟨_,h1,rfl⟩ e (λz=>nomatch z) h
 | @d4 a ob xs ea =>
  cases(show u=Value.ref a from rx);obtain⟨_,_,_,n,_,h1⟩:=(show bG X.prog X.w H s.heap a (.d4 ob (.lst xs))from I.hok a _ ea);exact W.kia_one W.kitx_list I.cn ⟨_,h1,rfl⟩ e (λz=>nomatch z) h
 | @tup a xs ea =>
  cases(show u=Value.ref a from rx);obtain⟨_,_,_,p,_⟩:=(show bG X.prog X.w H s.heap a (.tup xs)from I.hok a _ ea);obtain⟨o,h1,h2,_⟩:=p;exact W.kia_one W.kitx_tuple I.cn ⟨o,h1,h2⟩ e (λz=>nomatch z) h
 | @dK a kvs ea =>
  cases(show u=Value.ref a from rx);obtain⟨_,_,vs,_,p⟩:=(show bG X.prog X.w H s.heap a (.dK kvs)from I.hok a _ ea);obtain⟨o,es,ep,h1,h2,_⟩:=p;exact W.kia_one W.kitx_dict I.cn ⟨o,h1,h2.1⟩ e (λz=>nomatch z) h
 | @dT a kvs ea =>
  cases(show u=Value.ref a from rx);obtain⟨_,_,xs,_,o,es,ep,h1,h2,_⟩:=(show bG X.prog X.w H s.heap a (.dT kvs)from I.hok a _ ea);exact W.kia_one W.kitx_dict I.cn ⟨o,h1,h2.1⟩ e (λz=>nomatch z) h
 | @ins a C dx fs ea cl ha hn htk hm =>
  cases(show u=Value.ref a from rx);obtain⟨mA,O,_⟩:=zT I.hok ea;obtain⟨od,J,_⟩:=O.look;exact W.kia_one (W.kitx_own (cl.get _) cl.hd ha hn htk hm) I.cn J e (λz=>nomatch z) h
end
structure bS (k:Nat) (A:Around):Prop where
 hd:A.handled=none
 dp:A.depth+3*k+5<recursionLimit
 un:A.units+16*k+200<cLine
 gd:A.guards=some []
theorem bS.mono{j k:Nat}{A:Around}(r:bS k A)(h:j<=k):bS j A:=⟨r.hd,by have:=r.dp;omega,by have:=r.un;omega,r.gd⟩
theorem bS.deeper{k:Nat}{A:Around}(r:bS (k+1) A)(env:Env):bS k (A.deeper env):=
 ⟨r.hd,by have:=r.dp;show A.depth+1+3*k+5<_;omega,by have:=r.un;show A.units+3+16*k+200<_;omega,r.gd⟩
theorem Uh {A:Around} {C:Addr} {us:List Value} {kw:List (Str × Value)}:(A.under (.builtin "type.__call__" ⟨.ref C::us,kw⟩)).depth=A.depth+1:=by
 first|rfl|simp[Around.under,Code.weight,Code.isCreation,Code.isGuard,Code.isCaller,Code.frames,Code.isFrame,guardIds]
theorem Uk {A:Around} {C:Addr} {us:List Value} {kw:List (Str × Value)}:(A.under (.builtin "type.__call__" ⟨.ref C::us,kw⟩)).units=A.units+1:=by
 first|rfl|simp[Around.under,Code.cUnits,Code.frames,Code.isFrame]
theorem Ui {A:Around} {C:Addr} {us:List Value} {kw:List (Str × Value)}:(A.under (.builtin "type.__call__" ⟨.ref C::us,kw⟩)).guards=A.guards:=by
 first|rfl | (cases h:A.guards<;>simp[Around.under,Code.guards,pushGuards,Code.isGuard,guardIds,h])
theorem bS.make {k:Nat} {A:Around} (r:bS (k+1) A) (C:Addr) (us:List Value) (kw:List (Str × Value)):bS k (A.under (.builtin "type.__call__" ⟨.ref C::us,kw⟩)):=
 ⟨r.hd,by have:=r.dp;rw[Uh];omega,by have:=r.un;rw[Uk];omega,by rw[Ui];exact r.gd⟩
theorem bS.depth{k:Nat}{A:Around}(r:bS k A):A.depth<recursionLimit:=by have:=r.dp;omega
theorem bS.units{k:Nat}{A:Around}(r:bS k A):A.units+64<cLine:=by have:=r.un;omega
theorem bS.N3{k:Nat}{A:Around}(r:bS k A):A.units<cLine:=by have:=r.un;omega
noncomputable def fw:TA:=λ_ H Q=>Q [] H
noncomputable def dA(ta:TE)(tr:TA):TA:=λσ H Q=>ta σ H λx H1=>tr σ H1 λxs H2=>Q (x::xs) H2
section
variable {X:Cx} {e:Expr} {es:List Expr} {te:TE} {t:TA} {pos:Pos}
theorem ag:PA X [] fw:=λ_ _ _ _ H Q I h=>Calls.spliced_nil ⟨[],H,I,.nil,h⟩
theorem ae(ha:PE X e te)(hr:PA X es t)(hs:starEach (e::es) X.env=(false,eval e X.env)::starEach es X.env:=by rfl):PA X (e::es) (dA te t):=by
 intro pos pins s σ H Q I h;rw[hs];show wpAny _ _ (spliced ((false,eval e X.env)::backTo pos (starEach es X.env))) _ _ s;refine Calls.spliced_cons (aG (ha pins s σ H _ I h) λu s1 ⟨x,H1,I1,r1,q1⟩=>?_);exact aG (hr pos pins s1 σ H1 _ I1 q1) λus s2 ⟨xs,H2,I2,r2,q2⟩=>⟨x::xs,H2,I2,.cons r1 r2,q2⟩
noncomputable def vT(t:TA):TE:=λσ H Q=>t σ H λxs H1=>xs.length<=sizeLine/\∀p,H1 p=none->Q (.ref p) (upd H1 p (.tup xs))
noncomputable def Dt(t:TA):TE:=λσ H Q=>t σ H λxs H1=>xs.length<=sizeLine/\∀p,H1 p=none->Q (.ref p) (upd H1 p (.lst xs))
theorem cZ{x1}(h:PA X es t):PE X (.Tuple es x1 pos) (vT t):=by
 intro pins s σ H Q I hq;refine wpAny_Tuple_spliced (aG (h pos pins s σ H _ I hq) λus s1 ⟨xs,H1,I1,r,z,q⟩=>⟨by rw[<- r.length];exact z,?_⟩);have hf:H1 s1.heap.objs.size=none:=I1.hok.fresh (aO _);refine⟨.ref s1.heap.objs.size,upd H1 s1.heap.objs.size (.tup xs),I1.laid (t':=s1.toks) (λb u e=>aM _ e) (aO _) ?_,rfl,q _ hf⟩;exact⟨z,us,r,⟨_,bR _ rfl,rfl,_,rfl⟩,_,bR _ rfl,rfl⟩
theorem b9(h:PA X es t):PE X (.List es pos) (Dt t):=by
 intro pins s σ H Q I hq;refine wpAny_List_spliced (aG (h pos pins s σ H _ I hq) λus s1 ⟨xs,H1,I1,r,z,q⟩=>⟨by rw[<- r.length];exact z,?_⟩);have hf:H1 s1.heap.objs.size=none:=I1.hok.fresh (aO _);refine⟨.ref s1.heap.objs.size,upd H1 s1.heap.objs.size (.lst xs),I1.laid (t':=s1.toks) (λb u e=>aM _ e) (aO _) ?_,rfl,q _ hf⟩;exact⟨z,us,0,r,bR _ rfl⟩
end
abbrev Sp:=List V->Hp->VK->XK->Prop
abbrev fQ:=List Env->Hp->Shared->XK->Value->Shared->Prop
structure lJ (P:Program) (w:World) (K:W.Frag) (mg:Str->Option Value) (base:Heap) (A:Around) (outer:List Env) (s:Shared) (H:Hp):Prop where
 frames:A.frames=some outer
 mod:Mod K mg base
 bs:∀b o,base.get? b=some o->s.heap.get? b=some o/\H b=none
 f6:base.objs.size<=s.heap.objs.size
 dw:s.heap.FunFrames base outer
 iJ:∀b∈frs outer,H b=none
 hok:bI P w H s.heap
 bare:AllBare s.gens
noncomputable def CE(outer:List Env)(P:Program)(w:World)(H:Hp)(s:Shared)(Q:VK)(u:Value)(s':Shared):Prop:=
 ∃v H',s'.os=s.os/\AllBare s'.gens/\Un (frs outer) [] H H' s.heap s'.heap/\bI P w H' s'.heap/\RelV v u/\Q v H'
noncomputable def CR(CX:fQ)(outer:List Env)(P:Program)(w:World)(H:Hp)(s:Shared)(Q:VK)(E:XK)(r:Result)(s':Shared):Prop:=
 match r with
 |.ok (.ret u)=>CE outer P w H s Q u s'
 |.ok _=>False
 |.error e=>CX outer H s E e s'
structure aN (P:Program) (w:World) (K:W.Frag) (mg:Str->Option Value) (base:Heap) (CX:fQ) (k:Nat) (f:Addr) (fd:FuncData) (ps:List Str) (sp:Sp):Prop where
 len:∀vs H Q E,sp vs H Q E->vs.length=ps.length
 run:∀(A:Around) (outer:List Env) (s:Shared) (H:Hp) (args:Args) (us:List Value) (vs:List V) (Q:VK) (E:XK),bS k A->lJ P w K mg base A outer s H->BindsTo s fd args (ps.zip us)->Vals vs us->sp vs H Q E ->
  codeAny (model P w) A (.call (.ref f) args) (CR CX outer P w H s Q E) s
theorem aN.mono{P:Program}{w:World}{K:W.Frag}{mg:Str->Option Value}{base:Heap}{CX:fQ}{j k:Nat}{f:Addr}{fd:FuncData}{ps:List Str}{sp:Sp}(F:aN P w K mg base CX j f fd ps sp)(h:j<=k):aN P w K mg base CX k f fd ps sp:=⟨F.len,λA outer s H args us vs Q E hr=>F.run A outer s H args us vs Q E (hr.mono h)⟩
theorem lJ.make{P:Program}{w:World}{K:W.Frag}{mg:Str->Option Value}{base:Heap}{A:Around}{outer:List Env}{s:Shared}{H:Hp}(e:lJ P w K mg base A outer s H)(C:Addr)(us:List Value)(kw:List (Str × Value)):
  lJ P w K mg base (A.under (.builtin "type.__call__" ⟨.ref C::us,kw⟩)) outer s H:=⟨by first|exact e.frames | (simpa[Around.under,Code.envs,Code.isFrame,pushEnvs]using e.frames),e.mod,e.bs,e.f6,e.dw,e.iJ,e.hok,e.bare⟩
section
variable {X:Cx} {pins:List (Addr × Obj)} {σ:St} {H:Hp} {s s':Shared}
theorem Inv.env0(I:Inv X pins σ H s):lJ X.prog X.w X.K X.mg X.base X.A X.stack s H:=
 ⟨I.ok.frames,I.ok.mod,I.bs,bN I.ok.f6 I.sz,I.stack,I.pq,I.hok,I.bare⟩
theorem Inv.after{Q:VK}{u:Value}(I:Inv X pins σ H s)(h:CE X.stack X.prog X.w H s Q u s'):EP X pins σ Q u s':=by
 obtain⟨v,H',os,bare,un,hok,r,q⟩:=h;obtain⟨hh,g,d,t,os'⟩:=s';obtain rfl:os'=s.os:=os;exact⟨v,H',I.call (h':=hh) (g':=g) (d':=d) (t':=t) (ch:=[]) un hok bare (λb z=>absurd z (by simp)),r,q⟩
end
noncomputable def pA(sp:Sp)(dF:List V)(E:XK)(t:TA):TE:=λσ H Q=>t σ H λvs H1=>sp (vs++dF) H1 Q E
noncomputable def Nz(C:Addr)(sp:Sp)(dF:List V)(E:XK)(t:TA):TE:=λσ H Q=>t σ H λvs H1=>∀x dx,H1 x=none->H1 dx=none->dx≠x ->
 sp (.ref x::(vs++dF)) (upd (upd H1 dx (.own x)) x (.ins C dx [])) (λv H2=>v = .non/\Q (.ref x) H2) E
noncomputable def Binds(K:W.Frag)(fd:FuncData)(ps:List Str)(ds:List Value):Prop:=
 ∀(s:Shared) (us:List Value),K.In s.heap->(us++ds).length=ps.length->BindsTo s fd ⟨us,[]⟩ (ps.zip (us++ds))
theorem Binds.all{K:W.Frag}{fd:FuncData}{ps:List Str}(h:∀us:List Value,us.length=ps.length->bindArgs fd ⟨us,[]⟩=pure (ps.zip us)):Binds K fd ps []:=λs us _ hl=>by
 rw[rS]at hl ⊢;exact .of_eq (h us hl)
noncomputable def Passes(CX:fQ)(X:Cx)(E:XK):Prop:=∀(pins:List (Addr × Obj)) (σ:St) (H:Hp) (s:Shared) (e:Value) (s':Shared),Inv X pins σ H s->CX X.stack H s E e s'->X.xe e s'
section
variable {X:Cx} {CX:fQ} {k:Nat} {f C:Addr} {fd:FuncData} {ps:List Str} {sp:Sp} {dF:List V} {ds:List Value} {E:XK} {x m:Str} {p pos apos:Pos} {e o:Expr} {es:List Expr} {ta:TE} {t:TA}
theorem X4{pins:List (Addr × Obj)}{σ:St}{H:Hp}{s:Shared}{Q:VK}{us:List Value}{vs:List V}(F:aN X.prog X.w X.K X.mg X.base CX k f fd ps sp)(hr:bS k X.A)(hb:Binds X.K fd ps ds)(hd:Vals dF ds)(hx:Passes CX X E)(I:Inv X pins σ H s)(r:Vals vs us)(h:sp (vs++dF) H Q E):wpAny (model X.prog X.w) X.A (call (.ref f) us) (EP X pins σ Q) X.xe s:=by
 have r2:Vals (vs++dF) (us++ds):=r.append hd;have hl:(us++ds).length=ps.length:=by rw[<- r2.length];exact F.len _ _ _ _ h
 refine ku (jL (F.run X.A X.stack s H ⟨us,[]⟩ (us++ds) (vs++dF) Q E hr I.env0 (hb s us I.cn hl) r2 h) λr s' hq=>?_);cases r with
 |error e=>exact hx pins σ H s e s' I hq
 |ok fl =>
  cases fl with
  |ret u=>exact I.after hq
  |next=>exact False.elim hq
  |brk=>exact False.elim hq
  |cont=>exact False.elim hq
theorem Kl(F:aN X.prog X.w X.K X.mg X.base CX k f fd ps sp)(hr:bS k X.A)(hg:Gl X x)(hm:X.mg x=some (.ref f))(hk:W.keepIn X.K (.ref f)=true)(hb:Binds X.K fd ps ds)(hd:Vals dF ds)(hx:Passes CX X E)
  (ha:PA X (e::es) t) (hdb:(x==("__debug__" : Str))=false:=by decide) (he:starEach (e::es) X.env=(false,eval e X.env)::starEach es X.env:=by rfl) (hpl:(backTo pos (starEach es X.env)).any (·.1)=false:=by rfl) :
  PE X (.Call (.Name x p) (e::es) [] pos) (pA sp dF E t):=by
 intro pins s σ H Q I h;refine sC (kY I hg hm ?_ hdb);refine W.callWith_K (h₀:=X.base) I.ok.mod.iN hk (aG (ha pos pins s σ H _ I h) λus s1 ⟨vs,H1,I1,r,q⟩=>⟨I1.cn,?_⟩) he hpl;exact X4 F hr hb hd hx I1 r q
structure Mk (K:W.Frag) (C f:Addr):Prop where
 makes:W.makesIn K C=true
 init:W.findIn K (.ref C) "__init__" = some (some (.ref f))
 fn:W.isFn K (.ref f)=true
 kp:W.keepIn K (.ref C)=true
theorem X6{pins:List (Addr × Obj)}{σ:St}{H:Hp}{s:Shared}{Q:VK}{us:List Value}{vs:List V}(M:Mk X.K C f)(F:aN X.prog X.w X.K X.mg X.base CX k f fd ps sp)(hr:bS (k+1) X.A)(hb:Binds X.K fd ps ds)(hd:Vals dF ds)(hx:Passes CX X E)(I:Inv X pins σ H s)(r:Vals vs us)(h:∀x dx,H x=none->H dx=none->dx≠x->sp (.ref x::(vs++dF)) (upd (upd H dx (.own x)) x (.ins C dx [])) (λv H2=>v = .non/\Q (.ref x) H2) E):wpAny (model X.prog X.w) X.A (call (.ref C) us) (EP X pins σ Q) X.xe s:=by
 have hq:=h (s.heap.objs.size+1) s.heap.objs.size (I.hok.fresh (nE _)) (I.hok.fresh (aO _)) (bO (pV _));have I2:=Inv.made (C:=C) I;have r2:Vals (V.ref (s.heap.objs.size+1)::(vs++dF)) (Value.ref (s.heap.objs.size+1)::(us++ds)):=.cons rfl (r.append hd);have hl:(Value.ref (s.heap.objs.size+1)::us++ds).length=ps.length:=by
  have e:=r2.length;rw[F.len _ _ _ _ hq]at e;exact e.symm
 refine ku (Uj (f:=f) I.cn M.makes M.init (gZ.mp M.fn) (jL (F.run _ X.stack _ _ ⟨Value.ref (s.heap.objs.size+1)::us,[]⟩ (Value.ref (s.heap.objs.size+1)::(us++ds)) _ _ E (hr.make C us [])
  (I2.env0.make C us []) (hb _ (Value.ref (s.heap.objs.size+1)::us) I2.cn hl) r2 hq) λr s' hq'=>?_))
 cases r with
 |error e=>exact hx pins σ _ _ e s' I2 hq'
 |ok fl =>
  cases fl with
  |ret u =>
   obtain⟨v,H',I3,rv,ev,q3⟩:=I2.after hq';subst ev;exact⟨rv,⟨V.ref (s.heap.objs.size+1),H',I3,rfl,q3⟩⟩
  |next=>exact False.elim hq'
  |brk=>exact False.elim hq'
  |cont=>exact False.elim hq'
theorem W7(M:Mk X.K C f)(F:aN X.prog X.w X.K X.mg X.base CX k f fd ps sp)(hr:bS (k+1) X.A)(hg:Gl X x)(hm:X.mg x=some (.ref C))(hb:Binds X.K fd ps ds)(hd:Vals dF ds)(hx:Passes CX X E)
  (ha:PA X (e::es) t) (hdb:(x==("__debug__" : Str))=false:=by decide) (he:starEach (e::es) X.env=(false,eval e X.env)::starEach es X.env:=by rfl) (hpl:(backTo pos (starEach es X.env)).any (·.1)=false:=by rfl) :
  PE X (.Call (.Name x p) (e::es) [] pos) (Nz C sp dF E t):=by
 intro pins s σ H Q I h;refine sC (kY I hg hm ?_ hdb);refine W.callWith_K (h₀:=X.base) I.ok.mod.iN M.kp (aG (ha pos pins s σ H _ I h) λus s1 ⟨vs,H1,I1,r,q⟩=>⟨I1.cn,?_⟩) he hpl;exact X6 M F hr hb hd hx I1 r q
end
section
variable {X:Cx} {CX:fQ} {k:Nat} {f C:Addr} {fd:FuncData} {ps ks:List Str} {sp:Sp} {E:XK} {x m:Str} {p pos apos kpos:Pos} {e o:Expr} {es:List Expr} {kws:List Keyword} {te ta:TE} {t tk:TA} {nm:Option Str}
variable {g:List Value->List Value->List Value} {gV:List V->List V->List V}
end
structure bh (N P:List Str) (sc:Scope):Prop where
 kind:sc.kind = .function
 co:sc.isCoroutine=false
 gen:sc.isGenerator=false
 nd:N.Nodup
 pre:N.take P.length=P
 par:∀x∈P,sc.names.lookup x=some .local\/sc.names.lookup x=some .cell
 U9:∀y∈sc.names,y.2≠.free
theorem Gb{kindOf:Str->Option NameKind}{x:Str}:∀{binds:List (Str × Value)} {m:Str->Option Value},(∀v,(x,v) ∉ binds)->bindL kindOf binds m x=m x
 | [],_,_=>rfl
 | (n,v)::r,m,h=>by
  unfold bindL;rw[Gb λw hw=>h w (bT _ hw)]
  split
  ·have:x≠n:=by rintro rfl;exact h v cK
   simp[this]
  ·rfl
theorem FZ{kindOf:Str->Option NameKind}{x:Str}:∀{binds:List (Str × Value)} {m:Str->Option Value},(∀v,(x,v) ∉ binds)->bindC kindOf binds m x=m x
 | [],_,_=>rfl
 | (n,v)::r,m,h=>by
  unfold bindC;rw[FZ λw hw=>h w (bT _ hw)]
  split
  ·rfl
  ·have:x≠n:=by rintro rfl;exact h v cK
   simp[this]
theorem Ga{kindOf:Str->Option NameKind}{x:Str}{v:Value}:∀{P:List Str} {vs:List Value} {i:Nat} {m:Str->Option Value},P.Nodup->P[i]?=some x->vs[i]?=some v->kindOf x=some .local->bindL kindOf (P.zip vs) m x=some v
 | [],_,_,_,_,h,_,_=>by simp at h
 |_::_,[],_,_,_,_,h,_=>by simp at h
 |p::P,w::vs,0,m,nd,h1,h2,hk=>by
  simp at h1 h2;subst h1;subst h2;show bindL kindOf ((p,w)::P.zip vs) m p=_;unfold bindL;rw[Gb λv hv=>(jI.mp nd).1 (Et hv).1,az hk];simp
 |p::P,w::vs,i+1,m,nd,h1,h2,hk=>by
  show bindL kindOf ((p,w)::P.zip vs) m x=_;unfold bindL;exact Ga (i:=i) (jI.mp nd).2 (by simpa using h1) (by simpa using h2) hk
theorem FX{kindOf:Str->Option NameKind}{x:Str}{v:Value}:∀{P:List Str} {vs:List Value} {i:Nat} {m:Str->Option Value},P.Nodup->P[i]?=some x->vs[i]?=some v->kindOf x≠some .local->bindC kindOf (P.zip vs) m x=some v
 | [],_,_,_,_,h,_,_=>by simp at h
 |_::_,[],_,_,_,_,h,_=>by simp at h
 |p::P,w::vs,0,m,nd,h1,h2,hk=>by
  simp at h1 h2;subst h1;subst h2;show bindC kindOf ((p,w)::P.zip vs) m p=_;unfold bindC;rw[FZ λv hv=>(jI.mp nd).1 (Et hv).1,au hk];simp
 |p::P,w::vs,i+1,m,nd,h1,h2,hk=>by
  show bindC kindOf ((p,w)::P.zip vs) m x=_;unfold bindC;exact FX (i:=i) (jI.mp nd).2 (by simpa using h1) (by simpa using h2) hk
noncomputable def start(N:List Str)(vs:List V):St:=vs.map some++List.replicate (N.length - vs.length) none
noncomputable def bU(CX:fQ)(P:Program)(w:World)(K:W.Frag)(mg:Str->Option Value)(base:Heap)(N:List Str)(qual:Str)(scope:Scope)(f:Addr)(cd:Value)(A:Around)(outer:List Env)(s:Shared)(H:Hp)(E:XK):Cx where
 prog:=P
 w:=w
 K:=K
 mg:=mg
 base:=base
 A:=A.deeper (envOfC qual scope s.heap.objs.size f cd)
 N:=N
 s₀:=s
 H₀:=H
 env:=envOfC qual scope s.heap.objs.size f cd
 outer:=outer
 stack:=envOfC qual scope s.heap.objs.size f cd::outer
 ex:=[]
 calm:=true
 fn:=λ_=>true
 pn:=[]
 xe:=λe s'=>wpAny (model P w) (A.deeper (envOfC qual scope s.heap.objs.size f cd)) (leaving (envOfC qual scope s.heap.objs.size f cd) e) (λ_ s''=>CX outer H s E e s'') (λe' s''=>CX outer H s E e' s'') s'
theorem Gr{sc:Scope}{n:Nat}{x:Str}(h:sc.names.lookup x=some .cell):∃c,(cellsFrom n sc.names []).lookup x=some c:=by
 have q:=W.cellsFrom_some sc.names n [] (.inl h);exact Option.isSome_iff_exists.mp q
theorem Tr{CX:fQ}{P:Program}{w:World}{K:W.Frag}{mg:Str->Option Value}{base:Heap}{N ps:List Str}{qual:Str}{scope:Scope}{f:Addr}{cd:Value}{A:Around}{outer:List Env}{s s1:Shared}{H:Hp}{E:XK}{us:List Value}{vs:List V}(S:bh N ps scope)(hd:A.handled=none)(e0:lJ P w K mg base A outer s H)(hl:vs.length=ps.length)(r:Vals vs us)(x:InCallC s s.heap.objs.size (bindL (envOfC qual scope s.heap.objs.size f cd).kindOf (ps.zip us) λ_=>none) (cellsFrom (s.heap.objs.size+1) scope.names []) (bindC (envOfC qual scope s.heap.objs.size f cd).kindOf (ps.zip us) λ_=>none) s1):Inv (bU CX P w K mg base N qual scope f cd A outer s H E) [] (start N vs) H s1:=by
 have hpl:ps.length<=N.length:=by have:=congrArg List.length S.pre;rw[gU]at this;omega
 obtain⟨h1,tk,rfl,hk⟩:=x.done;have qI:∀b:Addr,b ∉ (bU CX P w K mg base N qual scope f cd A outer s H E).ex:=λb z=>absurd (show b∈([]:List Addr)from z) (by simp);refine⟨⟨e0.mod,S.kind,rfl,rfl,aO _,λy z c h1 h2=>?_,λy hy=>?_,λy c _ h=>?_,λ_=>hd,Around.frames_deeper e0.frames,.inr ⟨rfl,rfl⟩,λb z=>absurd z (qI b),e0.bs,e0.f6,λb _ _=>qI b,λb z=>absurd z (qI b),e0.dw,e0.iJ⟩,
  rfl,e0.bare,Un.kept hk,⟨_,x.toInCall.ns,λi y v h1 h2 h3=>?_⟩,λy c h=>⟨_,x.cell y c h⟩,e0.hok.fresh (aO _),λy c h=>?_,λp hp=>absurd (show p∈([]:List (Addr × Obj))from hp) (by simp),e0.hok.kept hk,?_⟩
 ·exact name_of_addr x.apart (nX h1) (nX h2)
 ·have hy:scope.names.lookup y=some .cell\/scope.names.lookup y=some .free:=hy
  rcases hy with hy|hy
  ·exact Gr hy
  ·exact absurd rfl (S.U9 _ (nX hy))
 ·exact dS (x.above y c (nX h))
 ·have hi:i<vs.length:=by
   unfold start at h2
   by_cases hi:i<vs.length
   ·exact hi
   ·rw[rW (by simpa using hi)]at h2
    rw[Oq]at h2
    split at h2<;>cases h2
  have ha:vs[i]?=some v:=by
   unfold start at h2;rw[wz (by simpa using hi),dR]at h2;cases e:vs[i]? with
   |none=>rw[e]at h2;cases h2
   |some a=>rw[e]at h2;cases h2;rfl
  obtain⟨u,hu,rv⟩:=r.get ha;have hp:ps[i]?=some y:=by
   rw[<- S.pre,Ot (by omega)];exact h1
  have JK:ps.Nodup:=by rw[<- S.pre];exact S.nd.sublist (List.take_sublist _ _)
  refine⟨u,rv,?_⟩
  rcases S.par y (eh hp)with k|k
  ·exact .inl ⟨k,Ga JK hp hu k⟩
  ·obtain⟨c,e⟩:=Gr (n:=s.heap.objs.size+1) k
   refine .inr ⟨.inl k,c,e,?_⟩;have q:=x.cell y c e;rw[FX JK hp hu (by show scope.names.lookup y≠_;rw[k];decide)]at q;exact q
 ·exact e0.hok.fresh (dS (x.above y c (nX h)))
 ·unfold start
  show _=N.length;rw[dD,aB,Ox];omega
theorem Hj{CX:fQ}{P:Program}{w:World}{K:W.Frag}{mg:Str->Option Value}{base:Heap}{k:Nat}{f:Addr}{name qual:Str}{params:Arguments}{body:List Stmt}{scope:Scope}{dV kV doc pm cdv ct oc:Value}{an od:Option Addr}
  {osl:Array (Option Value)} {N ps:List Str} {sp:Sp} (lk:K.lookup f=some ⟨oc,od,.func (W.fnOf name qual params body scope dV kV doc pm an cdv ct),osl⟩) (hcd:W.codeIn K cdv qual=true) (S:bh N ps scope)
  (len:∀vs H Q E,sp vs H Q E->vs.length=ps.length)
  (hbody:∀(A:Around) (outer:List Env) (s:Shared) (H:Hp) (vs:List V) (Q:VK) (E:XK),bS k (A.deeper (envOfC qual scope s.heap.objs.size f cdv))->sp vs H Q E ->
   ∃t,dE (bU CX P w K mg base N qual scope f cdv A outer s H E) body t/\t {nx:=λ_ H'=>Q .non H',rt:=Q} (start N vs) H) :
  aN P w K mg base CX (k+1) f (W.fnOf name qual params body scope dV kV doc pm an cdv ct) ps sp:=by
 refine⟨len,λA outer s H args us vs Q E hr e0 hb r hsp=>?_⟩;have hl:=len _ _ _ _ hsp;have KX:K.In s.heap:=e0.mod.iN.keeps λb o e=>(e0.bs b o e).1;have lim:s.heap.NoLimit:=e0.mod.nolimit.keeps λb o e=>(e0.bs b o e).1;have hkind:∀y∈ps.zip us,scope.names.lookup y.1=some .local\/(scope.names.lookup y.1=some .cell/\((cellsFrom (s.heap.objs.size+1) scope.names []).lookup y.1).isSome=true):=λ⟨n,v⟩ hy=>by
  rcases S.par n (Et hy).1 with q|q
  ·exact .inl q
  ·exact .inr ⟨q,W.cellsFrom_some _ _ _ (.inl q)⟩
 refine codeAny_call_function hr.depth (KX _ _ lk) rfl S.co S.gen rfl (W.codeRec_of KX hcd) (hb _ _ _ _ ?_);refine wpAny_newFunctionEnv_cells S.kind hkind λenv he s1 x=>?_;subst he;refine⟨lim.keeps x.toInCall.keep,codeAny_func ?_⟩;obtain⟨t,ht,hq⟩:=hbody A outer s H vs Q E (hr.deeper _) hsp;have I:Inv (bU CX P w K mg base N qual scope f cdv A outer s H E) [] (start N vs) H s1:=Tr S hr.hd e0 hl r x;refine dX (ht [] s1 (start N vs) H _ I hq) (λfl s' hs=>?_) λe s' hs=>hs;have fin:∀{σ':St} {H':Hp} {v:V} {u:Value},Inv (bU CX P w K mg base N qual scope f cdv A outer s H E) [] σ' H' s'->RelV v u->Q v H'->CE outer P w H s Q u s':=
  λ{σ' H' v u} J rv q=>⟨v,H',J.os,J.bare,J.base,J.hok,rv,q⟩
 cases fl with
 |ret u =>
  obtain⟨v,σ',H',J,rv,q⟩:=hs;exact fin J rv q
 |next =>
  obtain⟨σ',H',J,q⟩:=hs;exact fin (v:=V.non) (u:=Value.none) J rfl q
 |brk =>
  obtain⟨_,_,_,q⟩:=hs;exact False.elim q
 |cont =>
  obtain⟨_,_,_,q⟩:=hs;exact False.elim q
section
variable {X:Cx} {x:Str} {p pos:Pos} {e:Expr} {es:List Expr} {t:TA} {id T:String} {r:List V->Hp->VK->Prop}
noncomputable def mZ(r:List V->Hp->VK->Prop)(t:TA):TE:=λσ H Q=>t σ H λvs H1=>r vs H1 Q
theorem aR (hc:dP X (.builtin id) r) (hg:Gl X x) (hm:X.mg x=none) (hv:bootBuiltins x=some (.builtin id)) (ha:PA X (e::es) t) (hn:x ≠ "__name__" :=by decide) (hdb:(x==("__debug__" : Str))=false:=by decide)
  (he:starEach (e::es) X.env=(false,eval e X.env)::starEach es X.env:=by rfl) (hpl:(backTo pos (starEach es X.env)).any (·.1)=false:=by rfl):PE X (.Call (.Name x p) (e::es) [] pos) (mZ r t):=by
 intro pins s σ H Q I h;refine sC (mG I hg hm hv ?_ hn hdb);exact PyProof.Rows.callWith_builtin1 (aG (ha pos pins s σ H _ I h) λus s1 ⟨vs,H1,I1,r1,q1⟩=>hc pins s1 σ H1 vs us Q I1 r1 q1) he hpl
theorem dm (hc:dP X (.type T) r) (hg:Gl X x) (hm:X.mg x=none) (hv:bootBuiltins x=some (.type T)) (ha:PA X (e::es) t) (hn:x ≠ "__name__" :=by decide) (hdb:(x==("__debug__" : Str))=false:=by decide)
  (he:starEach (e::es) X.env=(false,eval e X.env)::starEach es X.env:=by rfl) (hpl:(backTo pos (starEach es X.env)).any (·.1)=false:=by rfl):PE X (.Call (.Name x p) (e::es) [] pos) (mZ r t):=by
 intro pins s σ H Q I h;refine sC (mG I hg hm hv ?_ hn hdb);exact sj (aG (ha pos pins s σ H _ I h) λus s1 ⟨vs,H1,I1,r1,q1⟩=>hc pins s1 σ H1 vs us Q I1 r1 q1) he hpl
end
end L2
namespace HT
open PySem PyProof.Rows
section
open PySem.SeqAt
open PySem.AutoSeq1 (wpAny_loadPart')
open PySem.MeetsSeq PySem.MeetsSeq2 PySem.MeetsSeq3
end
section
variable {prog:Program} {w:World} {A:Around} {E:Value->Shared->Prop} {s:Shared}
noncomputable def eX(n d:Nat):Option Int->Nat
 |none=>d
 |some v=>if v<0 then(v+(n:Int)).toNat else min v.toNat n
theorem Bi(n d:Nat):eX n d none=d:=rfl
theorem rg(n d k:Nat):eX n d (some (k:Int))=min k n:=by
 show(if(k:Int)<0 then((k:Int)+(n:Int)).toNat else min (k:Int).toNat n)=min k n;rw[au (by omega),bJ]
end
end HT
namespace L2
open PySem PySem.Spec PyProof.Rows
abbrev TO:=St->Hp->(Option Int->Hp->Prop)->Prop
noncomputable def PO(X:Cx)(e:Option Expr)(t:TO):Prop:=
 ∀(pins:List (Addr × Obj)) (s:Shared) (σ:St) (H:Hp) (Q:Option Int->Hp->Prop),Inv X pins σ H s->t σ H Q ->
  wpAny (model X.prog X.w) X.A (evalPart e X.env) (λu s'=>∃o H',Inv X pins σ H' s'/\IsPart u o/\Q o H') X.xe s
noncomputable def YS:TO:=λ_ H Q=>Q none H
noncomputable def YZ(t:TE):TO:=λσ H Q=>t σ H λx H1=>∃i,x = .int i/\Q (some i) H1
section
variable {X:Cx} {e:Expr} {te:TE} {lo hi:Option Expr} {tl th:TO} {pos p2:Pos}
theorem Bc:PO X none YS:=by
 intro pins s σ H Q I h;rw[evalPart_none];exact aC ⟨none,H,I,.none,h⟩
theorem h7(h:PE X e te):PO X (some e) (YZ te):=by
 intro pins s σ H Q I hw;rw[evalPart_some];refine aG (h pins s σ H _ I hw) λu s1 ⟨x,H1,I1,r1,q1⟩=>?_;obtain⟨i,rfl,q⟩:=q1;obtain⟨t,rfl⟩:=r1;exact⟨some i,H1,I1,.int i t,q⟩
noncomputable def xk(X:Cx)(r:V->Option Int->Option Int->Hp->VK->Prop):Prop:=
 ∀(pins:List (Addr × Obj)) (s:Shared) (σ:St) (H:Hp) (x:V) (v vl vu:Value) (lo hi:Option Int) (sl:Addr) (Q:VK),Inv X pins σ H s->RelV x v->s.heap.IsSliceOf sl vl vu .none->IsPart vl lo->IsPart vu hi->r x lo hi H Q ->
  ∃T id,typeLookup (.type T) "__getitem__" = pure (some (.builtin id))/\s.TypeIs v T/\wpAny (model X.prog X.w) X.A (getItem v (.ref sl)) (EP X pins σ Q) X.xe s
noncomputable def Y1(r:V->Option Int->Option Int->Hp->VK->Prop)(te:TE)(tl th:TO):TE:=λσ H Q=>te σ H λx H1=>tl σ H1 λl H2=>th σ H2 λu H3=>r x l u H3 Q
theorem mP{r:V->Option Int->Option Int->Hp->VK->Prop}(hr:xk X r)(he:PE X e te)(hl:PO X lo tl)(hu:PO X hi th):PE X (.Subscript e (.Slice lo hi none p2) pos) (Y1 r te tl th):=by
 intro pins s σ H Q I h;refine Subscript_ (aG (he pins s σ H _ I h) λv s1 ⟨x,H1,I1,r1,q1⟩=>?_);refine wpAny_Slice (aG (hl pins s1 σ H1 _ I1 q1) λvl s2 ⟨l,H2,I2,pl,q2⟩=>aG (hu pins s2 σ H2 _ I2 q2) λvu s3 ⟨u,H3,I3,pu,q3⟩=>?_);rw[evalPart_none];refine aC ?_;have I4:Inv X pins σ H3 {s3 with heap:=s3.heap.push {cls:=.type "slice", data:=.fields #[vl,vu,.none]}}:=I3.kept (t':=s3.toks) λb ob q=>aM _ q;obtain⟨T,id,hT,ht,hg⟩:=hr pins {s3 with heap:=s3.heap.push {cls:=.type "slice", data:=.fields #[vl,vu,.none]}} σ H3 x v vl vu l u s3.heap.objs.size Q I4 r1 (Heap.IsSliceOf.new ..) pl pu q3;show wpAny (model X.prog X.w) X.A (subscriptTail e (.Slice lo hi none p2) v (.ref s3.heap.objs.size)) (EP X pins σ Q) X.xe {s3 with heap:=s3.heap.push {cls:=.type "slice", data:=.fields #[vl,vu,.none]}};exact tail_any (ops:=[.ref s3.heap.objs.size,v]) ht hT hg (by with_unfolding_all rfl)
noncomputable def dY(xs:List V)(lo hi:Option Int):List V:=(xs.drop (HT.eX xs.length 0 lo)).take (HT.eX xs.length xs.length hi - HT.eX xs.length 0 lo)
theorem Qg(xs:List V)(lo hi:Option Int):(dY xs lo hi).length<=xs.length:=by
 unfold dY;rw[gU,nz];omega
end
noncomputable def jo(n:Nat)(i:Int):Option Nat:=if 0<=i then(if i<n then some i.toNat else none)else if -(n:Int)<=i then some (i+n).toNat else none
noncomputable def ji{α:Type}(xs:List α)(i:Int):Option α:=(jo xs.length i).bind λj=>xs[j]?
theorem zZ{n:Nat}{i:Int}{j:Nat}(h:jo n i=some j):seqIndex? i n=some j/\j<n/\-(n:Int)<=i/\i<n:=by
 unfold jo at h
 by_cases h0:0<=i
 ·rw[az h0]at h
  by_cases h1:i<n
  ·rw[az h1]at h
   have e:i.toNat=j:=dU h;exact⟨by rw[seqIndex_of h0 h1,e],by omega,by omega,h1⟩
  ·rw[au h1]at h;cases h
 ·rw[au h0]at h
  by_cases h1:-(n:Int)<=i
  ·rw[az h1]at h
   have e:(i+n).toNat=j:=dU h;exact⟨by rw[seqIndex_neg (by omega) h1,e],by omega,h1,by omega⟩
  ·rw[au h1]at h;cases h
theorem xq{α:Type}{xs:List α}{i:Int}{v:α}(h:ji xs i=some v):∃j,seqIndex? i xs.length=some j/\xs[j]?=some v/\j<xs.length/\-(xs.length:Int)<=i/\i<xs.length:=by
 unfold ji at h;cases e:jo xs.length i with
 |none=>rw[e]at h;cases h
 |some j =>
  rw[e]at h;obtain⟨h1,h2,h3,h4⟩:=zZ e;exact⟨j,h1,h,h2,h3,h4⟩
theorem bp{α:Type}{xs:List α}{j:Nat}{v:α}(h:xs[j]?=some v):ji xs (j:Int)=some v:=by
 have hj:j<xs.length:=(cG.mp h).1;have e:jo xs.length (j:Int)=some j:=by
  unfold jo;rw[az (by omega),az (by omega)];simp
 unfold ji;rw[e];exact h
noncomputable def O2(b:Expr):Prop:=∀o i,subscripted b false o i=operate [o,i] (getItem o i)
noncomputable def lL(X:Cx)(r:R2):Prop:=
 ∀(value slice:Expr) (pins:List (Addr × Obj)) (s:Shared) (σ:St) (H:Hp) (x y:V) (v u:Value) (Q:VK),Inv X pins σ H s->RelV x v->RelV y u->r x y H Q ->
  subscripted slice false v u=operate [v,u] (getItem v u)->wpAny (model X.prog X.w) X.A (subscriptTail value slice v u) (EP X pins σ Q) X.xe s
noncomputable def pT(X:Cx)(id:String)(r:V->List V->Hp->VK->Prop):Prop:=
 ∀(pins:List (Addr × Obj)) (s:Shared) (σ:St) (H:Hp) (x:V) (xs:List V) (v:Value) (us:List Value) (Q:VK),Inv X pins σ H s->RelV x v->Vals xs us->r x xs H Q ->
  wpAny (model X.prog X.w) X.A (call (.builtin id) (v::us)) (EP X pins σ Q) X.xe s
section
variable {X:Cx} {a b:Expr} {ta tb:TE} {pos:Pos}
theorem aH{r:R2}(hr:lL X r)(ha:PE X a ta)(hb:PE X b tb)(hs:O2 b):PE X (.Subscript a b pos) (ig r ta tb):=by
 intro pins s σ H Q I h;exact Subscript_ (xx ha hb I h λv u s2 x y H2 I2 rx ry q=>hr a b pins s2 σ H2 x y v u Q I2 rx ry q (hs _ _))
noncomputable def KR(K:W.Frag):R2:=λx y H Q=>∃p xs i v,x = .ref p/\y = .int i/\ai K H p xs/\ji xs i=some v/\Q v H
noncomputable def KS(K:W.Frag):R2:=λx y H Q=>∃p xs i v,x = .ref p/\y = .int i/\aQ K H p xs/\ji xs i=some v/\Q v H
noncomputable def Xx:R2:=λx y H Q=>∃z i c,x = .str z/\y = .int i/\z.length<=sizeLine/\ji z.cps.toList i=some c/\Q (.str ⟨#[c]⟩) H
theorem TJ:lL X (KR X.K):=by
 intro value slice pins s σ H x y v u Q I rx ry h hs;obtain⟨p,xs,i,z,rfl,rfl,hq,he,q⟩:=h;cases rx;obtain⟨t,rfl⟩:=ry;obtain⟨its,r,pl,hz⟩:=I.list hq;obtain⟨j,h1,h2,h3,h4,h5⟩:=xq he;obtain⟨w,ew,mS⟩:=r.get h2;have hl:=r.length;have hn:=oH;have fin:EP X pins σ Q w s:=⟨z,H,I,mS,q⟩
 by_cases h0:0<=i
 ·have hj:i.toNat=j:=by
   rw[seqIndex_of h0 h5]at h1;exact dU h1
  exact item_listR pl.isList h0 (by omega) (by rw[hj];simpa using ew) fin hs
 ·have hj:(i+(its.toArray.size:Int)).toNat=j:=by
   rw[seqIndex_neg (by omega) h4]at h1;rw[cD,<- hl];exact dU h1
  exact subscriptTail_builtinR (x:=w) pl.isList.typeIs Fw.lookup
   (wpAny_getItem_list_neg (Q:=λr s'=>r=w/\EP X pins σ Q r s') pl.isList (by omega) (by rw[cD]<;>omega) (by omega) (by rw[hj];simpa using ew) ⟨rfl,fin⟩) hs
theorem TK:lL X (KS X.K):=by
 intro value slice pins s σ H x y v u Q I rx ry h hs;obtain⟨p,xs,i,z,rfl,rfl,hq,he,q⟩:=h;cases rx;obtain⟨t,rfl⟩:=ry;obtain⟨its,r,pl,hz⟩:=I.tuple hq;obtain⟨j,h1,h2,h3,h4,h5⟩:=xq he;obtain⟨w,ew,mS⟩:=r.get h2;have hl:=r.length;have hn:=oH;have fin:EP X pins σ Q w s:=⟨z,H,I,mS,q⟩;exact subscriptTail_builtinR (x:=w) pl.typeIs slot_tuple_getitem.lookup
  (getItem_tuple (j:=j) (Q:=λr s'=>r=w/\EP X pins σ Q r s') pl (by omega) (by omega) (by rw[cD,<- hl];exact h1) (by simpa using ew) ⟨rfl,fin⟩) hs
theorem Jg:lL X Xx:=by
 intro value slice pins s σ H x y v u Q I rx ry h hs;obtain⟨z,i,c,rfl,rfl,hz,he,q⟩:=h;obtain⟨t,rfl⟩:=rx;obtain⟨t',rfl⟩:=ry;obtain⟨j,h1,h2,h3,h4,h5⟩:=xq he;have hl:z.cps.toList.length=z.length:=by simp[Str.length]
 rw[hl]at h1 h4 h5;have hn:=oH;exact tail_any (sy s z t) slot_str_getitem.lookup (getItem_str (c:=c) (by
  have e1:decide (i < -(2 ^ 63:Int))=false:=bE (by omega);have e2:decide (i>=2 ^ 63)=false:=bE (by omega);rw[e1,e2,Ec]) (by rw[h1];simpa using h2) ⟨.str ⟨#[c]⟩,H,I.tok _,⟨_,rfl⟩,q⟩) hs
theorem Ul (its:List Value) (n j:Nat) (u:Value):Obj.mapSeq (·.setIfInBounds j u) {cls:=.type "list", data:=.seq its.toArray n} = {cls:=.type "list", data:=.seq (its.set j u).toArray n}:=by
 simp[Obj.mapSeq]
theorem Inv.lst{pins:List (Addr × Obj)}{σ:St}{H:Hp}{s:Shared}{p:Addr}{xs:List V}(I:Inv X pins σ H s)(h:H p=some (.lst xs)):
  ∃(its:List Value) (n:Nat),Vals xs its/\s.heap.get? p=some {cls:=.type "list", data:=.seq its.toArray n}/\xs.length<=sizeLine:=by
 obtain⟨z,its,n,r,e⟩:=I.hok p _ h;exact⟨its,n,r,e,z⟩
theorem Inv.Ue{pins:List (Addr × Obj)}{σ:St}{H:Hp}{s:Shared}{p:Addr}{xs ys:List V}{its its':List Value}{n n':Nat}{f:Obj->Obj}(I:Inv X pins σ H s)(h:H p=some (.lst xs))
  (ho:s.heap.get? p=some {cls:=.type "list", data:=.seq its.toArray n}) (hf:f {cls:=.type "list", data:=.seq its.toArray n} = {cls:=.type "list", data:=.seq its'.toArray n'}) (r:Vals ys its') (hz:ys.length<=sizeLine) (t:Nat) :
  Inv X pins σ (upd H p (.lst ys)) {s with heap:=s.heap.update p f,toks:=t}:=by
 have e:(s.heap.update p f).get? p=some {cls:=.type "list", data:=.seq its'.toArray n'}:=by
  rw[iB f ho (by rw[hf]<;>rfl),hf]
 refine I.write (x:=p) (e:=p) (by rw[h];trivial) (.inl rfl) (λb u hb q=>(jf _ _ (cE hb)).trans q) ⟨_,e⟩ ?_;exact⟨hz,its',n',r,e⟩
noncomputable def XB:V->V->V->Hp->(Hp->Prop)->Prop:=λo i v H Q=>∃p xs k j,o = .ref p/\i = .int k/\H p=some (.lst xs)/\jo xs.length k=some j/\Q (upd H p (.lst (xs.set j v)))
theorem set_list:Fc X XB:=by
 intro pins s σ H o i v ov iv u Q I ro ri rv h;obtain⟨p,xs,k,j,rfl,rfl,hp,hj,q⟩:=h;cases ro;obtain⟨t,rfl⟩:=ri;obtain⟨its,n,r,ho,hz⟩:=I.lst hp;obtain⟨h1,h2,h3,h4⟩:=zZ hj;have hl:=r.length;have hn:=oH;have I':Inv X pins σ (upd H p (.lst (xs.set j v))) {s with heap:=s.heap.update p (Obj.mapSeq (·.setIfInBounds j u))}:=
  I.Ue hp ho (Ul its n j u) (r.set rv j) (by rw[lN];exact hz) s.toks
 by_cases h0:0<=k
 ·have hk:k.toNat=j:=by
   rw[seqIndex_of h0 h4]at h1;exact dU h1
  exact W.ki_setAt ho h0 (by omega) (by rw[cD,<- hl];exact h4) (by rw[hk];exact⟨_,I',q⟩)
 ·have hk:(k+(its.toArray.size:Int)).toNat=j:=by
   rw[seqIndex_neg (by omega) h3]at h1;rw[cD,<- hl];exact dU h1
  exact W.ki_setBack ho (by omega) (by rw[cD,<- hl];exact h3) (by omega) (by rw[hk];exact⟨_,I',q⟩)
theorem Yp(lo hi:Option Int)(n:Nat):(sliceBounds lo hi none n).1=((HT.eX n 0 lo:Nat):Int)/\(sliceBounds lo hi none n).2.1=((HT.eX n n hi:Nat):Int)/\(sliceBounds lo hi none n).2.2=1:=by
 refine⟨?_,?_,rfl⟩
 ·cases lo with
  |none=>simp[sliceBounds,HT.eX]
  |some i =>
   simp only[sliceBounds,HT.eX,Option.getD_none,show(1:Int) > 0 by decide,mE]
   by_cases h:i<0
   ·simp only[h,mE]<;>omega
   ·simp only[h,oE]<;>omega
 ·cases hi with
  |none=>simp[sliceBounds,HT.eX]
  |some i =>
   simp only[sliceBounds,HT.eX,Option.getD_none,show(1:Int) > 0 by decide,mE]
   by_cases h:i<0
   ·simp only[h,mE]<;>omega
   ·simp only[h,oE]<;>omega
theorem Yo(its:List Value)(lo hi:Option Int):slicePick its.toArray lo hi none=((its.drop (HT.eX its.length 0 lo)).take (HT.eX its.length its.length hi - HT.eX its.length 0 lo)).toArray:=by
 obtain⟨h1,h2,h3⟩:=Yp lo hi its.toArray.size;unfold slicePick;rw[h1,h2,h3];simp only[sliceRange_one,pick_run,cD]<;>rfl
noncomputable def K0(K:W.Frag):V->Option Int->Option Int->Hp->VK->Prop:=λx lo hi H Q=>∃a xs,x = .ref a/\ai K H a xs/\∀p,H p=none->Q (.ref p) (upd H p (.lst (dY xs lo hi)))
theorem Yn:xk X (K0 X.K):=by
 intro pins s σ H x v vl vu lo hi sl Q I rx hs pl pu h;obtain⟨a,xs,rfl,hx,q⟩:=h;cases rx;obtain⟨its,r,ht,hz⟩:=I.list hx;have hlen:=r.length;refine⟨"list", _,Fw.lookup,ht.isList.typeIs,?_⟩;refine wpAny_getItem_list_slice ht.isList hs pl pu .none (by simp) ?_ (by rw[cD]<;>omega);rw[Yo,<- hlen];refine⟨.ref s.heap.objs.size,_,I.laid (t':=s.toks) (o:=.lst (dY xs lo hi)) (λb ob q=>aM _ q) (aO _) ?_,rfl,q _ (I.hok.fresh (aO _))⟩;exact⟨bN (Qg xs lo hi) hz,_,0,(r.drop (HT.eX xs.length 0 lo)).take (HT.eX xs.length xs.length hi - HT.eX xs.length 0 lo),bR _ rfl⟩
noncomputable def jm:V->Bool
 |.non=>true
 |.bl _=>true
 |.int _=>true
 |.str _=>true
 |_=>false
noncomputable def jR:V->V->Bool
 |.non,.non=>true
 |.bl a,.bl b=>a==b
 |.bl a,.int b=>(if a then 1 else 0)==b
 |.int a,.bl b=>a==(if b then 1 else 0)
 |.int a,.int b=>a==b
 |.str a,.str b=>a==b
 |_,_=>false
theorem QM{A:Around}{s:Shared}{y x:V}{u v:Value}(ry:RelV y u)(rx:RelV x v)(fy:jm y=true)(fx:jm x=true):SeqAt.EqAt A s u v (jR y x):=by
 cases y with
 |non =>
  cases ry;cases x with
  |non=>cases rx;exact w6 _
  |bl b=>cases rx;exact SeqAt.EqAt.none_bool b
  |int b=>obtain⟨t,rfl⟩:=rx;exact SeqAt.EqAt.none_int b t
  |str b=>obtain⟨t,rfl⟩:=rx;exact SeqAt.EqAt.none_str b t
  |_=>exact absurd (show false=true from fx) bY
 |bl a =>
  cases ry;cases x with
  |non=>cases rx;exact SeqAt.EqAt.bool_none a
  |bl b=>cases rx;exact w5 a b
  |int b=>obtain⟨t,rfl⟩:=rx;exact SeqAt.EqAt.bool_int a b t
  |str b=>obtain⟨t,rfl⟩:=rx;exact SeqAt.EqAt.bool_str a b t
  |_=>exact absurd (show false=true from fx) bY
 |int a =>
  obtain⟨t',rfl⟩:=ry;cases x with
  |non=>cases rx;exact SeqAt.EqAt.int_none a t'
  |bl b=>cases rx;exact SeqAt.EqAt.int_bool a t' b
  |int b=>obtain⟨t,rfl⟩:=rx;exact SeqAt.EqAt.int_int a t' b t
  |str b=>obtain⟨t,rfl⟩:=rx;exact SeqAt.EqAt.int_str a t' b t
  |_=>exact absurd (show false=true from fx) bY
 |str a =>
  obtain⟨t',rfl⟩:=ry;cases x with
  |non=>cases rx;exact SeqAt.EqAt.str_none a t'
  |bl b=>cases rx;exact SeqAt.EqAt.str_bool a t' b
  |int b=>obtain⟨t,rfl⟩:=rx;exact SeqAt.EqAt.str_int a t' b t
  |str b=>obtain⟨t,rfl⟩:=rx;exact SeqAt.EqAt.str_str a t' b t
  |_=>exact absurd (show false=true from fx) bY
 |_=>exact absurd (show false=true from fy) bY
noncomputable def fG(x:V)(u:Value):Bool:=match u with
 |.none=>jR .non x
 |.bool b=>jR (.bl b) x
 |.int i _=>jR (.int i) x
 |.str z _=>jR (.str z) x
 |_=>false
theorem G9{x y:V}{u:Value}(r:RelV y u)(f:jm y=true):fG x u=jR y x:=by
 cases y with
 |non=>cases r;rfl
 |bl b=>cases r;rfl
 |int i=>obtain⟨t,rfl⟩:=r;rfl
 |str z=>obtain⟨t,rfl⟩:=r;rfl
 |_=>exact absurd (show false=true from f) bY
theorem qc{x:V}:∀{xs:List V} {us:List Value},Vals xs us->xs.all jm=true->us.any (fG x)=xs.any λy=>jR y x
 |_,_,.nil,_=>rfl
 |y::xs,u::us,.cons r t,f=>by
  rw[rR,dB]at f;rw[nq,nq,G9 r f.1,qc t f.2]
theorem qG{A:Around}{s:Shared}{x:V}{v:Value}(rx:RelV x v)(fx:jm x=true):∀{xs:List V} {us:List Value},Vals xs us->xs.all jm=true->∀u∈us,SeqAt.EqAt A s u v (fG x u)
 |_,_,.nil,_=>λu hu=>by cases hu
 |y::xs,u::us,.cons r t,f=>λu' hu=>by
  rw[rR,dB]at f
  rcases bu.mp hu with rfl|hu
  ·rw[G9 r f.1];exact QM r rx f.1 fx
  ·exact qG rx fx t f.2 u' hu
noncomputable def inV(x:V)(xs:List V):Bool:=xs.any λy=>jR y x
noncomputable def u5(K:W.Frag)(neg:Bool):R2:=λx y H Q=>∃p xs,y = .ref p/\(ai K H p xs\/aQ K H p xs)/\jm x=true/\xs.all jm=true/\Q (.bl (if neg then !inV x xs else inV x xs)) H
theorem Wu:bP X (compareOp .In) (u5 X.K false):=by
 intro pins s σ H x y v u Q I rx ry h;obtain⟨p,xs,rfl,hq,fx,fs,q⟩:=h;cases ry
 rcases hq with hq|hq
 ·obtain⟨its,r,pl,hz⟩:=I.list hq
  refine SeqAt.in_listAt (fG x) pl.isList (λw hw=>qG rx fx r fs w (by simpa using hw)) ⟨.bl _,H,I,rfl,?_⟩;rw[show its.toArray.any (fG x)=its.any (fG x)by simp,qc r fs];exact q
 ·obtain⟨its,r,pl,hz⟩:=I.tuple hq
  refine SeqAt.in_tupleAt (fG x) pl (λw hw=>qG rx fx r fs w (by simpa using hw)) ⟨.bl _,H,I,rfl,?_⟩;rw[show its.toArray.any (fG x)=its.any (fG x)by simp,qc r fs];exact q
theorem Wy:bP X (compareOp .NotIn) (u5 X.K true):=by
 intro pins s σ H x y v u Q I rx ry h;obtain⟨p,xs,rfl,hq,fx,fs,q⟩:=h;cases ry
 rcases hq with hq|hq
 ·obtain⟨its,r,pl,hz⟩:=I.list hq
  refine SeqAt.notIn_listAt (fG x) pl.isList (λw hw=>qG rx fx r fs w (by simpa using hw)) ⟨.bl _,H,I,rfl,?_⟩;rw[show its.toArray.any (fG x)=its.any (fG x)by simp,qc r fs];exact q
 ·obtain⟨its,r,pl,hz⟩:=I.tuple hq
  refine SeqAt.notIn_tupleAt (fG x) pl (λw hw=>qG rx fx r fs w (by simpa using hw)) ⟨.bl _,H,I,rfl,?_⟩;rw[show its.toArray.any (fG x)=its.any (fG x)by simp,qc r fs];exact q
theorem Wz:bP X (compareOp .NotIn) (λx y H Q=>∃i j,x = .str i/\y = .str j/\Q (.bl (!(!(Builtin.Str.occurrences j i 0 j.length 1).isEmpty))) H):=by
 intro pins s σ H x y v u Q I rx ry h;obtain⟨i,j,rfl,rfl,q⟩:=h;obtain⟨t,rfl⟩:=rx;obtain⟨t',rfl⟩:=ry;exact notIn_str ⟨.bl _,H,I,rfl,q⟩
theorem P6:dP X (.builtin "len") (λxs H Q=>∃p ys,xs = [.ref p]/\(ai X.K H p ys\/aQ X.K H p ys)/\Q (.int ys.length) H):=by
 intro pins s σ H xs us Q I r h;obtain⟨p,ys,rfl,hq,q⟩:=h;obtain⟨u,rfl,rx⟩:=vals1 r;cases rx;have hn:=oH
 rcases hq with hq|hq
 ·obtain⟨its,r',pl,hz⟩:=I.list hq
  have hlen:=r'.length;exact Calls.call_len_list pl.isList (by simp only[cD]<;>omega) ⟨.int ys.length,H,I.tok _,⟨s.toks+1,by rw[cD,hlen]⟩,q⟩
 ·obtain⟨its,r',pl,hz⟩:=I.tuple hq
  have hlen:=r'.length;exact len_tuple pl (by simp only[cD]<;>omega) ⟨.int ys.length,H,I.tok _,⟨s.toks+1,by rw[cD,hlen]⟩,q⟩
theorem P7:dP X (.type "list") (λxs H Q=>∃p ys,xs = [.ref p]/\(ai X.K H p ys\/aQ X.K H p ys)/\∀l,H l=none->Q (.ref l) (upd H l (.lst ys))):=by
 intro pins s σ H xs us Q I r h;obtain⟨p,ys,rfl,hq,q⟩:=h;obtain⟨u,rfl,rx⟩:=vals1 r;cases rx;have fin:∀(its:List Value),Vals ys its->ys.length<=sizeLine->∀(h':Heap) (c':Nat),(∀b o',s.heap.get? b=some o'->h'.get? b=some o') ->
   h'.get? s.heap.objs.size=some {cls:=.type "list", dict:=none,data:=.seq its.toArray c',slots:=#[]}->EP X pins σ Q (.ref s.heap.objs.size) {s with heap:=h'}:=λits r' hz h' c' kp e =>
  ⟨.ref s.heap.objs.size,_,I.laid (t':=s.toks) kp (aO _) (show bG X.prog X.w _ h' _ (.lst ys)from⟨hz,its,c',r',e⟩),rfl,q _ (I.hok.fresh (aO _))⟩
 rcases hq with hq|hq
 ·obtain⟨its,r',pl,hz⟩:=I.list hq
  have hlen:=r'.length;obtain⟨o,ho,hc,n,hd⟩:=pl.isList;exact call_list_seq p (.inl rfl) ho hc hd (λh' c' kp e=>fin its r' hz h' c' kp e) (by simp only[cD]<;>omega)
 ·obtain⟨its,r',pl,hz⟩:=I.tuple hq
  have hlen:=r'.length;obtain⟨o,ho,hc,n,hd⟩:=pl;exact call_list_seq p (.inr rfl) ho hc hd (λh' c' kp e=>fin its r' hz h' c' kp e) (by simp only[cD]<;>omega)
theorem P_:dP X (.type "tuple") (λxs H Q=>∃p ys,xs = [.ref p]/\((ai X.K H p ys/\∀l,H l=none->Q (.ref l) (upd H l (.tup ys)))\/(aQ X.K H p ys/\Q (.ref p) H))):=by
 intro pins s σ H xs us Q I r h;obtain⟨p,ys,rfl,h⟩:=h;obtain⟨u,rfl,rx⟩:=vals1 r;cases rx
 rcases h with⟨hq,q⟩|⟨hq,q⟩
 ·obtain⟨its,r',pl,hz⟩:=I.list hq
  have hlen:=r'.length;refine call_tuple_list pl.isList (λh' kp=>?_) (by simp only[cD]<;>omega);have I1:Inv X pins σ H {s with heap:=h'}:=I.kept (t':=s.toks) kp;have I2:Inv X pins σ (upd H h'.objs.size (.tup ys)) {s with heap:=h'.push {cls:=.type "tuple", data:=.seq its.toArray}}:=
   I1.laid (t':=s.toks) (λb o e=>aM _ e) (aO _) (show bG X.prog X.w _ _ _ (.tup ys)from⟨hz,its,r',IsTup.new _ _,_,bR _ rfl,rfl⟩)
  exact⟨.ref h'.objs.size,_,I2,rfl,q _ (I1.hok.fresh (aO _))⟩
 ·obtain⟨its,r',pl,hz⟩:=I.tuple hq
  exact call_tuple_same pl ⟨.ref p,H,I,rfl,q⟩
noncomputable def NZ(K:W.Frag)(T:String)(x:V)(H:Hp):Prop:=match x with
 |.str _=>T = "str"
 |.int _=>T = "int"
 |.ref p=>(T = "list" /\ ∃xs,ai K H p xs)\/(T = "tuple" /\ ∃o,K.lookup p=some o/\o.cls = .type "tuple" /\ o.dict=none) \/
   (T = "dict" /\ ((∃kvs,H p=some (.dK kvs))\/∃kvs,H p=some (.dT kvs)))\/(T = "set" /\ ∃S n,H p=some (.set S n))\/(T = "tuple" /\ ∃xs,H p=some (.tup xs))
 |_=>False
theorem Zm{pins:List (Addr × Obj)}{σ:St}{H:Hp}{s:Shared}{T:String}{x:V}{v:Value}(I:Inv X pins σ H s)(r:RelV x v)(ty:NZ X.K T x H):s.TypeIs v T/\∀a,v = .ref a->∃ob,s.heap.get? a=some ob/\ob.dict=none:=by
 cases x with
 |str z =>
  obtain⟨t,rfl⟩:=r;cases(show T = "str" from ty);exact⟨sy s z t,λ_ e=>nomatch e⟩
 |int i =>
  obtain⟨t,rfl⟩:=r;cases(show T = "int" from ty);exact⟨typeIs_int s i t,λ_ e=>nomatch e⟩
 |ref p =>
  cases r
  rcases ty with⟨rfl,xs,hq⟩|⟨rfl,o,hk,hc,hd⟩|⟨rfl,hk⟩|⟨rfl,S,n,hk⟩|⟨rfl,zs,hk⟩
  ·obtain⟨its,_,pl,_⟩:=I.list hq
   refine⟨pl.isList.typeIs,λa e=>?_⟩;cases e;obtain⟨o,n,e,c,hd,_⟩:=pl;exact⟨o,e,hd⟩
  ·refine⟨⟨o,I.cn p o hk,hc⟩,λa e=>?_⟩
   cases e;exact⟨o,I.cn _ o hk,hd⟩
  ·have z:∃o,s.heap.get? p=some o/\o.ExactDict:=by
    rcases hk with⟨kvs,hk⟩|⟨kvs,hk⟩
    ·obtain⟨_,_,_,_,o,_,_,e,ex,_⟩:=I.hok p _ hk
     exact⟨o,e,ex⟩
    ·obtain⟨_,_,_,_,o,_,_,e,ex,_⟩:=I.hok p _ hk
     exact⟨o,e,ex⟩
   obtain⟨o,e,ex⟩:=z;refine⟨⟨o,e,ex.1⟩,λa e2=>?_⟩;cases e2;exact⟨o,e,ex.2.1⟩
  ·obtain⟨o,_,_,_,e,ex,_⟩:=I.hok p _ hk
   refine⟨⟨o,e,ex.1⟩,λa e2=>?_⟩;cases e2;exact⟨o,e,ex.2.1⟩
  ·obtain⟨_,_,_,⟨o2,e2,c2,_⟩,o,e,hd⟩:=(show bG X.prog X.w H s.heap p (.tup zs)from I.hok p _ hk)
   refine⟨⟨o2,e2,c2⟩,λa e3=>?_⟩;cases e3;exact⟨o,e,hd⟩
 |_=>exact False.elim ty
noncomputable def Dr(K:W.Frag)(T:String)(r:V->List V->Hp->VK->Prop)(to:TE)(t:TA):TE:=λσ H Q=>to σ H λx H1=>NZ K T x H1/\t σ H1 λxs H2=>r x xs H2 Q
variable {o e:Expr} {es:List Expr} {to:TE} {t:TA} {name:Str} {apos cpos:Pos} {T id:String} {r:V->List V->Hp->VK->Prop}
theorem WX (pa:PlainAttrs T) (slot:Slot T name id) (hty:typeOf (.builtin id)=pure (.type "method_descriptor")) (hm:pT X id r) (ho:PE X o to) (ha:PA X (e::es) t)
  (hbase:attributeBase o name X.env (eval o X.env)=eval o X.env:=by rfl)
  (hfew:((backTo cpos (starEach (e::es) X.env)).all (λx=>!x.1)&&(backToKw cpos (keywordEach [] X.env)).all (λx=>x.1.isSome)
   && decide ((e::es).length+([]:List Keyword).length+(if([]:List Keyword).isEmpty then 0 else 1)<30))=true:=by rfl)
  (hline:(apos.endLine==cpos.line)=true:=by rfl) (hs:starEach (e::es) X.env=(false,eval e X.env)::starEach es X.env:=by rfl) (hplain:(backTo cpos (starEach es X.env)).any (·.1)=false:=by rfl) :
  PE X (.Call (.Attribute o name apos) (e::es) [] cpos) (Dr X.K T r to t):=by
 intro pins s σ H Q I h;refine wpAny_Call_method_late hbase hfew hline rfl (aG (ho pins s σ H _ I h) λv s1 ⟨x,H1,I1,r1,ty,q1⟩=>?_);obtain⟨h1,h2⟩:=Zm I1 r1 ty;refine⟨T,id,pa,slot,hty,h1,h2,?_⟩;have hA:=ha cpos pins s1 σ H1 _ I1 q1;rw[hs]at hA ⊢;refine Fh (by show(false||(backTo cpos (starEach es X.env)).any (·.1))=false;rw[hplain]<;>rfl) (sm ?_);exact aG hA λus s2 ⟨vs,H2,I2,r2,q2⟩=>hm pins s2 σ H2 x vs v us Q I2 r1 r2 q2
end
noncomputable def r9(X:Cx)(id:String)(r:V->List V->Hp->VK->Prop):Prop:=
 ∀(pins:List (Addr × Obj)) (s:Shared) (σ:St) (H:Hp) (x:V) (xs:List V) (v:Value) (us:List Value) (Q:VK),Inv X pins σ H s->RelV x v->Vals xs us->r x xs H Q ->
  wpAny (model X.prog X.w) X.A (call (.builtin id) (v::us)) (EP X pins σ Q) X.xe s
theorem Vals.one{x:V}{us:List Value}(h:Vals [x] us):∃u,us = [u]/\RelV x u:=by
 cases h with
 |cons r t=>cases t;exact⟨_,rfl,r⟩
theorem Vals.two{x y:V}{us:List Value}(h:Vals [x,y] us):∃u v,us = [u,v]/\RelV x u/\RelV y v:=by
 cases h with
 |cons r t =>
  obtain⟨v,rfl,q⟩:=Vals.one t;exact⟨_,_,rfl,r,q⟩
theorem Vals.eraseIdx:∀{xs:List V} {us:List Value} (i:Nat),Vals xs us->Vals (xs.eraseIdx i) (us.eraseIdx i)
 |_,_,_,.nil=>.nil
 |_,_,0,.cons _ t=>t
 |_,_,i+1,.cons r t=>.cons r (Vals.eraseIdx i t)
theorem Vals.reverse{xs:List V}{us:List Value}(h:Vals xs us):Vals xs.reverse us.reverse:=by
 induction h with
 |nil=>exact .nil
 |cons r t ih=>rw[List.reverse_cons,List.reverse_cons];exact Vals.append ih (.cons r .nil)
theorem Ju{α:Type}:∀(l:List α) (i:Nat),(l.eraseIdx i).length<=l.length
 | [],_=>aO _
 |_::_,0=>nE _
 |_::r,i+1=>Nat.succ_le_succ (Ju r i)
section
variable {X:Cx} {pins:List (Addr × Obj)} {σ:St} {H:Hp} {s:Shared} {l b:Addr} {xs ys zs:List V}
theorem Inv.uv{its its':List Value}{n:Nat}{f:Array Value->Array Value}{t':Nat}(I:Inv X pins σ H s)(hH:H l=some (.lst xs))
  (e:s.heap.get? l=some {cls:=.type "list", data:=.seq its.toArray n}) (hf:f its.toArray=its'.toArray) (hv:Vals ys its') (hz:ys.length<=sizeLine) :
  Inv X pins σ (upd H l (.lst ys)) {s with heap:=s.heap.update l (Obj.mapSeq f),toks:=t'}:=by
 have q:=PySem.IsL.update e f;rw[hf]at q;refine I.write (x:=l) (e:=l) (by rw[hH];exact trivial) (.inl rfl) (λb' u hb hu=>(jf s.heap (Obj.mapSeq f) (cE hb)).trans hu) ⟨_,q⟩ ?_;exact⟨hz,its',_,hv,q⟩
theorem Inv.Jy{its:List Value}{t':Nat}(I:Inv X pins σ H s)(hv:Vals ys its)(hz:ys.length<=sizeLine):
  Inv X pins σ (upd H s.heap.objs.size (.lst ys)) {s with heap:=s.heap.push {cls:=.type "list", data:=.seq its.toArray},toks:=t'}:=
 I.laid (λ_ _ q=>aM _ q) (aO _) ⟨hz,its,0,hv,bR _ rfl⟩
theorem Inv.fresh(I:Inv X pins σ H s):H s.heap.objs.size=none:=I.hok.fresh (aO _)
theorem Inv.mH (I:Inv X pins σ H s) (hH:H l=some (.lst xs)):xs.length<=sizeLine/\∃(its:List Value) (n:Nat),Vals xs its/\xs.length=its.length/\s.heap.get? l=some {cls:=.type "list", data:=.seq its.toArray n}:=by
 obtain⟨z,its,n,r,e⟩:=I.hok l _ hH;exact⟨z,its,n,r,r.length,e⟩
theorem Va{n:Nat}(h:n<=sizeLine):Builtin.List.listTooLong n=false:=by
 unfold Builtin.List.listTooLong;exact bE (by omega)
end
section
variable {X:Cx}
noncomputable def Xq:V->List V->Hp->VK->Prop:=λx vs H Q=>∃l xs y,x = .ref l/\vs = [y]/\H l=some (.lst xs)/\xs.length<sizeLine/\Q .non (upd H l (.lst (xs++[y])))
theorem k_:r9 X "list.append" Xq:=by
 intro pins s σ H x vs v us Q I rx rv h;obtain⟨l,xs,y,rfl,rfl,hH,hz,q⟩:=h;cases rx;obtain⟨u,rfl,ru⟩:=rv.one;obtain⟨z,its,n,r,hl,e⟩:=I.mH hH;refine lR lQ ⟨_,e,rfl⟩ F.entry_list_append (F.args_list_append_2 _ _) (PySem.list_append l its.toArray n u (by rw[cD];omega)) ⟨e,?_⟩;refine⟨.non,_,I.uv (its':=its++[u]) hH e (by simp) (r.append (.cons ru .nil)) ?_,rfl,q⟩;rw[dD,List.length_singleton];omega
noncomputable def Xt:V->List V->Hp->VK->Prop:=λx vs H Q=>∃l b xs zs,x = .ref l/\vs = [.ref b]/\H l=some (.lst xs)/\H b=some (.lst zs)/\xs.length+zs.length<=sizeLine/\Q .non (upd H l (.lst (xs++zs)))
theorem JH:r9 X "list.extend" Xt:=by
 intro pins s σ H x vs v us Q I rx rv h;obtain⟨l,b,xs,zs,rfl,rfl,hH,hB,hz,q⟩:=h;cases rx;obtain⟨u,rfl,ru⟩:=rv.one;cases ru;obtain⟨z,its,n,r,hl,e⟩:=I.mH hH;obtain⟨z2,its2,n2,r2,hl2,e2⟩:=I.mH hB;have hsz:its.toArray.size+its2.toArray.size<=sizeLine:=by rw[cD,cD];omega
 have Sh:¬ (!its.toArray.isEmpty&&Builtin.List.listTooLong (its.toArray.size+its2.toArray.size))=true:=by
  rw[Va hsz,Eb];exact bY
 refine lR Fn ⟨_,e,rfl⟩ F.entry_list_extend (F.args_list_extend_2 _ _)
  (AutoSeq1.list_extend_list_list_0 l its.toArray n b its2.toArray n2 Sh (by rw[cD];omega) (by omega)) ⟨e,e2,?_⟩
 refine⟨.non,_,I.uv (its':=its++its2) hH e (by simp) (r.append r2) ?_,rfl,q⟩;rw[dD];omega
noncomputable def Xz:V->List V->Hp->VK->Prop:=λx vs H Q=>∃l xs i k y,x = .ref l/\vs = [.int i]/\H l=some (.lst xs)/\-(2 ^ 63)<=i/\i<2 ^ 63/\seqIndex? i xs.length=some k/\xs[k]?=some y/\Q y (upd H l (.lst (xs.eraseIdx k)))
theorem Uz:r9 X "list.pop" Xz:=by
 intro pins s σ H x vs v us Q I rx rv h;obtain⟨l,xs,i,k,y,rfl,rfl,hH,h1,h2,hk,hy,q⟩:=h;cases rx;obtain⟨u,rfl,ru⟩:=rv.one;obtain⟨t,rfl⟩:=ru;obtain⟨z,its,n,r,hl,e⟩:=I.mH hH;obtain⟨w,hw,mS⟩:=r.get hy;refine lR F.slot_list_pop ⟨_,e,rfl⟩ F.entry_list_pop (F.args_list_pop_2 _ _)
  (MeetsSeq.list_pop_at l its.toArray n i t k w (fitsIndex_both h1 h2) (by rw[cD,<- hl];exact hk) (by rw[<- pE];exact hw) (by rw[cD];omega)) ⟨e,?_⟩
 refine⟨y,_,I.uv (its':=its.eraseIdx k) hH e ?_ (r.eraseIdx k) ?_,mS,q⟩
 ·show its.toArray.eraseIdxIfInBounds k=(its.eraseIdx k).toArray
  rw[List.eraseIdxIfInBounds_toArray]
 ·have:=Ju xs k
  omega
noncomputable def Xr:R2:=λx y H Q=>∃l b xs zs,x = .ref l/\y = .ref b/\H l=some (.lst xs)/\H b=some (.lst zs)/\xs.length+zs.length<=sizeLine/\∀p,H p=none->Q (.ref p) (upd H p (.lst (xs++zs)))
theorem gu:bP X (binaryOp .Add) Xr:=by
 intro pins s σ H x y v u Q I rx ry h;obtain⟨l,b,xs,zs,rfl,rfl,hH,hB,hz,q⟩:=h;cases rx;cases ry;obtain⟨z,its,n,r,hl,e⟩:=I.mH hH;obtain⟨z2,its2,n2,r2,hl2,e2⟩:=I.mH hB;refine PySem.P.add_list e e2 ?_ (by rw[cD,cD];omega);have ea:its.toArray++its2.toArray=(its++its2).toArray:=by simp
 rw[ea];exact⟨.ref _,_,I.Jy (t':=s.toks) (r.append r2) (by rw[dD];omega),rfl,q _ I.fresh⟩
end
section
variable {prog:Program} {w:World} {A:Around} {E:Value->Shared->Prop} {s:Shared}
end
section
variable {X:Cx}
end
section
variable {κ:Type} [DecidableEq κ]
noncomputable def dc(kvs:List (κ × V))(k:κ):Option V:=(kvs.find? λkv=>decide (kv.1=k)).map (·.2)
noncomputable def putK(kvs:List (κ × V))(k:κ)(v:V):List (κ × V):=
 if(kvs.any λkv=>decide (kv.1=k))=true then kvs.map (λkv=>if kv.1=k then(kv.1,v)else kv)else kvs++[(k,v)]
theorem lD{p:κ × V}{r:List (κ × V)}{k:κ}(e:p.1=k):dc (p::r) k=some p.2:=by simp[dc,i_,e]
theorem j7{p:κ × V}{r:List (κ × V)}{k:κ}(e:¬ p.1=k):dc (p::r) k=dc r k:=by simp[dc,i_,e]
theorem DN(k:κ):∀kvs:List (κ × V),(kvs.any λkv=>decide (kv.1=k))=(dc kvs k).isSome
 | []=>rfl
 |p::r=>by
  rw[nq]
  by_cases e:p.1=k
  ·simp only[lD e,bK e,Bool.true_or,Option.isSome_some]
  ·rw[j7 e,bE e,Bool.false_or];exact DN k r
theorem N4(k j:κ)(y:V):∀kvs:List (κ × V),dc kvs k=none->dc (kvs++[(k,y)]) j=if j=k then some y else dc kvs j
 | [],_=>by
  by_cases e:k=j
  ·rw[az e.symm];exact lD (p:=(k,y)) e
  ·rw[au (λz=>e z.symm)];exact j7 (p:=(k,y)) e
 |p::r,hn=>by
  rw[rV];have hk:¬ p.1=k:=λz=>by rw[lD z]at hn;cases hn
  rw[j7 hk]at hn;have ih:=N4 k j y r hn
  by_cases e:p.1=j
  ·rw[lD e,lD e,au (λz=>hk (e.trans z))]
  ·rw[j7 e,j7 e,ih]
theorem Jv(kvs:List (κ × V))(k:κ)(v:V):(putK kvs k v).length<=kvs.length+1:=by
 unfold putK
 split
 ·rw[aB];omega
 ·rw[dD,dr,Em];omega
theorem Xm{kvs:List (κ × V)}{k:κ}(v:V)(h:dc kvs k=none):putK kvs k v=kvs++[(k,v)]:=by
 unfold putK;rw[DN,h];exact au (by decide)
theorem fD.Tw{o:Option V}{u:Option Value}(r:fD o u):o.isSome=u.isSome:=by
 cases o with
 |none=>cases u with
  |none=>rfl
  |some _=>exact(show False from r).elim
 |some _=>cases u with
  |none=>exact(show False from r).elim
  |some _=>rfl
theorem fD.getD{o:Option V}{u:Option Value}{d:V}{d':Value}(r:fD o u)(rd:RelV d d'):RelV (o.getD d) (u.getD d'):=by
 cases o with
 |none=>cases u with
  |none=>exact rd
  |some _=>exact(show False from r).elim
 |some _=>cases u with
  |none=>exact(show False from r).elim
  |some _=>exact r
theorem KV.val{kvs:List (κ × V)}{vs:List (κ × Value)}(r:KV kvs vs)(k:κ):fD (dc kvs k) (valueAt vs k):=by
 unfold KV at r
 induction r with
 |nil=>exact True.intro
 | @cons p q ps qs h t ih =>
  obtain⟨h1,h2⟩:=h
  by_cases e:p.1=k
  ·have e':q.1=k:=h1.symm.trans e
   have b:valueAt (q::qs) k=some q.2:=by simp[valueAt,i_,e']
   rw[lD e,b];exact h2
  ·have e':¬ q.1=k:=λz=>e (h1.trans z)
   have b:valueAt (q::qs) k=valueAt qs k:=by simp[valueAt,i_,e']
   rw[j7 e,b];exact ih
theorem KV.any{kvs:List (κ × V)}{vs:List (κ × Value)}(r:KV kvs vs)(k:κ):(kvs.any λkv=>decide (kv.1=k))=vs.any λkv=>decide (kv.1=k):=by
 unfold KV at r
 induction r with
 |nil=>rfl
 |cons h t ih=>rw[nq,nq,ih,h.1]
theorem KV.repl{kvs:List (κ × V)}{vs:List (κ × Value)}(r:KV kvs vs)(k:κ){y:V}{u:Value}(ry:RelV y u):
  KV (kvs.map λkv=>if kv.1=k then(kv.1,y)else kv) (vs.map λkv=>if kv.1=k then(kv.1,u)else kv):=by
 unfold KV at r ⊢
 induction r with
 |nil=>exact .nil
 | @cons p q ps qs h t ih =>
  rw[cI,cI];refine .cons ?_ ih;obtain⟨h1,h2⟩:=h
  by_cases e:p.1=k
  ·rw[az e,az (h1.symm.trans e)];exact⟨h1,ry⟩
  ·rw[au e,au (λz=>e (h1.trans z))];exact⟨h1,h2⟩
theorem KV.put{kvs:List (κ × V)}{vs:List (κ × Value)}(r:KV kvs vs)(k:κ){y:V}{u:Value}(ry:RelV y u):KV (putK kvs k y) (stored vs k u):=by
 unfold putK stored;rw[r.any k]
 by_cases e:(vs.any λkv=>decide (kv.1=k))=true
 ·rw[az e,az e];exact r.repl k ry
 ·rw[au e,au e];exact Paired.snoc r ⟨rfl,ry⟩
theorem KV.length{kvs:List (κ × V)}{vs:List (κ × Value)}(r:KV kvs vs):kvs.length=vs.length:=cV r
end
theorem z6{P:Program}{w:World}{k:Key}{u:Value}(r:RelV (kV k) u):(fq P w).is k u=true:=by
 cases k with
 |inl i=>obtain⟨t,e⟩:=(show ∃t,u=Value.int i t from r);subst e;exact Uv P w i t
 |inr x=>obtain⟨t,e⟩:=(show ∃t,u=Value.str x t from r);subst e;exact Uw P w x t
theorem TL{P:Program}{w:World}{k:Key}{v:V}{u:Value}(q:Jk k v)(r:RelV v u):(fq P w).is k u=true:=by
 rcases q with e|⟨b,e,ek⟩
 ·subst e;exact z6 r
 ·subst e;subst ek;cases(show u=Value.bool b from r);exact TX b
theorem Je{P:Program}{w:World}:∀{ks:List Key} {ws:List V} {us:List Value},z7 ks ws->Vals ws us->ItemsAre (fq P w) ks us
 |_,_,_,.nil,.nil=>.nil
 |_,_,_,.cons q t,.cons h t'=>.cons (TL q h) (Je t t')
abbrev KT (H:Hp):List (List Key × V)->List (List Key × Addr × Value)->Prop:=Paired λp q=>p.1=q.1/\jN H q.2.1 p.1/\RelV p.2 q.2.2
theorem KT.val{H:Hp}{kvs:List (List Key × V)}{xs:List (List Key × Addr × Value)}(r:KT H kvs xs)(k:List Key):fD (dc kvs k) ((atKey xs k).map (·.2)):=by
 induction r with
 |nil=>exact True.intro
 | @cons p q ps qs h t ih =>
  obtain⟨h1,_,h2⟩:=h
  by_cases e:p.1=k
  ·have e':q.1=k:=h1.symm.trans e
   have b:atKey (q::qs) k=some q.2:=by simp[atKey,i_,e']
   rw[lD e,b];exact h2
  ·have e':¬ q.1=k:=λz=>e (h1.trans z)
   have b:atKey (q::qs) k=atKey qs k:=by simp[atKey,i_,e']
   rw[j7 e,b];exact ih
theorem KT.repl{H:Hp}{kvs:List (List Key × V)}{xs:List (List Key × Addr × Value)}(r:KT H kvs xs)(k:List Key){y:V}{u:Value}(ry:RelV y u):
  KT H (kvs.map λkv=>if kv.1=k then(kv.1,y)else kv) (xs.map (putAt k u)):=by
 induction r with
 |nil=>exact .nil
 | @cons p q ps qs h t ih =>
  rw[cI,cI];refine .cons ?_ ih;obtain⟨h1,h2,h3⟩:=h;unfold putAt
  by_cases e:p.1=k
  ·rw[az e,az (h1.symm.trans e)];exact⟨h1,h2,ry⟩
  ·rw[au e,au (λz=>e (h1.trans z))];exact⟨h1,h2,h3⟩
theorem KT.put{H:Hp}{kvs:List (List Key × V)}{xs:List (List Key × Addr × Value)}(r:KT H kvs xs)(k:List Key){b:Addr}{y:V}{u:Value}(hb:jN H b k)(ry:RelV y u):KT H (putK kvs k y) (storedH xs k b u):=by
 have e:(kvs.any λkv=>decide (kv.1=k))=(atKey xs k).isSome:=by
  rw[DN,(r.val k).Tw,Option.isSome_map]
 unfold putK storedH;rw[e]
 by_cases q:(atKey xs k).isSome=true
 ·rw[az q,az q];exact r.repl k ry
 ·rw[au q,au q];exact Paired.snoc r ⟨rfl,hb,ry⟩
theorem KT.keeps{H H':Hp}{kvs:List (List Key × V)}{xs:List (List Key × Addr × Value)}(r:KT H kvs xs)(ht:∀b ys,H b=some (.tup ys)->H' b=some (.tup ys)):KT H' kvs xs:=
 Paired.c5 r λ_ _ z=>⟨z.1,(let⟨ws,k1,k2⟩:=z.2.1;⟨ws,k1,ht _ _ k2⟩),z.2.2⟩
section
variable {P:Program} {w:World} {H:Hp} {h:Heap} {a:Addr}
theorem K6{u:HO}(ok:bI P w H h)(e:Rd H a u):bG P w H h a u:=e.ok ok
theorem yt{kvs:List (Key × V)}(ok:bI P w H h)(e:Rd H a (.dK kvs)):kvs.length<=sizeLine/\(a==sysModules)=false/\∃vs,KV kvs vs/\h.DictOf (fq P w) a vs:=
 show bG P w H h a (.dK kvs)from K6 ok e
theorem Qo{kvs:List (Key × V)}(ok:bI P w H h)(e:H a=some (.dK kvs)):kvs.length<=sizeLine/\(a==sysModules)=false/\∃vs,KV kvs vs/\h.DictOf (fq P w) a vs:=yt ok (.inl e)
theorem z_{ks:List Key}(ok:bI P w H h)(e:jN H a ks):(tupleKind (fq P w)).is h ks a:=by
 obtain⟨ws,q,e⟩:=e;obtain⟨_,its,r,⟨o,h1,h2,n,h3⟩,_⟩:=(show bG P w H h a (.tup ws)from ok a _ e);exact⟨o,its.toArray,n,h1,h2,h3,by simpa using Je q r⟩
theorem yv{kvs:List (List Key × V)}(ok:bI P w H h)(e:Rd H a (.dT kvs)):kvs.length<=sizeLine/\(a==sysModules)=false/\∃xs,KT H kvs xs/\h.DictOfH (tupleKind (fq P w)) a xs:=by
 obtain⟨z,y,xs,r,o,es,ep,h1,h2,h3,h4,h5⟩:=(show bG P w H h a (.dT kvs)from K6 ok e);refine⟨z,y,xs,r,o,es,ep,h1,h2,h3,h4,λx hx=>?_,h5⟩;have all:∀{l:List (List Key × V)} {m:List (List Key × Addr × Value)},KT H l m->∀x∈m,(tupleKind (fq P w)).is h x.1 x.2.1:=by
  intro l m q
  induction q with
  |nil=>intro x hx;exact nomatch hx
  | @cons p q ps qs hq t ih =>
   intro x hx
   rcases bu.mp hx with e|hx
   ·subst e
    exact z_ ok (by rw[<- hq.1];exact hq.2.1)
   ·exact ih x hx
 exact all r x hx
theorem Qt{kvs:List (List Key × V)}(ok:bI P w H h)(e:H a=some (.dT kvs)):kvs.length<=sizeLine/\(a==sysModules)=false/\∃xs,KT H kvs xs/\h.DictOfH (tupleKind (fq P w)) a xs:=yv ok (.inl e)
end
noncomputable def pH(H:Hp)(a:Addr)(y:V)(r:Option V):Prop:=
 (∃kvs k,Rd H a (.dK kvs)/\y=kV k/\r=dc kvs k)\/∃kvs k b,Rd H a (.dT kvs)/\y = .ref b/\jN H b k/\r=dc kvs k
noncomputable def pI(H:Hp)(a:Addr)(y v:V)(H':Hp):Prop:=
 (∃kvs k,H a=some (.dK kvs)/\y=kV k/\kvs.length<sizeLine/\H'=upd H a (.dK (putK kvs k v))) \/
 ∃kvs k b,H a=some (.dT kvs)/\y = .ref b/\jN H b k/\kvs.length<sizeLine/\H'=upd H a (.dT (putK kvs k v))
theorem pH.t{H:Hp}{a b:Addr}{kvs:List (List Key × V)}{k:List Key}(e:H a=some (.dT kvs))(eb:jN H b k):pH H a (.ref b) (dc kvs k):=.inr ⟨kvs,k,b,.inl e,rfl,eb,rfl⟩
theorem pI.t{H:Hp}{a b:Addr}{kvs:List (List Key × V)}{k:List Key}{v:V}(e:H a=some (.dT kvs))(eb:jN H b k)(hl:kvs.length<sizeLine):pI H a (.ref b) v (upd H a (.dT (putK kvs k v))):=.inr ⟨kvs,k,b,e,rfl,eb,hl,rfl⟩
section
variable {X:Cx} {pins:List (Addr × Obj)} {σ:St} {H:Hp} {s:Shared} {a:Addr} {y v:V} {u r:Value} {o:Option V} {A:Around} {E:Value->Shared->Prop}
theorem Inv.big(I:Inv X pins σ H s):sysModules<s.heap.objs.size:=by
 have h:mainGlobals<s.heap.objs.size:=(I.mod.glob.keeps I.bk).lt;exact se (by decide) h
theorem GD{h':Heap}{t':Nat}{ob:HO}(I:Inv X pins σ H s)(mu:pU (H a))(hs:Heap.SameBut a s.heap h')(he:∃q,h'.get? a=some q)(new:bG X.prog X.w (upd H a ob) h' a ob):
  Inv X pins σ (upd H a ob) {s with heap:=h',toks:=t'}:=
 I.write (x:=a) (e:=a) mu (.inl rfl) (λb q hb z=>(hs.2 b hb).trans z) he new
theorem Qn{P:Program}{w:World}{H':Hp}{h':Heap}{kvs:List (Key × V)}{vs:List (Key × Value)}(z:kvs.length<=sizeLine)(hd:(a==sysModules)=false)(rel:KV kvs vs)(dd:h'.DictOf (fq P w) a vs):bG P w H' h' a (.dK kvs):=⟨z,hd,vs,rel,dd⟩
theorem Qj{H':Hp}{Q:Unit->Shared->Prop}(hu:A.units+1<cLine)(I:Inv X pins σ H s)(g:pI H a y v H')(ry:RelV y u)(rv:RelV v r)(h:∀s',Inv X pins σ H' s'->Q () s'):wpAny (model X.prog X.w) A (setItem (.ref a) u r) Q E s:=by
 rcases g with⟨kvs,k,e,ey,l,eH⟩|⟨kvs,k,b,e,ey,eb,l,eH⟩
 ·subst ey eH
  obtain⟨z,hd,vs,rel,dd⟩:=Qo I.hok e;have hz:vs.length<=sizeLine:=by rw[<- rel.length];exact z
  have hl:(putK kvs k v).length<=sizeLine:=by have:=Jv kvs k v;omega
  refine wpAny_setItem_pairs (hsz:=hz) (z6 ry) dd λh' qj hs=>h _ ?_;have he:∃q,h'.get? a=some q:=let⟨q,_,_,hq,_⟩:=qj;⟨q,hq⟩
  exact GD I (by rw[e];exact True.intro) hs he (Qn hl hd (rel.put k rv) qj)
 ·subst ey eH
  cases(show u=Value.ref b from ry);obtain⟨z,hd,xs,rel,dd⟩:=Qt I.hok e;have hz:xs.length<=sizeLine:=by rw[<- cV rel];exact z
  have hl:(putK kvs k v).length<=sizeLine:=by have:=Jv kvs k v;omega
  refine wpAny_setItem_heap (hsz:=hz) (tupleKind_room_in1 hu) (z_ I.hok eb) dd λh' qj hs=>h _ ?_;obtain⟨q,es,ep,hq,h2,h3,h4,_,h5⟩:=qj;refine GD I (by rw[e];exact True.intro) hs ⟨q,hq⟩ ⟨hl,hd,_,(rel.put k eb rv).keeps λc ys ec=>?_,q,es,ep,hq,h2,h3,h4,h5⟩;rw[aA (mL ec e (λz=>nomatch z))];exact ec
end
section
variable {X:Cx} {pins:List (Addr × Obj)} {σ:St} {H:Hp} {s:Shared} {a:Addr} {kvs:List (Key × V)} {k:Key} {u:Value} {A:Around} {E:Value->Shared->Prop}
end
noncomputable def Ya(td ty tv:TE):TS:=λD σ H=>tv σ H λv H1=>td σ H1 λx H2=>ty σ H2 λy H3=>∃a H4,x = .ref a/\pI H3 a y v H4/\D.nx σ H4
section
variable {X:Cx} {o i e value:Expr} {pos pos' tpos:Pos} {td ty tv:TE}
theorem Xg(hu:X.A.units+1<cLine)(ho:PE X o td)(hi:PE X i ty)(hv:PE X value tv)(hs:swapsWith value (some (.Subscript o i pos')) pos.line X.env=pure false):PS X (.Assign [.Subscript o i pos'] value pos) (Ya td ty tv):=by
 intro pins s σ H D I h;refine wpAny_Assign_Subscript (aG (hv pins s σ H _ I h) λr s1 ⟨v,H1,I1,rv,q1⟩=>aG (ho pins s1 σ H1 _ I1 q1) λu s2 ⟨x,H2,I2,rx,q2⟩=>aG (hi pins s2 σ H2 _ I2 q2) λiv s3 ⟨y,H3,I3,ry,a,H4,ex,g,q3⟩=>?_) hs;subst ex;obtain rfl:u=Value.ref a:=rx;exact Qj hu I3 g ry rv λs4 I4=>⟨σ,H4,I4,q3⟩
end
theorem Qs {P:Program} {w:World} {H:Hp} (h:Heap) (hb:sysModules<h.objs.size):bG P w H (h.push {cls:=.type "dict", data:=.dict #[]}) h.objs.size (.dT []):=
 ⟨eK _,lW.mpr (cE (bO hb)),[],.nil,_,#[],0,bR _ rfl,⟨rfl,rfl,rfl⟩,rfl,rfl,List.nodup_nil⟩
noncomputable def YK:TE:=λ_ H Q=>∀p,H p=none->Q (.ref p) (upd H p (.dT []))
section
variable {X:Cx} {pos:Pos}
theorem W5:PE X (.Dict [] [] pos) YK:=λpins s σ H Q I h =>
 wpAny_Dict_empty ⟨.ref s.heap.objs.size,_,I.laid (a:=s.heap.objs.size) (o:=.dT []) (t':=s.toks) (λ_ _ q=>aM _ q) (aO _) (Qs s.heap I.big),rfl,h _ (I.hok.fresh (aO _))⟩
end
structure M1 (X:Cx) (o:Expr) (m:Str) (apos:Pos) (e:Expr) (cpos:Pos):Prop where
 base:attributeBase o m X.env (eval o X.env)=eval o X.env
 few:((backTo cpos (starEach [e] X.env)).all (λx=>!x.1)&&(backToKw cpos (keywordEach [] X.env)).all (λx=>x.1.isSome)
  && decide (([e]:List Expr).length+([]:List Keyword).length+(if([]:List Keyword).isEmpty then 0 else 1)<30))=true
 line:(apos.endLine==cpos.line)=true
 trees:backTo cpos (starEach [e] X.env) = [(false,eval e X.env)]
noncomputable def Eg(H:Hp)(a:Addr):Prop:=(∃kvs,Rd H a (.dK kvs))\/∃kvs,Rd H a (.dT kvs)
theorem Tv{X:Cx}{pins:List (Addr × Obj)}{σ:St}{H:Hp}{s:Shared}{a:Addr}(I:Inv X pins σ H s)(d:Eg H a):
  s.TypeIs (.ref a) "dict" /\ (∀b,Value.ref a = .ref b->∃ob,s.heap.get? b=some ob/\ob.dict=none)/\(a==sysModules)=false:=by
 rcases d with⟨kvs,e⟩|⟨kvs,e⟩
 ·obtain⟨_,hd,vs,_,dd⟩:=yt I.hok e
  refine⟨dd.typeIs,λb q=>?_,hd⟩;cases q;obtain⟨ob,_,_,h1,h2,_⟩:=dd;exact⟨ob,h1,h2.2.1⟩
 ·obtain⟨_,hd,xs,_,dd⟩:=yv I.hok e
  refine⟨dd.typeIs,λb q=>?_,hd⟩;cases q;obtain⟨ob,_,_,h1,h2,_⟩:=dd;exact⟨ob,h1,h2.2.1⟩
section
variable {X:Cx} {pins:List (Addr × Obj)} {σ:St} {H:Hp} {s:Shared} {a:Addr} {y d:V} {u r:Value} {o:Option V} {A:Around} {E:Value->Shared->Prop}
theorem Qi{Q:Value->Shared->Prop}(hu:A.units+1<cLine)(I:Inv X pins σ H s)(g:pH H a y o)(ry:RelV y u)(h:∀w' s',Inv X pins σ H s'->RelV (o.getD .non) w'->Q w' s'):
  wpAny (model X.prog X.w) A (call (.builtin "dict.get") [.ref a,u]) Q E s:=by
 rcases g with⟨kvs,k,e,ey,l⟩|⟨kvs,k,b,e,ey,eb,l⟩
 ·subst ey
  obtain⟨z,hd,vs,rel,dd⟩:=yt I.hok e;refine call_meetsIn Fm dd.typeIs O6 (O4 _ _) (meets_dict_get (fq X.prog X.w) a (z6 ry) hd) ⟨_,dd.mapOf,h _ _ (I.tok _) ?_⟩;rw[l];exact(rel.val k).getD rfl
 ·subst ey
  cases(show u=Value.ref b from ry);obtain⟨z,hd,xs,rel,dd⟩:=yv I.hok e;refine call_meetsIn Fm dd.typeIs O6 (O4 _ _) (meetsH_dict_get (tupleKind (fq X.prog X.w)) a b hd) ⟨tupleKind_room_in1 hu,k,xs,z_ I.hok eb,dd,h _ _ (I.tok _) ?_⟩;rw[l];exact(rel.val k).getD rfl
end
noncomputable def YJ(td ty:TE):TE:=λσ H Q=>td σ H λx H1=>∃a,x = .ref a/\Eg H1 a/\ty σ H1 λy H2=>∃o,pH H2 a y o/\Q (o.getD .non) H2
section
variable {X:Cx} {o e f:Expr} {apos cpos:Pos} {td ty tx:TE}
theorem W3 (hu:X.A.units+1<cLine) (ho:PE X o td) (he:PE X e ty) (m:M1 X o "get" apos e cpos):PE X (.Call (.Attribute o "get" apos) [e] [] cpos) (YJ td ty):=by
 intro pins s σ H Q I h;refine wpAny_Call_method m.base m.few m.line PySem.F.plainAttrs_dict Fm PySem.F.type_dict_get (aG (ho pins s σ H _ I h) λu s1 ⟨x,H1,I1,rx,a,ex,d,q1⟩=>?_);subst ex;obtain rfl:u=Value.ref a:=rx;obtain⟨t1,t2,_⟩:=Tv I1 d;refine⟨t1,t2,?_⟩;rw[m.trees];refine Fh rfl (sm (Calls.spliced_cons (aG (he pins s1 σ H1 _ I1 q1) λiv s2 ⟨y,H2,I2,ry,ov,g,q2⟩=>Calls.spliced_nil ?_)));exact Qi hu I2 g ry λw' s3 I3 mS=>⟨_,H2,I3,mS,q2⟩
end
section
variable {X:Cx} {pins:List (Addr × Obj)} {σ:St} {H:Hp} {s:Shared} {a:Addr} {kvs:List (Key × V)} {A:Around} {E:Value->Shared->Prop}
end
section
variable {X:Cx} {pins:List (Addr × Obj)} {σ:St} {H:Hp} {s:Shared} {a:Addr} {y:V} {u:Value} {A:Around} {E:Value->Shared->Prop}
end
end L2
namespace D_
open PySem PySem.W PySem.Calls PyProof.Rows
theorem Tq{P:Params}{h:Heap}:∀(ns:List Int) (vs:List Value),WellAll P h vs (ns.map WData.int)->IntsAre vs ns:=by
 intro ns
 induction ns with
 |nil =>
  intro vs w;rw[En]at w;cases w;exact .nil
 |cons n ns ih =>
  intro vs w;rw[cI]at w;cases w with
  |cons a b =>
   cases a;exact .cons _ _ (ih _ b)
theorem Yd{l:OpenLaw}{n:Nat}(hn:l.most=some n){P:Params}{h:Heap}{args:List WData}{vals:List Value}(hpre:l.row.toRowW.claim.pre args=true)(hwl:WellAll P h vals args):
  ∃a vs ns,vals = [Value.ref a]/\args = [WData.list (ns.map WData.int)]/\h.get? a=some {cls:=.type "list", data:=.seq vs.toArray}/\IntsAre vs ns/\ns.length<=n:=by
 have hsh:WShape.hasAll [] args [.list .int]=true:=(pre_splitW hpre).1;have hc:l.pre.holds [] {args:=args}=true:=(pre_splitW hpre).2;obtain⟨d,r,rfl,h1,h2⟩:=hasAllW_cons hsh;obtain rfl:=hasAllW_nil h2;obtain⟨xs,rfl,h3⟩:=hasW_list h1;obtain⟨ns,rfl⟩:=items_int h3;have hlen:ns.length<=n:=by
  unfold OpenLaw.pre at hc;have h4:(WTm.not (.lt (.lit (.int (n:Int))) (.len (.arg 0)))).holds [] {args:=[.list (ns.map .int)]}=true:=by
   have h4:=(holds_andW hc).1;rw[hn]at h4;exact h4
  have h5:=condW_of h4 (w_not (w_lt w_lit (w_len_list (w_arg rfl))));rw[aB]at h5;refine Ex λq=>?_;have q':(n:Int)<((ns.length:Nat):Int):=by omega
  first
   | (rw[bK q']at h5;exact absurd h5 (by decide))
   | (simp at h5;omega)
 cases hwl with
 |cons w1 w2 =>
  cases w2;cases w1 with
  |list ho hall=>exact⟨_,_,ns,rfl,rfl,ho,Tq ns _ hall,hlen⟩
theorem Xf(l:OpenLaw)(args:List WData):l.row.toRowW.claim.post args (.bool true) args=true:=
 postW_of (r:=l.row.toRowW) (X:=(true==true))
  (show WShape.has [] (.bool true) .bool=true by first|rfl|decide|simp[WShape.has,WShape.arms,WShape.armsAll])
  (show(WTm.eq .res (.lit (.bool true))).value [] {args:=args,res:=some (.bool true),after:=args}=some (.bool (true==true))from w_eq_bool (w_res rfl) w_lit) rfl
theorem Pt{l:OpenLaw}{n:Nat}{q:Program}{loose:List Str}{XP:(Str->Option Value)->Heap->Prop}{YP:World->Heap->Prop}{d:DefRec}(hn:l.most=some n)(hdf:d.params.defaults = [])
  (call:∀(w:World) (s₀ s₁:Shared) (mg mb:Str->Option Value) (fa:Addr) (o:Obj) (pm cd doc:Value) (a:Addr) (vs:List Value) (ns:List Int),
   Ground q loose [] XP w s₀ mg mb s₁.heap->YP w s₁.heap ->
   s₁.heap.get? fa=some o->o.data = .func (docDef d.name d.params d.body d.scope pm cd doc)->s₁.heap.CodeRec cd d.name->mg d.name=some (.ref fa) ->
   s₁.heap.get? a=some {cls:=.type "list", data:=.seq vs.toArray}->IntsAre vs ns->ns.length<=n->s₁.gens = #[] ->
   codeAny (model l.prog w) callerA (.call (.ref fa) ⟨[.ref a],[]⟩) (λr s'=>r = .ok (.ret (.bool true))/\OldK s₁.heap s'.heap/\s'.os=s₁.os/\AllBare s'.gens) s₁) :
  WalkO q loose XP YP l.row.toRowW d [] (λf vs=>PySem.call f vs):=by
 intro w s₀ s₁ mg mb G Y fa o pm cd doc dV kV ho hd hcd hD hmg hg args vals as hpre hlay hrd hwl hlo;obtain rfl:dV = .none:=Dflts.none hD hdf;obtain rfl:kV = .none:=Dflts.noKw hD;obtain⟨a,vs,ns,rfl,rfl,hobj,hints,hlen⟩:=Yd hn hpre hwl;refine enter_call (jL (call w s₀ s₁ mg mb fa o pm cd doc a vs ns G Y ho (fd_plain hd) hcd hmg hobj hints hlen hg) λr s' hq=>?_);obtain⟨rfl,h2,h3,h4⟩:=hq;exact⟨.inl ⟨.bool true,.bool true,[],rfl,λ_=>rfl,.bool true,Xf l _,λ_=>⟨List.Pairwise.nil,λ_ hm=>(nomatch hm)⟩⟩,h2,h3,h4⟩
section
variable {prog:Program} {w:World} {A:Around} {E:Value->Shared->Prop} {s:Shared} {K:Frag}
end
end D_
namespace L2
open PySem PySem.Spec PyProof.Rows
theorem DP:∀{vs:List Value} {ns:List Int},IntsAre vs ns->Vals (ns.map V.int) vs
 |_,_,.nil=>.nil
 |_,_,.cons n t h=>.cons ⟨t,rfl⟩ (DP h)
noncomputable def Only(H:Hp):Prop:=∀b,H b=none\/∃o xs,H b=some (.d4 o (.lst xs))
theorem T7{P:Program}{w:World}{K:W.Frag}{mg mb:Str->Option Value}{CX:fQ}{k:Nat}{fa a:Addr}{fd:FuncData}{x:Str}{sp:Sp}{s₁:Shared}{vs:List Value}{ns:List Int}
  (KX:K.In s₁.heap) (hns:s₁.heap.Ns mainGlobals mg) (hb:s₁.heap.Ns builtinsNs mb) (hbb:∀x:Str,x ≠ "__name__" -> mb x=bootBuiltins x) (hlim:s₁.heap.NoLimit) (hg:s₁.gens = #[])
  (ha:s₁.heap.get? a=some {cls:=.type "list", data:=.seq vs.toArray}) (hi:IntsAre vs ns) (hl:ns.length<=sizeLine) (hr:bS k callerA)
  (F:∀base:Heap,K.In base->base.Ns mainGlobals mg->aN P w K mg base CX k fa fd [x] sp) (hbind:∀(s:Shared) (u:Value),BindsTo s fd ⟨[u],[]⟩ [(x,u)])
  (hsp:∀H:Hp,Only H->ai K H a (ns.map V.int)->sp [.ref a] H (λv _=>v = .bl true) λ_ _ _=>False)
  (zD:∀H e s',CX [] H s₁ (λ_ _ _=>False) e s'->False) :
  codeAny (model P w) callerA (.call (.ref fa) ⟨[.ref a],[]⟩) (λr s'=>r = .ok (.ret (.bool true))/\OldK s₁.heap s'.heap/\s'.os=s₁.os/\AllBare s'.gens) s₁:=by
 have rv:=DP hi;have lenV:=hi.length;have core:∀H:Hp,Only H->ai K H a (ns.map V.int)->bI P w H s₁.heap->(∀b,H b≠none->b=a)->(H a≠none->K.lookup a=none) ->
   codeAny (model P w) callerA (.call (.ref fa) ⟨[.ref a],[]⟩) (λr s'=>r = .ok (.ret (.bool true))/\OldK s₁.heap s'.heap/\s'.os=s₁.os/\AllBare s'.gens) s₁:=by
  intro H hO hS hok hA hK;have FV:∀{b:Addr} {o:Obj},s₁.heap.get? b=some o->H b=none->(jU s₁.heap H).get? b=some o:=λe n=>Sd e n;have qI:∀{b:Addr} {o:Obj} {es:Array DictEntry} {ep:Nat},s₁.heap.get? b=some o->o.data = .dict es ep->H b=none:=λ{b o es ep} e d=>by
   cases q:H b with
   |none=>rfl
   |some u =>
    have e':b=a:=hA b (by rw[q];simp);subst e';rw[ha]at e;cases e;have d':Data.seq vs.toArray _=Data.dict es ep:=d;cases d'
  have uH:∀{b:Addr} {m:Str->Option Value},s₁.heap.Ns b m->(jU s₁.heap H).Ns b m:=λ{b m} ⟨o,es,ep,e,d,r⟩=>⟨o,es,ep,FV e (qI e d),d,r⟩;have Hw:K.In (jU s₁.heap H):=λb o e=>FV (KX b o e) (by
   cases q:H b with
   |none=>rfl
   |some u =>
    have e':b=a:=hA b (by rw[q];simp);subst e';rw[hK (by rw[q];simp)]at e;cases e)
  have hM:Mod K mg (jU s₁.heap H):=⟨Hw,uH hns,⟨mb,uH hb,hbb⟩,let⟨mc,h1,h2⟩:=hlim;⟨mc,uH h1,h2⟩⟩;have e0:lJ P w K mg (jU s₁.heap H) callerA [] s₁ H:=⟨rfl,hM,λb o e=>Vl e,wI (Se _ _),trivial,λb hb=>absurd (show b∈([]:List Addr)from hb) (by simp),hok,.of_eq hg⟩;refine jL ((F _ Hw (uH hns)).run callerA [] s₁ H ⟨[.ref a],[]⟩ [.ref a] [.ref a] _ _ hr e0 (hbind s₁ (.ref a)) (.cons rfl .nil) (hsp H hO hS)) λr s' h=>?_;cases r with
  |error e=>exact(zD H e s' h).elim
  |ok fl =>
   cases fl with
   |next=>exact False.elim h
   |brk=>exact False.elim h
   |cont=>exact False.elim h
   |ret u =>
    obtain⟨v,H',os,bare,un,hok',r',q⟩:=h;have q':v = .bl true:=q;subst q';obtain rfl:u=Value.bool true:=r';refine⟨rfl,OldK.of_keep λb o e=>?_,os,bare⟩;cases q:H b with
    |none=>exact un.keep b o e q (by intro z;exact absurd (show b∈([]:List Addr)from z) (by simp)) (by simp)
    |some u =>
     rcases hO b with z|⟨ob,xs,z⟩
     ·rw[q]at z;cases z
     ·have z2:=un.eS b ob _ z
      obtain⟨e1,_⟩:=hok b _ z;obtain⟨e2,_⟩:=hok' b _ z2;rw[e]at e1;cases e1;exact e2
 cases hk:K.lookup a with
 |some o =>
  have e:=KX a o hk;rw[ha]at e;cases e;refine core (λ_=>none) (λ_=>.inl rfl) (.inr ⟨_,vs.toArray,_,hk,rfl,rfl,rfl,by rw[cD,lenV];exact hl,by simpa using rv⟩) (λb u z=>by have z':(none:Option HO)=some u:=z;cases z') (λb z=>absurd rfl z) λz=>absurd rfl z
 |none =>
  refine core (λb=>if b=a then some (.d4 {cls:=.type "list", data:=.seq vs.toArray} (.lst (ns.map V.int)))else none) (λb=>?_) (.inl (.inr ⟨{cls:=.type "list", data:=.seq vs.toArray},az rfl⟩)) (λb u z=>?_) (λb z=>?_) λ_=>hk
  ·by_cases hb:b=a
   ·exact .inr ⟨_,_,az hb⟩
   ·exact .inl (au hb)
  ·by_cases hb:b=a
   ·have z':=(az hb).symm.trans z
    cases z';subst hb;exact⟨ha,by rw[aB];exact hl,vs,_,rv,ha⟩
   ·have z':=(au hb).symm.trans z
    cases z'
  ·by_cases hb:b=a
   ·exact hb
   ·exact absurd (au hb) z
theorem Zu{l:W.OpenLaw}{n k:Nat}{q:Program}{loose:List Str}{XP:(Str->Option Value)->Heap->Prop}{YP:World->Heap->Prop}{d:DefRec}{K:Params->W.Frag}{CX:World->fQ}{sp:World->Sp}{x:Str}(hn:l.most=some n)(hn2:n<=sizeLine)(hdf:d.params.defaults = [])(hr:bS k callerA)(hY:∀(w:World) (h:Heap),YP w h->(K w.params).In h)(F:∀(w:World) (mg:Str->Option Value) (fa:Addr) (h:Heap),(K w.params).In h->h.Ns mainGlobals mg->mg d.name=some (.ref fa)->∃fd:FuncData,(∀(s:Shared) (u:Value),BindsTo s fd ⟨[u],[]⟩ [(x,u)])/\∀base:Heap,(K w.params).In base->base.Ns mainGlobals mg->aN l.prog w (K w.params) mg base (CX w) k fa fd [x] (sp w))(hsp:∀(w:World) (H:Hp) (a:Addr) (ns:List Int),ns.length<=n->Only H->ai (K w.params) H a (ns.map V.int)->sp w [.ref a] H (λv _=>v = .bl true) λ_ _ _=>False)(zD:∀(w:World) (H:Hp) (s:Shared) (e:Value) (s':Shared),CX w [] H s (λ_ _ _=>False) e s'->False):W.WalkO q loose XP YP l.row.toRowW d [] (λf vs=>PySem.call f vs):=by
 refine D_.Pt hn hdf λw s₀ s₁ mg mb fa o pm cd doc a vs ns G Y ho hd hcd hmg hobj hints hlen hg=>?_;have KX:=hY w _ Y;obtain⟨fd,hb,hF⟩:=F w mg fa _ KX G.T.g hmg;exact T7 KX G.T.g G.T.b G.T.builtins G.T.nolimit hg hobj hints (bN hlen hn2) hr hF hb (λH hO hS=>hsp w H a ns hlen hO hS) λH e s'=>zD w H s₁ e s'
noncomputable def inClass(s:Stmt)(j:Nat):Stmt:=match s with
 |.ClassDef _ _ _ body _ _ _ _ _ _ _=>body.getD j (.Pass ⟨0,0,0,0⟩)
 |_=>.Pass ⟨0,0,0,0⟩
noncomputable def iI(s:Stmt):Arguments:=match s with
 |.FunctionDef _ a _ _ _ _ _ _ _ _=>a
 |_=>{posonlyargs:=[],args:=[],vararg:=none,kwonlyargs:=[],kw_defaults:=[],kwarg:=none,defaults:=[]}
noncomputable def f9(s:Stmt):List Stmt:=match s with
 |.FunctionDef _ _ b _ _ _ _ _ _ _=>b
 |_=>[]
noncomputable def ay(s:Stmt):Scope:=match s with
 |.FunctionDef _ _ _ _ _ _ sc _ _ _=>sc
 |_=>{kind:=.function,names:=[],isGenerator:=false,isCoroutine:=false}
abbrev bf:fQ:=λ_ _ _ _ _ _=>False
abbrev E0:XK:=λ_ _ _=>False
theorem WT{X:Cx}:Passes bf X E0:=λ_ _ _ _ _ _ _ h=>h.elim
structure aT (K:W.Frag) (x qual:Str) (st:Stmt) (f:Addr) (fd:FuncData):Prop where
 ex:∃(oc:Value) (od:Option Addr) (kV doc pm:Value) (an:Option Addr) (cdv ct:Value) (osl:Array (Option Value)),
  fd=W.fnOf x qual (iI st) (f9 st) (ay st) .none kV doc pm an cdv ct/\K.lookup f=some ⟨oc,od,.func fd,osl⟩/\W.codeIn K cdv qual=true
 kp:W.keepIn K (.ref f)=true
section
variable {P:Program} {w:World} {K:W.Frag} {mg:Str->Option Value} {base:Heap}
theorem aT.ok{x qual:Str}{st:Stmt}{f:Addr}{fd:FuncData}{N ps:List Str}{k:Nat}{sp:Sp}(F:aT K x qual st f fd)(S:bh N ps (ay st))(len:∀vs H Q E,sp vs H Q E->vs.length=ps.length)(hbody:∀(cdv:Value) (A:Around) (outer:List Env) (s:Shared) (H:Hp) (vs:List V) (Q:VK) (E:XK),bS k (A.deeper (envOfC qual (ay st) s.heap.objs.size f cdv))->sp vs H Q E->∃t,dE (bU bf P w K mg base N qual (ay st) f cdv A outer s H E).uG (f9 st) t/\t {nx:=λ_ H'=>Q .non H',rt:=Q} (start N vs) H):aN P w K mg base bf (k+1) f fd ps sp:=by
 obtain⟨oc,od,kV,doc,pm,an,cdv,ct,osl,rfl,lk,hcd⟩:=F.ex;refine Hj lk hcd S len λA outer s H vs Q E hr hsp=>?_;obtain⟨t,h,q⟩:=hbody cdv A outer s H vs Q E hr hsp;exact⟨t,h.uG,q⟩
theorem aT.binds{x qual:Str}{st:Stmt}{f:Addr}{fd:FuncData}{ps:List Str}(F:aT K x qual st f fd)
  (h:∀(kV doc pm:Value) (an:Option Addr) (cdv ct:Value) (us:List Value),us.length=ps.length->bindArgs (W.fnOf x qual (iI st) (f9 st) (ay st) .none kV doc pm an cdv ct) ⟨us,[]⟩=pure (ps.zip us)):Binds K fd ps []:=by
 obtain⟨oc,od,kV,doc,pm,an,cdv,ct,osl,rfl,lk,hcd⟩:=F.ex;exact .all (h kV doc pm an cdv ct)
theorem zC{x qual:Str}{st:Stmt}{f:Addr}{oc:Value}{od an:Option Addr}{osl:Array (Option Value)}{kV doc pm cdv ct:Value}(l:K.lookup f=some ⟨oc,od,.func (W.fnOf x qual (iI st) (f9 st) (ay st) .none kV doc pm an cdv ct),osl⟩)
  (c:W.codeIn K cdv qual=true) (k:W.keepIn K (.ref f)=true):aT K x qual st f (W.fnOf x qual (iI st) (f9 st) (ay st) .none kV doc pm an cdv ct):=⟨⟨oc,od,kV,doc,pm,an,cdv,ct,osl,rfl,l,c⟩,k⟩
end
theorem Iq{A:Around}{k:Nat}(hr:bS k A):A.units+1<cLine:=nG (Nat.add_le_add_left (by decide:1<=64) _) hr.units
theorem lB{n:Nat}(h:n<=1000):n<sizeLine:=nG h (by decide)
section
variable {X:Cx}
theorem pv (i:Nat) {x:Str} {pos:Pos} (hN:X.N[i]?=some x:=by rfl) (hv:sN X.env.scope x:=by first|exact Or.inl rfl|exact Or.inr (Or.inl rfl)|exact Or.inr (Or.inr rfl)) (hd:(x==("__debug__" : Str))=false:=by decide)
  (hcd:(x==("__classdict__" : Str))=false:=by decide):PE X (.Name x pos) (dO i):=W' hN hv hd hcd
end
theorem aI{A B:Prop}(h:B):if false=true then A else B:=by
 rw[au bY];exact h
theorem a_{A B:Prop}(h:A):if true=true then A else B:=by
 rw[az rfl];exact h
theorem bB{c A B:Prop}[Decidable c](h1:c->A)(h2:¬ c->B):if c then A else B:=by
 by_cases h:c
 ·rw[az h]
  exact h1 h
 ·rw[au h]
  exact h2 h
theorem TB{c A B:Prop}[Decidable c](hc:c)(h:B):if(!decide c)=true then A else B:=by
 rw[bK hc];exact aI h
noncomputable def Same(H H':Hp):Prop:=∀b o,H b=some o->H' b=some o
theorem Same.refl(H:Hp):Same H H:=λ_ _ h=>h
theorem Same.trans{H H1 H2:Hp}(a:Same H H1)(b:Same H1 H2):Same H H2:=λc o h=>b c o (a c o h)
theorem Same.free{H H':Hp}(e:Same H H'){l:Addr}(h:H' l=Option.none):H l=Option.none:=by
 cases q:H l with
 |none=>rfl
 |some o =>
  rw[e l o q]at h;cases h
theorem Same.seq{K:W.Frag}{H H':Hp}{a:Addr}{xs:List V}(e:Same H H')(h:ai K H a xs):ai K H' a xs:=by
 rcases h with(h|⟨o,h⟩)|h
 ·exact .inl (.inl (e _ _ h))
 ·exact .inl (.inr ⟨o,e _ _ h⟩)
 ·exact .inr h
section
variable {κ:Type} [DecidableEq κ]
end
noncomputable def f7(cells:List (Str × Addr)):List (Str × NameKind)->List (Str × Addr)->List (Str × Addr)
 | [],acc=>acc
 | (n,k)::r,acc=>f7 cells r (if(k==NameKind.free)=true then(n,(cells.lookup n).getD 0)::acc else acc)
theorem Gv{cells:List (Str × Addr)}{x:Str}{c:Addr}:∀{names:List (Str × NameKind)} {acc:List (Str × Addr)},(f7 cells names acc).lookup x=some c->acc.lookup x=some c\/((x,NameKind.free)∈names/\c=(cells.lookup x).getD 0)
 | [],acc,h=>.inl h
 | (n,k)::r,acc,h=>by
  unfold f7 at h
  rcases Gv h with h1|⟨h1,e⟩
  ·clear h
   split at h1
   ·rename_i hk
    rw[iw]at h1;cases hx:x==n with
    |true =>
     rw[hx]at h1;have hx':x=n:=by simpa using hx
     have hk':k = .free:=by simpa using hk
     subst hx' hk';exact .inr ⟨cK,(dU h1).symm⟩
    |false =>
     rw[hx]at h1;exact .inl h1
   ·exact .inl h1
  ·exact .inr ⟨bT _ h1,e⟩
theorem tD{cells:List (Str × Addr)}{x:Str}:∀{names:List (Str × NameKind)} {acc:List (Str × Addr)} {c:Addr},acc.lookup x=some c->∃c',(f7 cells names acc).lookup x=some c'
 | [],_,c,h=>⟨c,h⟩
 | (n,k)::r,acc,c,h=>by
  unfold f7
  split
  ·cases hx:x==n with
   |true=>exact tD (c:=(cells.lookup n).getD 0) (by rw[iw,hx])
   |false=>exact tD (c:=c) (by rw[iw,hx];exact h)
  ·exact tD h
theorem yi{cells:List (Str × Addr)}{x:Str}:∀{names:List (Str × NameKind)} {acc:List (Str × Addr)},(x,NameKind.free)∈names->∃c,(f7 cells names acc).lookup x=some c
 | [],_,h=>nomatch h
 | (n,k)::r,acc,h=>by
  unfold f7
  rcases bu.mp h with e|h
  ·injection e with e1 e2
   subst e1;subst e2;exact tD (c:=(cells.lookup x).getD 0) (by simp)
  ·exact yi h
theorem Gu{scope:Scope}{env:Env}(h:∀x∈scope.names,x.2 = .free->∃c,env.cells.lookup x.1=some c):closureFor scope env=pure (f7 env.cells scope.names []):=by
 have go:∀(names:List (Str × NameKind)) (acc:List (Str × Addr)),(∀x∈names,x.2 = .free->∃c,env.cells.lookup x.1=some c) ->
   (forIn names acc λx cs=>if(x.2==NameKind.free)=true then do let c <- cellOf env x.1;pure (ForInStep.yield ((x.1,c)::cs))else pure (ForInStep.yield cs):Sem (List (Str × Addr)))=pure (f7 env.cells names acc):=by
  intro names
  induction names with
  |nil=>intro acc _;rfl
  |cons x r ih =>
   intro acc hx;obtain⟨n,k⟩:=x;rw[Ej];unfold f7;cases hk:k==NameKind.free with
   |true =>
    obtain⟨c,hc⟩:=hx (n,k) cK (by simpa using hk);simp only[hk,mE,cellOf,hc,pure_bind,Option.getD_some];exact ih _ λy hy=>hx y (bT _ hy)
   |false =>
    simp only[hk,rG,oE,pure_bind];exact ih _ λy hy=>hx y (bT _ hy)
 have e:=go scope.names [] h;have e2:closureFor scope env=(forIn scope.names [] λx cs=>if(x.2==NameKind.free)=true then do let c <- cellOf env x.1;pure (ForInStep.yield ((x.1,c)::cs))else pure (ForInStep.yield cs):Sem (List (Str × Addr)))>>=λcs=>pure cs:=by
  rfl
 rw[e2,e];rfl
theorem JB{env:Env}:∀{names:List (Str × NameKind)} {x:Str},names.lookup x=some .free ->
  (names.map λ(n,k)=>if(k==NameKind.free&&env.scope.kind==.function&&env.kindOf n==some .cell)then(n,NameKind.cell)else(n,k)).lookup x=some .cell \/
  (names.map λ(n,k)=>if(k==NameKind.free&&env.scope.kind==.function&&env.kindOf n==some .cell)then(n,NameKind.cell)else(n,k)).lookup x=some .free
 | [],_,h=>by simp at h
 | (n,k)::r,x,h=>by
  have ih:=@JB env r x;show List.lookup x ((if(k==NameKind.free&&env.scope.kind==.function&&env.kindOf n==some .cell)=true then(n,NameKind.cell)else(n,k))::_)=_\/List.lookup x ((if(k==NameKind.free&&env.scope.kind==.function&&env.kindOf n==some .cell)=true then(n,NameKind.cell)else(n,k))::_)=_;cases hx:x==n with
  |true =>
   simp only[iw,hx]at h;cases h
   by_cases hc:(NameKind.free==NameKind.free&&env.scope.kind==.function&&env.kindOf n==some .cell)=true
   ·rw[az hc];simp[iw,hx]
   ·rw[au hc];simp[iw,hx]
  |false =>
   simp only[iw,hx]at h
   by_cases hc:(k==NameKind.free&&env.scope.kind==.function&&env.kindOf n==some .cell)=true
   ·rw[az hc];simp only[iw,hx];exact ih h
   ·rw[au hc];simp only[iw,hx];exact ih h
theorem JF{env:Env}:∀{names:List (Str × NameKind)} {x:Str},(∀y∈names,y.2≠.cell) ->
  ((names.map λ(n,k)=>if(k==NameKind.free&&env.scope.kind==.function&&env.kindOf n==some .cell)then(n,NameKind.cell)else(n,k)).lookup x=some .cell \/
  (names.map λ(n,k)=>if(k==NameKind.free&&env.scope.kind==.function&&env.kindOf n==some .cell)then(n,NameKind.cell)else(n,k)).lookup x=some .free)->(x,NameKind.free)∈names
 | [],_,_,h=>by simp at h
 | (n,k)::r,x,hn,h=>by
  have ih:=@JF env r x λy hy=>hn y (bT _ hy)
  change List.lookup x ((if(k==NameKind.free&&env.scope.kind==.function&&env.kindOf n==some .cell)=true then(n,NameKind.cell)else(n,k))::_)=_\/List.lookup x ((if(k==NameKind.free&&env.scope.kind==.function&&env.kindOf n==some .cell)=true then(n,NameKind.cell)else(n,k))::_)=_ at h
  cases hx:x==n with
  |true =>
   have e:x=n:=by simpa using hx
   subst e
   by_cases hc:(k==NameKind.free&&env.scope.kind==.function&&env.kindOf x==some .cell)=true
   ·have hk:k = .free:=by
     have:=(dB _ _▸hc:_/\_).1;have:=(dB _ _▸this:_/\_).1;simpa using this
    subst hk;exact cK
   ·rw[au hc]at h
    simp only[iw,hx]at h
    rcases h with h|h
    ·cases h;exact absurd rfl (hn _ cK)
    ·cases h;exact cK
  |false =>
   by_cases hc:(k==NameKind.free&&env.scope.kind==.function&&env.kindOf n==some .cell)=true
   ·rw[az hc]at h;simp only[iw,hx]at h;exact bT _ (ih h)
   ·rw[au hc]at h;simp only[iw,hx]at h;exact bT _ (ih h)
noncomputable def blk(X:Cx)(scope:Scope)(N':List Str)(C:Addr)(s₀:Shared)(H₀:Hp)(fp:List Addr):Cx:=
 {X with N:=N',s₀:=s₀,H₀:=H₀,env:=compEnvC scope (f7 X.env.cells scope.names []) C X.env,outer:=X.stack,stack:=X.stack,ex:=fp,fn:=λ_=>false,pn:=[],xe:=λ_ _=>False}
structure iW (X:Cx) (scope:Scope) (fr:List (Str × Nat)):Prop where
 kind:scope.kind = .function
 JT:∀y∈scope.names,y.2≠.cell
 names:∀y∈scope.names,y.2 = .local->scope.names.lookup y.1=some .local
 free:∀y∈scope.names,y.2 = .free->X.env.scope.names.lookup y.1=some .cell\/X.env.scope.names.lookup y.1=some .free
 ix:∀p∈fr,X.N[p.2]?=some p.1/\scope.names.lookup p.1=some .free
noncomputable def blkσ(no:Nat)(fr:List (Str × Nat))(σ:St):St:=List.replicate no none++fr.map λp=>σ.getD p.2 none
noncomputable def Wk(σ σ':St):Prop:=σ.length=σ'.length/\∀(i:Nat) v,σ[i]?=some (some v)->σ'[i]?=some (some v)
theorem Wk.refl(σ:St):Wk σ σ:=⟨rfl,λ_ _ h=>h⟩
theorem Wk.set{σ σ':St}{i:Nat}{x:Option V}(h:Wk σ σ')(hi:σ[i]?=some none):Wk σ (σ'.set i x):=by
 refine⟨by rw[lN];exact h.1,λj v e=>?_⟩;have hj:j≠i:=by rintro rfl;rw[hi]at e;cases e
 rw[rX (cE hj)];exact h.2 j v e
section
variable {X:Cx} {pins:List (Addr × Obj)} {σ:St} {H:Hp} {s:Shared} {scope:Scope} {fr:List (Str × Nat)} {own:List Str} {fp:List Addr}
theorem iW.cell(B:iW X scope fr)(ok:X.Ok):∀x∈scope.names,x.2 = .free->∃c,X.env.cells.lookup x.1=some c:=λx hx hk=>ok.has x.1 (B.free x hx hk)
theorem iW.sub(B:iW X scope fr)(ok:X.Ok){x:Str}{c:Addr}(h:(f7 X.env.cells scope.names []).lookup x=some c):X.env.cells.lookup x=some c:=by
 rcases Gv h with h|⟨hm,e⟩
 ·simp at h
 ·obtain⟨c',hc⟩:=B.cell ok _ hm rfl
  rw[e,hc];rfl
theorem PL(B:iW X scope fr)(I:Inv X pins σ H s)(hf:∀b∈fp,eJ X pins H b)(hfs:∀b∈fp,b<s.heap.objs.size){N':List Str}:(blk X scope N' s.heap.objs.size s H fp).Ok where
 mod:=I.ok.mod
 kind:=B.kind
 glob:=I.ok.glob
 blt:=I.ok.blt
 above:=aO _
 inj:=λx y c h1 h2=>I.ok.inj x y c (B.sub I.ok h1) (B.sub I.ok h2)
 has:=λx h=>yi (JF B.JT h)
 cab:=λx c h=>by cases h
 hd:=I.ok.hd
 frames:=I.ok.frames
 stk:=.inl rfl
 mh:=λb hb=>⟨bO (hfs b hb),λx c h=>(hf b hb).2.2.2.2.1 x c (B.sub I.ok h)⟩
 bs:=I.bs
 f6:=bN I.ok.f6 I.sz
 jq:=λb o e hb=>by
  rcases(hf b hb).2.2.2.1 with h|h
  ·exact I.ok.jq b o e h
  ·exact absurd (cg (aV e) (bN I.ok.f6 h)) (fh _)
 jS:=λb hb h=>by
  rcases bu.mp (I.rA b h)with e|h
  ·exact(hf b hb).2.1 e
  ·exact(hf b hb).2.2.1 h
 dw:=I.stack
 iJ:=I.pq
theorem PN(B:iW X scope fr)(I:Inv X pins σ H s)(hf:∀b∈fp,eJ X pins H b)(hfs:∀b∈fp,b<s.heap.objs.size){h1:Heap}{m:Str->Option Value}{tk:Nat}(hn:h1.Ns s.heap.objs.size m)
  (hk:∀b o,s.heap.get? b=some o->h1.get? b=some o):Inv (blk X scope (own++fr.map (·.1)) s.heap.objs.size s H fp) [] (blkσ own.length fr σ) H {s with heap:=h1,toks:=tk} where
 ok:=PL B I hf hfs
 os:=rfl
 bare:=I.bare
 base:=Un.kept hk
 loc:=by
  refine⟨m,hn,λi x v e1 e2 e3=>?_⟩
  change (own++fr.map (·.1))[i]?=some x at e1
  unfold blkσ at e2
  by_cases hi:i<own.length
  ·rw[wz (by simpa using hi),Oq]at e2
   split at e2<;>cases e2
  ·rw[rW (by simpa using Ex hi),dR]at e1
   rw[rW (by simpa using Ex hi),dR,Ox]at e2;cases hp:fr[i - own.length]? with
   |none=>rw[hp]at e1;cases e1
   |some p =>
    rw[hp]at e1 e2;simp only[wN,Fb]at e1 e2;obtain⟨i1,i2⟩:=B.ix p (eh hp);subst e1;have e2':σ[p.2]?=some (some v):=by
     rw[aZ]at e2;cases q:σ[p.2]? with
     |none=>rw[q]at e2;cases e2
     |some z=>rw[q]at e2;exact congrArg some e2
    have kX:X.env.kindOf p.1=some .cell\/X.env.kindOf p.1=some .free:=B.free (p.1,.free) (nX i2) rfl;obtain⟨m',hn',hl'⟩:=I.loc;have vis:sN X.env.scope p.1:=.inr kX;obtain⟨u,r,l⟩:=hl' p.2 p.1 v i1 e2' vis;refine⟨u,r,.inr ⟨JB i2,?_⟩⟩
    rcases l with⟨k,_⟩|⟨_,c,hc,z⟩
    ·rcases kX with q|q<;>(rw[k]at q;cases q)
    ·obtain⟨c',hc'⟩:=yi (cells:=X.env.cells) (acc:=[]) (nX i2)
     have:=B.sub I.ok hc';rw[hc]at this;cases this;exact⟨c,hc',z.keeps hk⟩
 cell:=λx c h=>by
  obtain⟨v,z⟩:=I.cell x c (B.sub I.ok h);exact⟨v,z.keeps hk⟩
 free:=I.hok.fresh (aO _)
 dH:=λx c h=>I.dH x c (B.sub I.ok h)
 pin:=λp hp=>absurd (show p∈([]:List (Addr × Obj))from hp) (by simp)
 hok:=I.hok.kept hk
 len:=by
  unfold blkσ;show _=(own++fr.map (·.1)).length;simp
theorem PK{s':Shared}{H':Hp}{σ':St}{pY:List (Addr × Obj)}{N':List Str}(I:Inv X pins σ H s)(hf:∀b∈fp,eJ X pins H b)(J:Inv (blk X scope N' s.heap.objs.size s H fp) pY σ' H' s'):Inv X pins σ H' s':=
 I.call' J.os J.base J.hok J.bare λb hb=>⟨(hf b hb).2.2.2.1,(hf b hb).2.1,(hf b hb).2.2.2.2.1,(hf b hb).2.2.2.2.2⟩
end
noncomputable def nO(Y:Cx)(ifs:List Expr)(t:TT):Prop:=
 ∀(pins:List (Addr × Obj)) (s:Shared) (σ:St) (H:Hp) (Q:Bool->Hp->Prop),Inv Y pins σ H s->t σ H Q ->
  wpAny (model Y.prog Y.w) Y.A (forIn ifs true λc r=>if r=true then do let ok <- isTrue c Y.env (eval c Y.env);pure (ForInStep.yield ok)else pure (ForInStep.yield r)) (TP Y pins σ Q) Y.xe s
noncomputable def pB:TT:=λ_ H Q=>Q true H
theorem dz{Y:Cx}:nO Y [] pB:=λ_ _ _ H _ I h=>wpAny_tests_nil ⟨H,I,h⟩
theorem oX{Y:Cx}{c:Expr}{t:TT}(h:PT Y c t):nO Y [c] t:=λpins s σ H Q I hq=>wpAny_tests_one (h pins s σ H Q I hq)
noncomputable def ka(J:It)(g:TG)(tc:TT)(te:TE)(σ₀:St)(D:Addr)(Q:Hp->Prop)(H:Hp):Prop:=
 ∃W:Nat->Nat->List V->Hp->Prop,(∃m,W 0 m [] H)/\∀i m ys H,W i m ys H ->
  (J.stop i H/\Q H)\/(J.go i H/\∃N:List V->Hp->Prop,(∀ys' H',N ys' H'->∃m',m'<m/\W (i+1) m' ys' H')/\∀x H',J.lI i H x H'->g x σ₀ H' λσ2 H2=>Wk σ₀ σ2 /\
   tc σ2 H2 λb H3=>if b=true then te σ2 H3 λy H4=>H4 D=some (.lst ys)/\ys.length<sizeLine/\N (ys++[y]) (upd H4 D (.lst (ys++[y])))else N ys H3)
theorem Inv.Zv{X:Cx}{pins:List (Addr × Obj)}{σ σ':St}{H:Hp}{s:Shared}(I:Inv X pins σ' H s)(h:Wk σ σ'):Inv X pins σ H s:=I.weak h.1 h.2
theorem Qc{Y:Cx}{elt tg iter:Expr}{ifs:List Expr}{scope:Scope}{pos:Pos}{it D:Addr}{fp:List Addr}{tn:Nat->Heap->Prop}{J:It}{g:TG}{tc:TT}{te:TE}{σ₀:St}{H:Hp}{s:Shared}{Q:Hp->Prop}
  (hc:Y.calm=true) (T:Turn Y.prog Y.w Y.K tg J fp it tn) (hg:PG Y tg g) (hif:nO Y ifs tc) (he:PE Y elt te)
  (I:Inv Y [] σ₀ H s) (st:tn 0 s.heap) (hf:∀b∈fp,eJ Y [] H b) (hw:ka J g tc te σ₀ D Q H) (hx:Y.xe=λ_ _=>False) :
  codeAny (model Y.prog Y.w) Y.A (.compLoop (.ListComp elt [⟨tg,iter,ifs,0⟩] scope pos) 0 (.ref it) (.ref D) Y.env) (λr s'=>∃H',r = .ok .next/\Inv Y [] σ₀ H' s'/\Q H') s:=by
 obtain⟨W,⟨m0,w0⟩,turn⟩:=hw;have stat:∀{H':Hp},(∀b∈fp,H' b=none)->∀b∈fp,eJ Y [] H' b:=λhn b hb=>⟨hn b hb,(hf b hb).2⟩;refine codeAny_loop rfl (λn s'=>∃i ys H',Inv Y [] σ₀ H' s'/\tn i s'.heap/\(∀b∈fp,H' b=none)/\W i n ys H') ?_ m0 ⟨0,[],H,I,st,λb hb=>(hf b hb).1,w0⟩;rintro n s3 ⟨i,ys,H3,I3,st3,qp,w3⟩;show wpAny _ Y.A ((compTurn (.ListComp elt [⟨tg,iter,ifs,0⟩] scope pos) 0 (.ref it) (.ref D) Y.env).onRaise (λx=>do noteFrame x Y.env;theTreesLotGoes x)) _ _ s3;refine wpAny_noted ?_;rw[compTurn_list];refine ah (qa (ah ?_));have Za:∀{α:Type} {t:Sem α} {P:α->Shared->Prop} {E:Value->Shared->Prop} {s:Shared},wpAny (model Y.prog Y.w) Y.A t P Y.xe s->wpAny (model Y.prog Y.w) Y.A t P E s:=λ{α t P E s} h=>by
  rw[hx]at h;exact dX h (λ_ _ q=>q) λ_ _ q=>q.elim
 rcases turn i n ys H3 w3 with⟨stop,qn⟩|⟨go,N,hN,step⟩
 ·refine aG (T.done Y rfl rfl rfl hc i [] s3 σ₀ H3 _ I3 (stat qp) st3 stop) λr s4 ⟨hr,I4⟩=>?_
  subst hr;exact aC ⟨H3,rfl,I4,qn⟩
 ·refine aG (T.item Y rfl rfl rfl hc i [] s3 σ₀ H3 _ I3 (stat qp) st3 go) λr s4 ⟨u,hr,h4⟩=>?_
  subst hr;refine ah (aG h4 λ_ s5 ⟨x,H5,I5,r5,y5,jw,zB⟩=>?_);have wo:=I5.pinned (stat zB) (T.obj _ _ jw);refine ah (Za (aG (hg _ s5 σ₀ H5 x u _ wo r5 (step x H5 y5)) λ_ s6 ⟨σ6,H6,I6,N6,q6⟩=>?_));have again:∀{s7:Shared} {σ7:St} {v9:List V} {H7:Hp},Inv Y ([]++qS fp s5.heap) σ7 H7 s7->Wk σ₀ σ7->N v9 H7->∃m,m<n/\∃i ys H',Inv Y [] σ₀ H' s7/\tn i s7.heap/\(∀b∈fp,H' b=none)/\W i m ys H':=λ{s7 σ7 v9 H7} I7 Zw n7=>by
   obtain⟨m',hm,w7⟩:=hN v9 H7 n7;refine⟨m',hm,i+1,v9,H7,(I7.vX).Zv Zw,T.keep _ _ _ jw λb hb o e=>(I7.pin (b,o) (jH _ (jH _ (uw hb e)))).1,λb hb=>?_,w7⟩;obtain⟨o,e,d⟩:=T.obj _ _ jw b hb;exact(I7.pin (b,o) (jH _ (jH _ (uw hb e)))).2.1
  refine ah (dX (hif _ s6 σ6 H6 _ I6 q6) (λok s7 ⟨H7,I7,q7⟩=>?_) λ_ _ q=>by rw[hx]at q;exact q.elim);cases ok with
  |false=>exact aC ⟨rfl,again I7 N6 q7⟩
  |true =>
   refine ah (ah (dX (he _ s7 σ6 H7 _ I7 q7) (λv s8 ⟨y,H8,I8,r8,hD,hz,n8⟩=>?_) λ_ _ q=>by rw[hx]at q;exact q.elim));refine ah (dX (k_ _ s8 σ6 H8 (.ref D) [y] (.ref D) [v] (λ_ H9=>N (ys++[y]) H9) I8 rfl (.cons r8 .nil) ⟨D,ys,y,rfl,rfl,hD,hz,n8⟩) (λz s9 ⟨_,H9,I9,_,n9⟩=>?_) λ_ _ q=>by rw[hx]at q;exact q.elim);exact aC (aC ⟨rfl,again I9 N6 n9⟩)
noncomputable def Nw(wi:TI)(no:Nat)(fr:List (Str × Nat))(g:TG)(tc:TT)(te:TE):TE:=λσ H Q=>wi σ H λJ H1=>∀D,H1 D=none->ka J g tc te (blkσ no fr σ) D (λH'=>Q (.ref D) H') (upd H1 D (.lst []))
section
variable {X:Cx} {elt tg iter:Expr} {ifs:List Expr} {scope:Scope} {pos:Pos} {own:List Str} {fr:List (Str × Nat)} {wi:TI} {g:TG} {tc:TT} {te:TE}
theorem Gy{pins:List (Addr × Obj)}{σ:St}{H2:Hp}{s2:Shared}{it:Addr}{fp:List Addr}{tn:Nat->Heap->Prop}{J:It}{Qd:V->Hp->Prop}{RR:Value->Addr->Result->Shared->Prop}{E:Value->Shared->Prop}(hc:X.calm=true)(B:iW X scope fr)
  (hb:∀(C:Addr) (s₀:Shared) (H₀:Hp) (fp:List Addr),PG (blk X scope (own++fr.map (·.1)) C s₀ H₀ fp) tg g/\nO (blk X scope (own++fr.map (·.1)) C s₀ H₀ fp) ifs tc/\PE (blk X scope (own++fr.map (·.1)) C s₀ H₀ fp) elt te)
  (I2:Inv X pins σ H2 s2) (T:Turn X.prog X.w X.K tg J fp it tn) (st2:tn 0 s2.heap) (f2:∀b∈fp,eJ X pins H2 b)
  (hw:∀D,H2 D=none->ka J g tc te (blkσ own.length fr σ) D (λH'=>Qd (.ref D) H') (upd H2 D (.lst [])))
  (hR:∀(D C:Addr) (s':Shared) (H':Hp) (m:Str->Option Value),Inv X pins σ H' s'->s'.heap.Ns C m->H' C=none->C≠X.env.locals->X.s₀.heap.objs.size<=C->(∀x c,X.env.cells.lookup x=some c->c≠C)->(∀p∈X.pn++pins,p.1≠C) ->
   Qd (.ref D) H'->RR (.ref D) C (.ok .next) s') :
  wpAny (model X.prog X.w) X.A (newList []) (λacc s₃=>wpAny (model X.prog X.w) X.A (newFunctionEnv scope X.env.globals (f7 X.env.cells scope.names []) [] X.env.qual none .none (some X.env)) (λcenv s₄ =>
   codeAny (model X.prog X.w) X.A (.compStart (.ListComp elt [⟨tg,iter,ifs,0⟩] scope pos) 0 (.ref it) acc {cenv with scope:=relabel scope X.env}) (RR acc cenv.locals) s₄) E s₃) E s2:=by
 refine nY (wpAny_newFunctionEnv B.JT (by intro y hy;simp at hy) (λh₁ hns₁ hsb₁=>?_) B.kind);dsimp only at hns₁ hsb₁ ⊢;have hD:H2 s2.heap.objs.size=none:=I2.fresh;have I3:Inv X pins σ (upd H2 s2.heap.objs.size (.lst [])) {s2 with heap:=s2.heap.push {cls:=.type "list", data:=.seq ([]:List Value).toArray},toks:=s2.toks}:=I2.Jy .nil (by simp);have qF:∀b∈fp,b<s2.heap.objs.size:=λb hb=>by obtain⟨o,e,_⟩:=T.obj _ _ st2 b hb;exact aV e
 have f3:∀b∈fp,eJ X pins (upd H2 s2.heap.objs.size (.lst [])) b:=λb hb=>⟨by rw[aA (bO (qF b hb))];exact(f2 b hb).1,(f2 b hb).2⟩;generalize hs3:({s2 with heap:=s2.heap.push {cls:=.type "list", data:=.seq ([]:List Value).toArray},toks:=s2.toks}:Shared)=s3 at I3;have e3:s3.heap=s2.heap.push {cls:=.type "list", data:=.seq ([]:List Value).toArray}:=by rw[<- hs3]
 have JD:∀b∈fp,b<s3.heap.objs.size:=λb hb=>by rw[e3,eM];exact sd (qF b hb)
 have eC:(s2.heap.push {cls:=.type "list", dict:=none,data:=.seq ([]:List Value).toArray}).objs.size=s3.heap.objs.size:=by rw[e3]
 have old:∀b o,s3.heap.get? b=some o->h₁.get? b=some o:=λb o e=>by
  have hb:b<s3.heap.objs.size:=aV e;rw[e3]at e;exact hsb₁.extBut b o (by rw[eC];exact bO hb) (aM _ e)
 rw[eC]at hns₁ ⊢;have IY:Inv (blk X scope (own++fr.map (·.1)) s3.heap.objs.size s3 (upd H2 s2.heap.objs.size (.lst [])) fp) [] (blkσ own.length fr σ) (upd H2 s2.heap.objs.size (.lst [])) {s3 with heap:=h₁,toks:=s2.toks+([]:List (Str × Value)).length}:=
  PN (own:=own) B I3 f3 JD hns₁ old
 have st3:tn 0 h₁:=T.keep _ _ _ st2 λb hb o e=>old b o (by rw[e3];exact aM _ e);have fY:∀b∈fp,eJ (blk X scope (own++fr.map (·.1)) s3.heap.objs.size s3 (upd H2 s2.heap.objs.size (.lst [])) fp) [] (upd H2 s2.heap.objs.size (.lst [])) b:=λb hb =>
  ⟨(f3 b hb).1,bO (JD b hb),(IY.ok.jS b hb),.inl hb,(IY.ok.mh b hb).2,λp hp=>absurd (show p∈([]:List (Addr × Obj))from hp) (by simp)⟩
 obtain⟨b1,b2,b3⟩:=hb s3.heap.objs.size s3 (upd H2 s2.heap.objs.size (.lst [])) fp;have loop:=Qc (Y:=blk X scope (own++fr.map (·.1)) s3.heap.objs.size s3 (upd H2 s2.heap.objs.size (.lst [])) fp) (iter:=iter) (scope:=scope) (pos:=pos) hc T b1 b2 b3 IY st3 fY (hw _ hD) rfl;have JC:codeAny (model X.prog X.w) X.A (.compLoop (.ListComp elt [⟨tg,iter,ifs,0⟩] scope pos) 0 (.ref it) (.ref s2.heap.objs.size) (compEnvC scope (f7 X.env.cells scope.names []) s3.heap.objs.size X.env)) (RR (.ref s2.heap.objs.size) s3.heap.objs.size) {s3 with heap:=h₁,toks:=s2.toks+([]:List (Str × Value)).length}:=by
  refine jL loop λr s' ⟨H',hr,J',q⟩=>?_;subst hr;obtain⟨m',hn',_⟩:=id J'.loc;refine hR s2.heap.objs.size s3.heap.objs.size s' H' m' (PK I3 f3 J') hn' J'.free (gX I3.lt) I3.sz (λx c e=>?_) (λp hp z=>?_) q
  ·obtain⟨v,z⟩:=I3.cell x c e
   exact bO z.lt
  ·exact absurd (aV (I3.pin p hp).1) (by rw[z];exact fh _)
 have es:({s2 with heap:=h₁,toks:=s2.toks+([]:List (Str × Value)).length}:Shared) = {s3 with heap:=h₁,toks:=s2.toks+([]:List (Str × Value)).length}:=by rw[<- hs3]
 rw[es];exact codeAny_compStart_list JC (T.self X.A 0 _ _ _ st3 JC)
theorem dg(hc:X.calm=true)(B:iW X scope fr)(hi:PI X tg iter wi)
  (hb:∀(C:Addr) (s₀:Shared) (H₀:Hp) (fp:List Addr),PG (blk X scope (own++fr.map (·.1)) C s₀ H₀ fp) tg g/\nO (blk X scope (own++fr.map (·.1)) C s₀ H₀ fp) ifs tc/\PE (blk X scope (own++fr.map (·.1)) C s₀ H₀ fp) elt te)
  (hs:∀x,foldedSetIterable iter X.env x=pure x:=by intro _;rfl):PE X (.ListComp elt [⟨tg,iter,ifs,0⟩] scope pos) (Nw wi own.length fr g tc te):=by
 intro pins s σ H Q I h;rw[eval_ListComp];refine wpAny_comprehension_free (use:=none) rfl hs (Gu (B.cell I.ok)) B.kind B.names (aG (hi pins s σ H _ I h) λv s1 h1=>aG h1 λitv s2 h2=>?_);obtain⟨it,fp,tn,J,H2,e,I2,T,st2,f2,hD⟩:=h2;subst e;refine Gy (own:=own) (Qd:=Q) (RR:=λacc C=>compPost (model X.prog X.w) X.A X.xe none (EP X pins σ Q) acc C) hc B hb I2 T st2 f2 hD ?_;intro D C s' H' m I' hn hC c1 c2 c3 c4 q;exact⟨m,hn,λh' sb=>⟨.ref D,H',I'.turned (t':=s'.toks) (λb o hb e=>sb.extBut b o hb e) hC (cE c1).symm (.inr c2) c3 c4,rfl,q⟩⟩
theorem uZ{i:Nat}{x:Str}{py spos:Pos}(hN:X.N.Nodup)(hx:X.N[i]?=some x)(hl:X.env.scope.names.lookup x=some .local)(hc:X.calm=true)(B:iW X scope fr)(hi:PI X tg iter wi)
  (hb:∀(C:Addr) (s₀:Shared) (H₀:Hp) (fp:List Addr),PG (blk X scope (own++fr.map (·.1)) C s₀ H₀ fp) tg g/\nO (blk X scope (own++fr.map (·.1)) C s₀ H₀ fp) ifs tc/\PE (blk X scope (own++fr.map (·.1)) C s₀ H₀ fp) elt te)
  (hsw:swapsWith (.ListComp elt [⟨tg,iter,ifs,0⟩] scope pos) (some (.Name x py)) spos.line X.env=pure true:=by rfl)
  (hs:∀x,foldedSetIterable iter X.env x=pure x:=by intro _;rfl):PS X (.Assign [.Name x py] (.ListComp elt [⟨tg,iter,ifs,0⟩] scope pos) spos) (pz (Nw wi own.length fr g tc te) (aW i)):=by
 intro pins s σ H D0 I h;rw[exec_Assign_Name_used _ _ _ _ hsw];refine ah (qa (ah ?_));show wpAny _ X.A (do let _ <- comprehension (.ListComp elt [⟨tg,iter,ifs,0⟩] scope pos) scope X.env _ (newList []) false (eval iter X.env) (some (assign (.Name x py) X.env))) _ _ s;refine ah (dX (wpAny_comprehension_free (use:=some (assign (.Name x py) X.env)) (Q:=λ_ s'=>SP X pins D0 .next s') rfl hs (Gu (B.cell I.ok)) B.kind B.names
  (aG (hi pins s σ H _ I h) λv s1 h1=>aG h1 λitv s2 h2=>?_)) (λ_ s' hq=>aC (aC hq)) λ_ _ e=>e)
 obtain⟨it,fp,tn,J,H2,e,I2,T,st2,f2,hD⟩:=h2;subst e;refine Gy (own:=own) (Qd:=λv H'=>aW i v σ H' D0.nx) (RR:=λacc C=>compPost (model X.prog X.w) X.A X.xe (some (assign (.Name x py) X.env)) (λ_ s'=>SP X pins D0 .next s') acc C) hc B hb I2 T st2 f2 hD ?_;intro D C s' H' m I' hn hC c1 c2 c3 c4 q;show wpAny _ X.A (assign (.Name x py) X.env (.ref D)) _ _ _;refine wpAny_assign_Name (Dp I' hN hx (.inl hl) (v:=.ref D) rfl (λs'' Og ⟨a,sb,ha⟩=>?_) (.inr hl));have RJ:C≠a:=by
  rcases ha with rfl|ha
  ·exact c1
  ·exact λe=>c3 x a ha e.symm
 refine⟨m,hn.sameBut sb RJ,λh' Yc=>?_⟩;exact⟨_,H',Og.turned (t':=s''.toks) (λb o hb e=>Yc.extBut b o hb e) hC c1 (.inr c2) c3 c4,q⟩
end
noncomputable def bZ(b:Bool)(h:Heap)(it a:Addr)(i:Nat):Prop:=match b with
 |true=>h.IsListIter it a i
 |false=>h.IsTupleIter it a i
noncomputable def cB(b:Bool)(h:Heap)(a:Addr)(items:Array Value):Prop:=match b with
 |true=>h.IsList a items
 |false=>h.IsTuple a items
theorem bZ.at{b:Bool}{h h':Heap}{it a:Addr}{i:Nat}(x:bZ b h it a i)(k:∀o,h.get? it=some o->h'.get? it=some o):bZ b h' it a i:=by
 cases b with
 |true=>exact Heap.IsListIter.at x k
 |false=>exact Heap.IsTupleIter.at x k
theorem cB.at{b:Bool}{h h':Heap}{a:Addr}{items:Array Value}(x:cB b h a items)(k:∀o,h.get? a=some o->h'.get? a=some o):cB b h' a items:=by
 cases b with
 |true=>exact Heap.IsList.at x k
 |false=>obtain⟨o,e,r⟩:=x;exact⟨o,k o e,r⟩
theorem bZ.obj{b:Bool}{h:Heap}{it a:Addr}{i:Nat}(x:bZ b h it a i):∃o,h.get? it=some o/\∀v,o.data≠.cell v:=by
 cases b with
 |true=>obtain⟨o,e,c,d⟩:=x;exact⟨o,e,λv z=>by rw[d]at z;cases z⟩
 |false=>obtain⟨o,e,c,d⟩:=x;exact⟨o,e,λv z=>by rw[d]at z;cases z⟩
section
variable {prog:Program} {w:World} {A:Around} {E:Value->Shared->Prop} {s:Shared}
theorem U3{it l:Addr}{i:Nat}{items:Array Value}{x:Value}{Q:Value->Shared->Prop}(hit:s.heap.IsTupleIter it l i)(hl:s.heap.IsTuple l items)(hx:items[i]?=some x)
  (hQ:∀h',h'.IsTupleIter it l (i+1)->Heap.SameBut it s.heap h'->Q x {s with heap:=h'}):wpAny (model prog w) A (Builtin.SmallTypes.nextOf (.ref it)) Q E s:=by
 obtain⟨o,ho,hc,hd⟩:=id hit;obtain⟨ol,hol,_,nl,hdl⟩:=hl;unfold Builtin.SmallTypes.nextOf;refine ah (lT (name:=Str.ofString "__next__") hit.typeIs wV (jg wV hit.typeIs O7 ?_ (O5 _)));show wpAny _ _ (field (.ref it) 0>>=_) _ _ s;refine ah (dW ho hd (x:=.ref l) rfl ?_);show wpAny _ _ (if(Value.ref l==Value.none)=true then _ else _) _ _ s;rw[au (show ¬ ((Value.ref l==Value.none)=true)from bY)];show wpAny _ _ (field (.ref it) 1>>=_) _ _ s;refine ah (dW ho hd (x:=.int i 0) rfl ?_);show wpAny _ _ (seqItems? (.ref l)>>=_) _ _ s;refine ah (jM hol hdl ?_);simp only[bJ,hx];refine ah (p9 ho hd (by simp) (aC ⟨x,rfl,aC (hQ _ ?_ (wZ ..))⟩));exact⟨_,iB _ ho (p7 (ko hd _)),(Obj.cls_mapFields ..).trans hc,by rw[ko hd];simp[rawInt]⟩
theorem U4{it l:Addr}{i:Nat}{items:Array Value}{Q:Value->Shared->Prop}(hh:A.handled=none)(hit:s.heap.IsTupleIter it l i)(hl:s.heap.IsTuple l items)(hx:items[i]?=none)
  (hE:∀h' e,Heap.ExtBut it s.heap h'->(∃o,h'.get? e=some o/\o.cls = .type "StopIteration")->E (.ref e) {s with heap:=h'}):wpAny (model prog w) A (Builtin.SmallTypes.nextOf (.ref it)) Q E s:=by
 obtain⟨o,ho,hc,hd⟩:=id hit;obtain⟨ol,hol,_,nl,hdl⟩:=hl;unfold Builtin.SmallTypes.nextOf;refine ah (lT (name:=Str.ofString "__next__") hit.typeIs wV (jg wV hit.typeIs O7 ?_ (O5 _)));show wpAny _ _ (field (.ref it) 0>>=_) _ _ s;refine ah (dW ho hd (x:=.ref l) rfl ?_);show wpAny _ _ (if(Value.ref l==Value.none)=true then _ else _) _ _ s;rw[au (show ¬ ((Value.ref l==Value.none)=true)from bY)];show wpAny _ _ (field (.ref it) 1>>=_) _ _ s;refine ah (dW ho hd (x:=.int i 0) rfl ?_);show wpAny _ _ (seqItems? (.ref l)>>=_) _ _ s;refine ah (jM hol hdl ?_);simp only[bJ,hx];refine ah (n_ (ah (p9 ho hd (by simp) ?_)));show wpAny _ _ (newExc (.type "StopIteration") []>>=_) _ _ _;refine ah ?_;simp only[newExc,newTuple];refine ah (nY ?_ (by size_fits));refine ah (m:=firstArgMember _ _) (xh (a:=Value.none) (by first|rfl | (simp only[firstArgMember];rfl)) ?_);refine nY ?_ (by size_fits);simp only[raiseNew];refine ah (wpAny_handled ?_)
 first|rw[show A.in1.handled=none from hh] | rw[hh]
 refine ah (aC (wpAny_throw ?_));exact hE _ _ (((wZ ..).extBut.push _).push _) ⟨_,bR _ rfl,rfl⟩
theorem uE{b:Bool}{it l:Addr}{i:Nat}{items:Array Value}{x:Value}{Q:Value->Shared->Prop}(hit:bZ b s.heap it l i)(hl:cB b s.heap l items)(hx:items[i]?=some x)
  (hQ:∀h',bZ b h' it l (i+1)->Heap.SameBut it s.heap h'->Q x {s with heap:=h'}):wpAny (model prog w) A (Builtin.SmallTypes.nextOf (.ref it)) Q E s:=by
 cases b with
 |true=>exact wpAny_nextOf_list_item hit hl hx hQ
 |false=>exact U3 hit hl hx hQ
theorem Am{b:Bool}{it l:Addr}{i:Nat}{items:Array Value}{Q:Value->Shared->Prop}(hh:A.handled=none)(hit:bZ b s.heap it l i)(hl:cB b s.heap l items)(hx:items[i]?=none)
  (hE:∀h' e,Heap.ExtBut it s.heap h'->(∃o,h'.get? e=some o/\o.cls = .type "StopIteration")->E (.ref e) {s with heap:=h'}):wpAny (model prog w) A (Builtin.SmallTypes.nextOf (.ref it)) Q E s:=by
 cases b with
 |true=>exact wpAny_nextOf_list_end hh hit hl hx hE
 |false=>exact U4 hh hit hl hx hE
end
abbrev iu (h:Heap) (z TI TO:Addr) (f0:Value) (b:Bool):Prop:=
 h.get? z=some {cls:=.type "zip", dict:=none,data:=.fields #[f0,.bool b,.bool false,.ref TI,.ref TO],slots:=#[]}
section
variable {prog:Program} {w:World} {A:Around} {E:Value->Shared->Prop} {s:Shared} {c1 c2:Bool} {z TI TO i1 i2 l1 l2:Addr} {k1 k2:Nat} {xs ys:Array Value} {x y a b:Value}
theorem Z1{f0:Value}{bb:Bool}{Q:Value->Shared->Prop}(D:ZipApart z TI TO i1 i2 l1 l2)(hz:iu s.heap z TI TO f0 bb)(hfree:∀{A':Around} {E':Value->Shared->Prop} {Q':Bool->Shared->Prop},Q' true s->wpAny (model prog w) A' (Builtin.SmallTypes.ownedTupleIsFree (.ref z)) Q' E' s)(hTI:IsPair s.heap TI (.ref i1) (.ref i2))(hTO:IsPair s.heap TO a b)(h1:bZ c1 s.heap i1 l1 k1)(h2:bZ c2 s.heap i2 l2 k2)(hl1:cB c1 s.heap l1 xs)(hl2:cB c2 s.heap l2 ys)(hx:xs[k1]?=some x)(hy:ys[k2]?=some y)(hQ:∀h',IsZip h' z TI TO (rawInt s.heap.objs.size)->IsPair h' TO x y->bZ c1 h' i1 l1 (k1+1)->bZ c2 h' i2 l2 (k2+1)->IsPair h' s.heap.objs.size x y->h'.objs.size=s.heap.objs.size+1 ->
   (∀c o,c≠z->c≠TO->c≠i1->c≠i2->s.heap.get? c=some o->h'.get? c=some o)->Q (.ref s.heap.objs.size) {s with heap:=h'}) :
  wpAny (model prog w) A (Builtin.«zip.__next__» ⟨[.ref z],[]⟩) (λfin s'=>∃v,fin = .done (.ret v)/\Q v s') E s:=by
 show wpAny _ _ (field (.ref z) 2>>=_) _ _ _;refine ah (dW hz rfl (x:=.bool false) rfl ?_);show wpAny _ _ (field (.ref z) 3>>=_) _ _ _;refine ah (dW hz rfl (x:=.ref TI) rfl ?_);refine ah (jM hTI rfl ?_);show wpAny _ _ (Builtin.SmallTypes.ownedTupleIsFree (.ref z)>>=_) _ _ _;refine ah (hfree ?_);simp only[mE];refine ah (n_ ?_);refine ah (dW hz rfl (x:=.ref TO) rfl ?_);refine ah (iD hz (by simp) λg1 hz1 e1=>?_)
 replace hz1:iu g1 z TI TO .ellipsis bb:=hz1
 refine ah ?_;simp only[List.zipIdx_cons,List.zipIdx_nil,Ej,List.forIn_nil];refine ah (ah (xi ?_));show wpAny _ _ (Builtin.SmallTypes.nextOf (.ref i1)>>=_) _ _ _;refine ah (uE (h1.at λo q=>e1.extBut _ o D.i1z q) (hl1.at λo q=>e1.extBut _ o D.l1z q) hx λg2 h1' e2=>aC ?_);have qw:IsPair g2 TO a b:=e2.extBut _ _ D.TOi1 (e1.extBut _ _ D.TOz hTO);refine ah (jM qw rfl ?_);refine ah (FG qw λg3 tU e3=>?_)
 replace tU:IsPair g3 TO x b:=tU
 refine ah (wpAny_letGo (aC ?_));refine ah (ah (xi ?_));show wpAny _ _ (Builtin.SmallTypes.nextOf (.ref i2)>>=_) _ _ _;have Dy:∀o,s.heap.get? i2=some o->g3.get? i2=some o:=λo q=>e3.extBut _ o D.TOi2.symm (e2.extBut _ o D.i12.symm (e1.extBut _ o D.i2z q));have Dz:∀o,s.heap.get? l2=some o->g3.get? l2=some o:=λo q=>e3.extBut _ o D.l2TO (e2.extBut _ o D.l2i1 (e1.extBut _ o D.l2z q));refine ah (uE (h2.at Dy) (hl2.at Dz) hy λg4 h2' e4=>aC ?_);have Hy:IsPair g4 TO x b:=e4.extBut _ _ D.TOi2 tU;refine ah (jM Hy rfl ?_);refine ah (FG Hy λg5 tV e5=>?_)
 replace tV:IsPair g5 TO x y:=tV
 refine ah (wpAny_letGo (aC (aC ?_)));refine ah (jM tV rfl ?_);refine ah (wpAny_newTuple ?_);have sz:g5.objs.size=s.heap.objs.size:=by rw[e5.1,e4.1,e3.1,e2.1,e1.1]
 have IK:iu g5 z TI TO .ellipsis bb:=e5.extBut _ _ D.TOz.symm (e4.extBut _ _ D.i2z.symm (e3.extBut _ _ D.TOz.symm (e2.extBut _ _ D.i1z.symm hz1)));have k5:∀c o,c≠z->c≠TO->c≠i1->c≠i2->s.heap.get? c=some o->g5.get? c=some o:=λc o q1 q2 q3 q4 q =>
  e5.extBut _ _ q2 (e4.extBut _ _ q4 (e3.extBut _ _ q2 (e2.extBut _ _ q3 (e1.extBut _ _ q1 q))))
 have h15:bZ c1 g5 i1 l1 (k1+1):=h1'.at λo q=>e5.extBut _ o D.TOi1.symm (e4.extBut _ o D.i12 (e3.extBut _ o D.TOi1.symm q));have RG:bZ c2 g5 i2 l2 (k2+1):=h2'.at λo q=>e5.extBut _ o D.TOi2.symm q;have Ob:z<g5.objs.size:=aV IK;show wpAny _ _ (Builtin.SmallTypes.ownedTupleHandOut (.ref z) (.ref g5.objs.size)>>=_) _ _ _;refine ah ?_;unfold Builtin.SmallTypes.ownedTupleHandOut;have ua:iu (g5.push {cls:=.type "tuple", data:=.seq #[x,y]}) z TI TO .ellipsis bb:=aM _ IK;refine ah (iD ua (by simp) λg7 zQ e7=>?_)
 replace zQ:iu g7 z TI TO (rawInt g5.objs.size) bb:=zQ
 refine iD zQ (by simp) λg8 hz8 e8=>?_
 replace hz8:IsZip g8 z TI TO (rawInt g5.objs.size):=hz8
 have up:∀c o,c≠z->g5.get? c=some o->g8.get? c=some o:=λc o q1 q=>e8.extBut _ _ q1 (e7.extBut _ _ q1 (aM _ q));have hT8:IsPair g8 g5.objs.size x y:=e8.extBut _ _ (gX Ob) (e7.extBut _ _ (gX Ob) (bR _ rfl));have z8:g8.objs.size=g5.objs.size+1:=by rw[e8.1,e7.1,eM]
 rw[sz]at hz8 hT8 z8;refine aC ⟨_,rfl,?_⟩;show Q (.ref g5.objs.size) _;rw[sz];exact hQ g8 hz8 (up _ _ D.TOz tV) (h15.at λo q=>up _ o D.i1z q) (RG.at λo q=>up _ o D.i2z q) hT8 z8 λc o q1 q2 q3 q4 q=>up c o q1 (k5 c o q1 q2 q3 q4 q)
theorem Z4{f0:Value}{bb:Bool}{Q:Fin->Shared->Prop}(hh:A.handled=none)(D:ZipApart z TI TO i1 i2 l1 l2)(hz:iu s.heap z TI TO f0 bb)(hfree:∀{A':Around} {E':Value->Shared->Prop} {Q':Bool->Shared->Prop},Q' true s->wpAny (model prog w) A' (Builtin.SmallTypes.ownedTupleIsFree (.ref z)) Q' E' s)(hTI:IsPair s.heap TI (.ref i1) (.ref i2))(hTO:IsPair s.heap TO a b)(h1:bZ c1 s.heap i1 l1 k1)(h2:bZ c2 s.heap i2 l2 k2)(hl1:cB c1 s.heap l1 xs)(hl2:cB c2 s.heap l2 ys)(hend:xs[k1]?=none\/ys[k2]?=none)
  (hE:∀h' e,(∀c o,c≠z->c≠TO->c≠i1->c≠i2->s.heap.get? c=some o->h'.get? c=some o)->(∃o,h'.get? e=some o/\o.cls = .type "StopIteration")->E (.ref e) {s with heap:=h'}) :
  wpAny (model prog w) A (Builtin.«zip.__next__» ⟨[.ref z],[]⟩) Q E s:=by
 show wpAny _ _ (field (.ref z) 2>>=_) _ _ _;refine ah (dW hz rfl (x:=.bool false) rfl ?_);show wpAny _ _ (field (.ref z) 3>>=_) _ _ _;refine ah (dW hz rfl (x:=.ref TI) rfl ?_);refine ah (jM hTI rfl ?_);show wpAny _ _ (Builtin.SmallTypes.ownedTupleIsFree (.ref z)>>=_) _ _ _;refine ah (hfree ?_);simp only[mE];refine ah (n_ ?_);refine ah (dW hz rfl (x:=.ref TO) rfl ?_);refine ah (iD hz (by simp) λg1 hz1 e1=>?_)
 replace hz1:iu g1 z TI TO .ellipsis bb:=hz1
 refine ah ?_;simp only[List.zipIdx_cons,List.zipIdx_nil,Ej,List.forIn_nil];refine ah (ah (xi ?_));show wpAny _ _ (Builtin.SmallTypes.nextOf (.ref i1)>>=_) _ _ _;have u1:∀o,s.heap.get? i1=some o->g1.get? i1=some o:=λo q=>e1.extBut _ o D.i1z q;have u2:∀o,s.heap.get? l1=some o->g1.get? l1=some o:=λo q=>e1.extBut _ o D.l1z q;cases hx:xs[k1]? with
 |none =>
  refine ah (Am hh (h1.at u1) (hl1.at u2) hx λg2 e e2 he=>?_);obtain⟨oe,hoe,hce⟩:=he;have hz2:iu g2 z TI TO .ellipsis bb:=e2 _ _ D.i1z.symm hz1;have hez:e≠z:=λq=>by subst q;rw[hz2]at hoe;cases hoe;simp at hce
  exact iD hz2 (by simp) λg3 _ e3=>hE g3 e (λc o q1 _ q3 _ q=>e3.extBut _ _ q1 (e2 _ _ q3 (e1.extBut _ _ q1 q))) ⟨oe,e3.extBut _ _ hez hoe,hce⟩
 |some x =>
  have hy:ys[k2]?=none:=by rcases hend with h|h;rw[hx]at h;cases h;exact h
  refine ah (uE (h1.at u1) (hl1.at u2) hx λg2 h1' e2=>aC ?_);have qw:IsPair g2 TO a b:=e2.extBut _ _ D.TOi1 (e1.extBut _ _ D.TOz hTO);refine ah (jM qw rfl ?_);refine ah (FG qw λg3 tU e3=>?_);refine ah (wpAny_letGo (aC ?_));refine ah (ah (xi ?_));show wpAny _ _ (Builtin.SmallTypes.nextOf (.ref i2)>>=_) _ _ _;have Dy:∀o,s.heap.get? i2=some o->g3.get? i2=some o:=λo q=>e3.extBut _ o D.TOi2.symm (e2.extBut _ o D.i12.symm (e1.extBut _ o D.i2z q));have Dz:∀o,s.heap.get? l2=some o->g3.get? l2=some o:=λo q=>e3.extBut _ o D.l2TO (e2.extBut _ o D.l2i1 (e1.extBut _ o D.l2z q));refine ah (Am hh (h2.at Dy) (hl2.at Dz) hy λg4 e e4 he=>?_);obtain⟨oe,hoe,hce⟩:=he;have Iz:iu g4 z TI TO .ellipsis bb:=e4 _ _ D.i2z.symm (e3.extBut _ _ D.TOz.symm (e2.extBut _ _ D.i1z.symm hz1));have hez:e≠z:=λq=>by subst q;rw[Iz]at hoe;cases hoe;simp at hce
  exact iD Iz (by simp) λg5 _ e5=>hE g5 e (λc o q1 q2 q3 q4 q=>e5.extBut _ _ q1 (e4 _ _ q4 (e3.extBut _ _ q2 (e2.extBut _ _ q3 (e1.extBut _ _ q1 q))))) ⟨oe,e5.extBut _ _ hez hoe,hce⟩
theorem Z3{f0:Value}{bb:Bool}{Q:Option Value->Shared->Prop}(D:ZipApart z TI TO i1 i2 l1 l2)(hz:iu s.heap z TI TO f0 bb)(hfree:∀{A':Around} {E':Value->Shared->Prop} {Q':Bool->Shared->Prop},Q' true s->wpAny (model prog w) A' (Builtin.SmallTypes.ownedTupleIsFree (.ref z)) Q' E' s)(hTI:IsPair s.heap TI (.ref i1) (.ref i2))(hTO:IsPair s.heap TO a b)(h1:bZ c1 s.heap i1 l1 k1)(h2:bZ c2 s.heap i2 l2 k2)(hl1:cB c1 s.heap l1 xs)(hl2:cB c2 s.heap l2 ys)(hx:xs[k1]?=some x)(hy:ys[k2]?=some y)(hQ:∀h',IsZip h' z TI TO (rawInt s.heap.objs.size)->IsPair h' TO x y->bZ c1 h' i1 l1 (k1+1)->bZ c2 h' i2 l2 (k2+1)->IsPair h' s.heap.objs.size x y->h'.objs.size=s.heap.objs.size+1 ->
   (∀c o,c≠z->c≠TO->c≠i1->c≠i2->s.heap.get? c=some o->h'.get? c=some o)->Q (some (.ref s.heap.objs.size)) {s with heap:=h'}) :
  wpAny (model prog w) A (pyNext (.ref z)) Q E s:=by
 have hT:s.TypeIs (.ref z) "zip" :=⟨_,hz,rfl⟩;unfold pyNext;exact ah (kr (lT (name:=Str.ofString "__next__") hT wW (jg wW hT F.entry_zip_next
  (Z1 D hz hfree hTI hTO h1 h2 hl1 hl2 hx hy λh' a1 a2 a3 a4 a5 a6 a7=>aC (hQ h' a1 a2 a3 a4 a5 a6 a7)) (F.args_zip_next_1 _))))
theorem Z0{f0:Value}{bb:Bool}{Q:Option Value->Shared->Prop}(hh:A.handled=none)(D:ZipApart z TI TO i1 i2 l1 l2)(hz:iu s.heap z TI TO f0 bb)(hfree:∀{A':Around} {E':Value->Shared->Prop} {Q':Bool->Shared->Prop},Q' true s->wpAny (model prog w) A' (Builtin.SmallTypes.ownedTupleIsFree (.ref z)) Q' E' s)(hTI:IsPair s.heap TI (.ref i1) (.ref i2))(hTO:IsPair s.heap TO a b)(h1:bZ c1 s.heap i1 l1 k1)(h2:bZ c2 s.heap i2 l2 k2)(hl1:cB c1 s.heap l1 xs)(hl2:cB c2 s.heap l2 ys)(hend:xs[k1]?=none\/ys[k2]?=none)
  (hQ:∀h',(∀c o,c≠z->c≠TO->c≠i1->c≠i2->s.heap.get? c=some o->h'.get? c=some o)->Q none {s with heap:=h'}):wpAny (model prog w) A (pyNext (.ref z)) Q E s:=by
 have hT:s.TypeIs (.ref z) "zip" :=⟨_,hz,rfl⟩;unfold pyNext;refine ah (kr (lT (name:=Str.ofString "__next__") hT wW (jg wW hT F.entry_zip_next (Z4 hh D hz hfree hTI hTO h1 h2 hl1 hl2 hend λh' e hk he=>?_) (F.args_zip_next_1 _))));obtain⟨o,ho,hc⟩:=he;refine ah (xg (T:= "StopIteration") (b:=true) ⟨o,ho,hc⟩ isSubtype_stop ?_);exact aC (hQ _ hk)
theorem Hk(hz:IsZip s.heap z TI TO .none){A':Around}{E':Value->Shared->Prop}{Q':Bool->Shared->Prop}(h:Q' true s):wpAny (model prog w) A' (Builtin.SmallTypes.ownedTupleIsFree (.ref z)) Q' E' s:=by
 unfold Builtin.SmallTypes.ownedTupleIsFree;exact ah (dW hz rfl (x:=.none) rfl (aC h))
theorem Z2{Q:Option Value->Shared->Prop}(D:ZipApart z TI TO i1 i2 l1 l2)(hz:IsZip s.heap z TI TO .none)(hTI:IsPair s.heap TI (.ref i1) (.ref i2))(hTO:IsPair s.heap TO a b)(h1:bZ c1 s.heap i1 l1 k1)(h2:bZ c2 s.heap i2 l2 k2)(hl1:cB c1 s.heap l1 xs)(hl2:cB c2 s.heap l2 ys)(hx:xs[k1]?=some x)(hy:ys[k2]?=some y)(hQ:∀h',IsZip h' z TI TO (rawInt s.heap.objs.size)->IsPair h' TO x y->bZ c1 h' i1 l1 (k1+1)->bZ c2 h' i2 l2 (k2+1)->IsPair h' s.heap.objs.size x y->h'.objs.size=s.heap.objs.size+1 ->
   (∀c o,c≠z->c≠TO->c≠i1->c≠i2->s.heap.get? c=some o->h'.get? c=some o)->Q (some (.ref s.heap.objs.size)) {s with heap:=h'}) :
  wpAny (model prog w) A (pyNext (.ref z)) Q E s:=Z3 D hz (Hk hz) hTI hTO h1 h2 hl1 hl2 hx hy hQ
theorem ZZ{Q:Option Value->Shared->Prop}(hh:A.handled=none)(D:ZipApart z TI TO i1 i2 l1 l2)(hz:IsZip s.heap z TI TO .none)(hTI:IsPair s.heap TI (.ref i1) (.ref i2))(hTO:IsPair s.heap TO a b)(h1:bZ c1 s.heap i1 l1 k1)(h2:bZ c2 s.heap i2 l2 k2)(hl1:cB c1 s.heap l1 xs)(hl2:cB c2 s.heap l2 ys)(hend:xs[k1]?=none\/ys[k2]?=none)
  (hQ:∀h',(∀c o,c≠z->c≠TO->c≠i1->c≠i2->s.heap.get? c=some o->h'.get? c=some o)->Q none {s with heap:=h'}):wpAny (model prog w) A (pyNext (.ref z)) Q E s:=Z0 hh D hz (Hk hz) hTI hTO h1 h2 hl1 hl2 hend hQ
end
noncomputable def Sq(b:Bool)(K:W.Frag)(H:Hp)(a:Addr)(xs:List V):Prop:=match b with
 |true=>ai K H a xs
 |false=>aQ K H a xs
section
variable {X:Cx} {pins:List (Addr × Obj)} {σ:St} {H:Hp} {s:Shared} {a:Addr} {xs ys:List V} {c:Bool}
theorem Inv.sq(I:Inv X pins σ H s)(h:Sq c X.K H a xs):∃its:List Value,Vals xs its/\cB c s.heap a its.toArray/\xs.length<=sizeLine:=by
 cases c with
 |true=>obtain⟨its,r,p,z⟩:=I.list h;exact⟨its,r,p.isList,z⟩
 |false=>obtain⟨its,r,p,z⟩:=I.tuple h;exact⟨its,r,p,z⟩
theorem Inv.Dm(I:Inv X pins σ H s)(h:Sq c X.K H a xs)(h':Sq c X.K H a ys):xs=ys:=by
 cases c with
 |true=>exact I.Jx h h'
 |false=>exact I.Dw h h'
theorem Inv.d_(I:Inv X pins σ H s)(h:Sq c X.K H a xs){b:Addr}(f:eJ X pins H b):a≠b:=by
 intro e;subst e;have base:∀o,X.K.lookup a=some o->False:=λo q=>by
  have e1:=I.ok.mod.iN a o q
  rcases f.2.2.2.1 with z|z
  ·exact I.ok.jq a o e1 z
  ·exact absurd (cg (aV e1) (bN I.ok.f6 z)) (fh _)
 cases c with
 |true =>
  rcases h with(h|⟨o,h⟩)|⟨o,_,_,h,_⟩
  ·rw[f.1]at h;cases h
  ·rw[f.1]at h;cases h
  ·exact base o h
 |false =>
  rcases h with(h|⟨o,h⟩)|⟨o,_,_,h,_⟩
  ·rw[f.1]at h;cases h
  ·rw[f.1]at h;cases h
  ·exact base o h
theorem Inv.NX{h':Heap}{t':Nat}{ch:List Addr}{T:Addr}{o:HO}(I:Inv X pins σ H s)(hch:∀b∈ch,eJ X pins H b)
  (k:∀b u,b ∉ ch->s.heap.get? b=some u->h'.get? b=some u) (hT:s.heap.objs.size<=T) (new:bG X.prog X.w (upd H T o) h' T o):Inv X pins σ (upd H T o) {s with heap:=h',toks:=t'}:=by
 have oy:H T=none:=I.hok.fresh hT;have qJ:∀b u,H b=some u->b ∉ ch:=λb u e z=>by rw[(hch b z).1]at e;cases e
 have hb:∀b u,s.heap.get? b=some u->b≠T:=λb u e=>bO (cg (aV e) hT);refine I.step (g':=s.gens) (d':=s.drawn) (ch:=ch) (λb hb=>⟨(hch b hb).2.2.2.1,(hch b hb).2.1,(hch b hb).2.2.2.2.1,(hch b hb).2.2.2.2.2⟩) (λb u _ _ hc e _=>k b u hc e) (λb u _ _ hc e _=>⟨u.slots,k b u hc e⟩)
  (λb u _ e n=>by rw[aA (hb b u e)];exact n) (λb u hc e=>⟨u,k b u hc e⟩) (λb ys e=>by rw[aA (cF e oy)];exact e) (λb u ys e=>by rw[aA (cF e oy)];exact e)
  (λb ps e=>⟨#[],by rw[aA (cF e oy),e];simp⟩) (λm hm=>?_) (λb u e=>?_) I.bare
 ·obtain⟨o',es,ep,ho,r⟩:=hm
  exact⟨o',es,ep,k _ o' (λz=>(hch _ z).2.1 rfl) ho,r⟩
 ·by_cases hbT:b=T
  ·subst hbT;rw[ak]at e;cases e;exact new
  ·rw[aA hbT]at e
   refine(I.hok b u e).stay (λc v hc q=>k c v ?_ q) (λc q=>by rw[aA (cF q oy)];exact q) (λc ys q=>by rw[aA (cF q oy)];exact q) λc ob u q=>by rw[aA (cF q oy)];exact q
   rcases hc with z|z
   ·rw[z];exact qJ b u e
   ·exact qJ c _ z
theorem Inv.NT{h':Heap}{t':Nat}{ch:List Addr}(I:Inv X pins σ H s)(hch:∀b∈ch,eJ X pins H b)
  (k:∀b u,b ∉ ch->s.heap.get? b=some u->h'.get? b=some u):Inv X pins σ H {s with heap:=h',toks:=t'}:=by
 have qJ:∀b u,H b=some u->b ∉ ch:=λb u e z=>by rw[(hch b z).1]at e;cases e
 refine I.step (g':=s.gens) (d':=s.drawn) (ch:=ch) (λb hb=>⟨(hch b hb).2.2.2.1,(hch b hb).2.1,(hch b hb).2.2.2.2.1,(hch b hb).2.2.2.2.2⟩) (λb u _ _ hc e _=>k b u hc e) (λb u _ _ hc e _=>⟨u.slots,k b u hc e⟩)
  (λb u _ e n=>n) (λb u hc e=>⟨u,k b u hc e⟩) (λb ys e=>e) (λb u ys e=>e) (λb ps e=>⟨#[],by rw[e];simp⟩) (λm hm=>?_) (λb u e=>?_) I.bare
 ·obtain⟨o',es,ep,ho,r⟩:=hm
  exact⟨o',es,ep,k _ o' (λz=>(hch _ z).2.1 rfl) ho,r⟩
 ·refine(I.hok b u e).stay (λc v hc q=>k c v ?_ q) (λc q=>q) (λc ys q=>q) λc ob u q=>q
  rcases hc with z|z
  ·rw[z];exact qJ b u e
  ·exact qJ c _ z
end
noncomputable def wx(K:W.Frag)(c1 c2:Bool)(l1 l2:Addr):It:=
 ⟨λi H=>∃xs ys x y,Sq c1 K H l1 xs/\Sq c2 K H l2 ys/\xs[i]?=some x/\ys[i]?=some y,
   λi H v H'=>∃T x y,v = .ref T/\H T=none/\H'=upd H T (.tup [x,y])/\(∀xs,Sq c1 K H l1 xs->xs[i]?=some x)/\∀ys,Sq c2 K H l2 ys->ys[i]?=some y,
   λi H=>∃xs ys,Sq c1 K H l1 xs/\Sq c2 K H l2 ys/\(xs.length<=i\/ys.length<=i)⟩
structure FJ (c1 c2:Bool) (z TI TO i1 i2 l1 l2:Addr) (i:Nat) (h:Heap):Prop where
 hz:IsZip h z TI TO .none
 ti:IsPair h TI (.ref i1) (.ref i2)
 to:∃a b,IsPair h TO a b
 h1:bZ c1 h i1 l1 i
 h2:bZ c2 h i2 l2 i
theorem Ke{P:Program}{w:World}{H:Hp}{h:Heap}{T:Addr}{x y:V}{u v:Value}(e:IsPair h T u v)(r1:RelV x u)(r2:RelV y v):bG P w H h T (.tup [x,y]):=
 ⟨by show 2<=sizeLine;decide,[u,v],.cons r1 (.cons r2 .nil),⟨_,e,rfl,_,rfl⟩,_,e,rfl⟩
theorem Zj{P:Program}{w:World}{K:W.Frag}{elts:List Expr}{k:Nat}{pos:Pos}{c1 c2:Bool}{z TI TO i1 i2:Addr}(l1 l2:Addr)(nd:TI≠z/\TO≠z/\i1≠z/\i2≠z/\TI≠TO/\TI≠i1/\TI≠i2/\TO≠i1/\TO≠i2/\i1≠i2):Turn P w K (.Tuple elts k pos) (wx K c1 c2 l1 l2) [z,TI,TO,i1,i2] z (FJ c1 c2 z TI TO i1 i2 l1 l2) where
 mem:=by simp
 obj:=λi h st b hb=>by
  have fld:∀{a:Addr} {o:Obj},h.get? a=some o->(∀v,o.data≠.cell v)->∃o,h.get? a=some o/\∀v,o.data≠.cell v:=λe d=>⟨_,e,d⟩;simp only[bu,fS,gA]at hb
  rcases hb with rfl|rfl|rfl|rfl|rfl
  ·exact⟨_,st.hz,λv q=>by cases(show Data.fields _=Data.cell v from q)⟩
  ·exact⟨_,st.ti,λv q=>by cases(show Data.seq _ _=Data.cell v from q)⟩
  ·obtain⟨_,_,e⟩:=st.to
   exact⟨_,e,λv q=>by cases(show Data.seq _ _=Data.cell v from q)⟩
  ·exact st.h1.obj
  ·exact st.h2.obj
 keep:=λi h h' st kk=>⟨kk z (by simp) _ st.hz,kk TI (by simp) _ st.ti,let⟨a,b,e⟩:=st.to;⟨a,b,kk TO (by simp) _ e⟩,st.h1.at λo e=>kk i1 (by simp) o e,st.h2.at λo e=>kk i2 (by simp) o e⟩
 item:=by
  intro X hP hw hK hc i pins s σ H E I hf st hg;subst hP hw hK;obtain⟨xs,ys,x,y,q1,q2,hx,hy⟩:=hg;obtain⟨zX,Bf,p1,z1⟩:=I.sq q1;obtain⟨zY,Bg,p2,z2⟩:=I.sq q2;obtain⟨u,hu,ru⟩:=Bf.get hx;obtain⟨v,hv,rv⟩:=Bg.get hy;obtain⟨a,b,hTO⟩:=st.to;obtain⟨n1,n2,n3,n4,n5,n6,n7,n8,n9,n10⟩:=nd;have D:ZipApart z TI TO i1 i2 l1 l2:=⟨n1,n2,n3,n4,n5,n6,n7,n8,n9,n10,I.d_ q1 (hf z (by simp)),I.d_ q1 (hf TO (by simp)),I.d_ q1 (hf i1 (by simp)),I.d_ q1 (hf i2 (by simp)),
   I.d_ q2 (hf z (by simp)),I.d_ q2 (hf TO (by simp)),I.d_ q2 (hf i1 (by simp)),I.d_ q2 (hf i2 (by simp))⟩
  refine Z2 D st.hz st.ti hTO st.h1 st.h2 p1 p2 (by simpa using hu) (by simpa using hv) λh' a1 a2 a3 a4 a5 a6 a7=>?_;refine⟨_,rfl,wpAny_letOwnedTupleGo_zip a1 λh2 b1 b2=>?_⟩;have hzlt:z<s.heap.objs.size:=aV st.hz;have R7:IsPair h2 TI (.ref i1) (.ref i2):=b2.extBut _ _ n1 (a7 _ _ n1 n5 n6 n7 st.ti);have keep:∀b u,b ∉ [z,TO,i1,i2]->s.heap.get? b=some u->h2.get? b=some u:=λb u hb e=>by
   simp only[bu,fS,gA,not_or]at hb;exact b2.extBut _ _ hb.1 (a7 b u hb.1 hb.2.1 hb.2.2.1 hb.2.2.2 e)
  have hT2:IsPair h2 s.heap.objs.size u v:=b2.extBut _ _ (gX hzlt) a5;have Dq:∀b∈[z,TO,i1,i2],b∈[z,TI,TO,i1,i2]:=λb hb=>by
   simp only[bu,fS,gA]at hb ⊢
   rcases hb with h|h|h|h<;>simp[h]
  have I2:Inv X pins σ (upd H s.heap.objs.size (.tup [x,y])) {s with heap:=h2,toks:=s.toks}:=
   I.NX (λb hb=>hf b (Dq b hb)) keep (aO _) (Ke hT2 ru rv)
  refine⟨.ref s.heap.objs.size,_,I2,rfl,⟨_,x,y,rfl,I.fresh,rfl,λzs hz=>by rw[I.Dm hz q1];exact hx,λzs hz=>by rw[I.Dm hz q2];exact hy⟩,
   ⟨b1,R7,⟨u,v,b2.extBut _ _ n2 a2⟩,a3.at λo e=>b2.extBut _ o n3 e,a4.at λo e=>b2.extBut _ o n4 e⟩,λb hb=>?_⟩
  have hlt:b<s.heap.objs.size:=by
   have live:∀b∈[z,TI,TO,i1,i2],b<s.heap.objs.size:=λb hb=>by
    simp only[bu,fS,gA]at hb
    rcases hb with rfl|rfl|rfl|rfl|rfl
    ·exact hzlt
    ·exact aV st.ti
    ·exact aV hTO
    ·obtain⟨o,e,_⟩:=st.h1.obj;exact aV e
    ·obtain⟨o,e,_⟩:=st.h2.obj;exact aV e
   exact live b hb
  rw[aA (bO hlt)];exact(hf b hb).1
 done:=by
  intro X hP hw hK hc i pins s σ H E I hf st hg;subst hP hw hK;obtain⟨xs,ys,q1,q2,hend⟩:=hg;obtain⟨zX,Bf,p1,z1⟩:=I.sq q1;obtain⟨zY,Bg,p2,z2⟩:=I.sq q2;obtain⟨a,b,hTO⟩:=st.to;obtain⟨n1,n2,n3,n4,n5,n6,n7,n8,n9,n10⟩:=nd;have D:ZipApart z TI TO i1 i2 l1 l2:=⟨n1,n2,n3,n4,n5,n6,n7,n8,n9,n10,I.d_ q1 (hf z (by simp)),I.d_ q1 (hf TO (by simp)),I.d_ q1 (hf i1 (by simp)),I.d_ q1 (hf i2 (by simp)),
   I.d_ q2 (hf z (by simp)),I.d_ q2 (hf TO (by simp)),I.d_ q2 (hf i1 (by simp)),I.d_ q2 (hf i2 (by simp))⟩
  have e1:=Bf.length;have e2:=Bg.length;have hend':zX.toArray[i]?=none\/zY.toArray[i]?=none:=by
   rcases hend with h|h
   ·exact .inl (by simp;omega)
   ·exact .inr (by simp;omega)
  refine ZZ (I.ok.hd hc) D st.hz st.ti hTO st.h1 st.h2 p1 p2 hend' λh' kk=>⟨rfl,?_⟩;have Dq:∀b∈[z,TO,i1,i2],b∈[z,TI,TO,i1,i2]:=λb hb=>by
   simp only[bu,fS,gA]at hb ⊢
   rcases hb with h|h|h|h<;>simp[h]
  exact I.NT (t':=s.toks) (ch:=[z,TO,i1,i2]) (λb hb=>hf b (Dq b hb)) λb u hb e=>by
   simp only[bu,fS,gA,not_or]at hb;exact kk b u hb.1 hb.2.1 hb.2.2.1 hb.2.2.2 e
 self:=λ_ _ _ _ _ st h=>wpAny_pyIter_zip st.hz h
noncomputable def hV (c:Bool) (l:Addr):Obj:={cls:=.type (match c with|true => "list_iterator" |false => "tuple_iterator"),data:=.fields #[.ref l,.int 0 0]}
theorem Dk{c:Bool}{h:Heap}{it l:Addr}(e:h.get? it=some (hV c l)):bZ c h it l 0:=by
 cases c with
 |true=>exact⟨_,e,rfl,rfl⟩
 |false=>exact⟨_,e,rfl,rfl⟩
section
variable {prog:Program} {w:World} {A:Around} {E:Value->Shared->Prop} {s:Shared}
theorem qD{c:Bool}{l:Addr}{items:Array Value}{Q:Value->Shared->Prop}(hl:cB c s.heap l items)
  (hQ:Q (.ref s.heap.objs.size) {s with heap:=s.heap.push (hV c l)}):wpAny (model prog w) A (pyIter (.ref l)) Q E s:=by
 cases c with
 |true=>exact sG hl hQ
 |false=>exact wpAny_pyIter_tuple hl hQ
end
abbrev wa (c1:Bool) (h:Heap) (l1:Addr):Heap:=h.push (hV c1 l1)
abbrev wc (c1 c2:Bool) (h:Heap) (l1 l2:Addr):Heap:=(wa c1 h l1).push (hV c2 l2)
abbrev wg (c1 c2:Bool) (h:Heap) (l1 l2:Addr):Heap:=(wc c1 c2 h l1 l2).push {cls:=.type "tuple", data:=.seq #[.ref h.objs.size,.ref (wa c1 h l1).objs.size]}
abbrev wj (c1 c2:Bool) (h:Heap) (l1 l2:Addr):Heap:=(wg c1 c2 h l1 l2).push {cls:=.type "tuple", data:=.seq #[.none,.none]}
abbrev ni (c1 c2:Bool) (h:Heap) (l1 l2:Addr):Heap:=(wj c1 c2 h l1 l2).push {cls:=.type "zip", data:=.fields #[.none,.bool false,.bool false,.ref (wc c1 c2 h l1 l2).objs.size,.ref (wg c1 c2 h l1 l2).objs.size]}
theorem Uq(c1 c2:Bool)(l1 l2:Addr)(xs ys:Array Value):
  Meets (Builtin.«zip.__new__» ⟨[.type "zip", .ref l1,.ref l2],[]⟩) (λ_ R s=>cB c1 s.heap l1 xs/\cB c2 s.heap l2 ys /\
   R (.ok (.ret (.ref (wj c1 c2 s.heap l1 l2).objs.size))) {s with heap:=ni c1 c2 s.heap l1 l2}):=
 .of_wp λprog w A R s h=>by
  obtain⟨hp,g,d,tk,os⟩:=s;obtain⟨hl1,hl2,h⟩:=h;have hsub:=sub_zip;have hL1:cB c1 (Shared.heap ⟨hp,g,d,tk,os⟩) l1 xs:=hl1;have hL2:cB c2 (Shared.heap ⟨hp.push (hV c1 l1),g,d,tk,os⟩) l2 ys:=hl2.at λo e=>aM _ e
  wp_walk using qD hL1,qD hL2
  exact⟨_,rfl,h⟩
section
variable {prog:Program} {w:World} {A:Around} {E:Value->Shared->Prop} {s:Shared}
theorem P1{c1 c2:Bool}{l1 l2:Addr}{xs ys:Array Value}{Q:Value->Shared->Prop}(hl1:cB c1 s.heap l1 xs)(hl2:cB c2 s.heap l2 ys)(h:∀h',FJ c1 c2 (s.heap.objs.size+4) (s.heap.objs.size+2) (s.heap.objs.size+3) s.heap.objs.size (s.heap.objs.size+1) l1 l2 0 h'->h'.objs.size=s.heap.objs.size+5 ->
   (∀c o,s.heap.get? c=some o->h'.get? c=some o)->Q (.ref (s.heap.objs.size+4)) {s with heap:=h'}) :
  wpAny (model prog w) A (call (.type "zip") [.ref l1,.ref l2]) Q E s:=by
 refine callType_new F.called_zip (by decide) (F.typeCall_zip_2 _ _) (F.newCall_zip_2 _ _) (λobj=>F.args_object_init_3 obj _ _) F.entry_zip_new (Uq c1 c2 l1 l2 xs ys) ⟨hl1,hl2,?_⟩;have z1:(wa c1 s.heap l1).objs.size=s.heap.objs.size+1:=eM ..;have z2:(wc c1 c2 s.heap l1 l2).objs.size=s.heap.objs.size+2:=by rw[eM,z1]
 have z3:(wg c1 c2 s.heap l1 l2).objs.size=s.heap.objs.size+3:=by rw[eM,z2]
 have z4:(wj c1 c2 s.heap l1 l2).objs.size=s.heap.objs.size+4:=by rw[eM,z3]
 have z5:(ni c1 c2 s.heap l1 l2).objs.size=s.heap.objs.size+5:=by rw[eM,z4]
 have g5:(ni c1 c2 s.heap l1 l2).get? (wj c1 c2 s.heap l1 l2).objs.size=some _:=bR _ rfl;have g4:(ni c1 c2 s.heap l1 l2).get? (wg c1 c2 s.heap l1 l2).objs.size=some _:=aM _ (bR _ rfl);have g3:(ni c1 c2 s.heap l1 l2).get? (wc c1 c2 s.heap l1 l2).objs.size=some _:=aM _ (aM _ (bR _ rfl));have g2:(ni c1 c2 s.heap l1 l2).get? (wa c1 s.heap l1).objs.size=some _:=aM _ (aM _ (aM _ (bR _ rfl)));have g1:(ni c1 c2 s.heap l1 l2).get? s.heap.objs.size=some _:=aM _ (aM _ (aM _ (aM _ (bR _ rfl))));show _/\_;rw[z2,z3,z4]at g5;rw[z1,z2]at g3;rw[z3]at g4;rw[z1]at g2;rw[z4];exact⟨⟨_,g5,rfl⟩,h _ ⟨g5,g3,⟨_,_,g4⟩,Dk g1,Dk g2⟩ z5 λc o x =>
  aM _ (aM _ (aM _ (aM _ (aM _ x))))⟩
end
section
variable {X:Cx} {elts:List Expr} {k:Nat} {tpos:Pos}
noncomputable def I_(K:W.Frag)(c1 c2:Bool)(ta:TA):TI:=λσ H R=>ta σ H λvs H1=>∃l1 l2 xs ys,vs = [.ref l1,.ref l2]/\Sq c1 K H1 l1 xs/\Sq c2 K H1 l2 ys/\R (wx K c1 c2 l1 l2) H1
theorem Xe (c1 c2:Bool) {a b:Expr} {ta:TA} {p pos:Pos} (hg:Gl X "zip") (hm:X.mg "zip" = none) (ha:PA X [a,b] ta) (hs:starEach [a,b] X.env = [(false,eval a X.env),(false,eval b X.env)]:=by rfl) (hs2:starEach [b] X.env = [(false,eval b X.env)]:=by rfl) :
  PI X (.Tuple elts k tpos) (.Call (.Name "zip" p) [a,b] [] pos) (I_ X.K c1 c2 ta):=by
 intro pins s σ H R I h;refine Call_ (mG I hg hm (show bootBuiltins "zip" = some (.type "zip")by decide +kernel) (sj (aG (ha pos pins s σ H _ I h) λus s1 ⟨vs,H1,I1,r1,q1⟩=>?_) (by rw[hs,hs2]) (by rw[hs2];rfl)));obtain⟨l1,l2,xs,ys,e,q1,q2,q⟩:=q1;subst e;obtain⟨u,v,rfl,ru,rv⟩:=Vals.two r1;cases ru;cases rv;obtain⟨zX,_,p1,_⟩:=I1.sq q1;obtain⟨zY,_,p2,_⟩:=I1.sq q2;refine P1 p1 p2 λh' zr hz hk=>wpAny_pyIter_zip zr.hz ?_;have I2:Inv X pins σ H1 {s1 with heap:=h',toks:=s1.toks}:=I1.kept hk;have nd:∀n:Nat,n+2≠n+4/\n+3≠n+4/\n≠n+4/\n+1≠n+4/\n+2≠n+3/\n+2≠n/\n+2≠n+1/\n+3≠n/\n+3≠n+1/\n≠n+1:=λn=>by omega
 refine⟨_,_,_,_,H1,rfl,I2,Zj l1 l2 (nd s1.heap.objs.size),zr,λb hb=>?_,q⟩;simp only[bu,fS,gA]at hb;have ge:s1.heap.objs.size<=b:=by rcases hb with rfl|rfl|rfl|rfl|rfl<;>omega
 exact I1.ml ge (I1.hok.fresh ge)
end
theorem GR{prog:Program}{w:World}{A:Around}(hh:A.handled=none)(c:Bool)(it l:Addr)(hne:l≠it)(items:Array Value):Draws prog w A it [it,l] items.size (λi v=>items[i]?=some v) (λi h=>bZ c h it l i/\cB c h l items) where
 live:=λ_ _ st=>let⟨o,ho,_⟩:=st.1.obj;⟨o,ho⟩
 frame:=λ_ _ _ st hk=>⟨st.1.at λo e=>hk it (by simp) o e,st.2.at λo e=>hk l (by simp) o e⟩
 item:=λi s Q E hi st hQ=>uE st.1 st.2 (x:=items[i]) (by simp[hi]) λh' hit' hs'=>hQ _ h' s.toks (by simp[hi]) ⟨hit',st.2.at λo e=>hs'.extBut _ o hne e⟩ hs'
 done:=λs Q E st hE=>Am hh st.1 st.2 (by simp) hE
theorem Up(c:Bool)(l:Addr)(items:Array Value):
  Meets (Builtin.«enumerate.__new__» ⟨[.type "enumerate", .ref l],[]⟩) (λ_ R s=>cB c s.heap l items /\
   R (.ok (.ret (.ref (s.heap.push (hV c l)).objs.size))) {s with heap:=(s.heap.push (hV c l)).push {cls:=.type "enumerate", data:=.fields #[.none,.bool false,.ref s.heap.objs.size,rawInt 0,.none,.none]}}):=
 .of_wp λprog w A R s h=>by
  obtain⟨hp,g,d,tk,os⟩:=s;obtain⟨hl,h⟩:=h;have hsub:=sub_enumerate;have hL:cB c (Shared.heap ⟨hp,g,d,tk,os⟩) l items:=hl
  wp_walk
  refine wpAny_stack_any λst=>aC ?_
  split
  ·rename_i cc _ _ _ _ _
   cases(cc==Value.type "enumerate")
   ·wp_walk using qD hL
    exact⟨_,rfl,h⟩
   ·wp_walk using qD hL
    exact⟨_,rfl,h⟩
  ·wp_walk using qD hL
   exact⟨_,rfl,h⟩
structure Ee (c:Bool) (e it l:Addr) (i:Nat) (h:Heap):Prop where
 he:∃old,IsEnum h e it i old
 h1:bZ c h it l i
theorem P0{prog:Program}{w:World}{A:Around}{E:Value->Shared->Prop}{s:Shared}{c:Bool}{l:Addr}{items:Array Value}{Q:Value->Shared->Prop}(hl:cB c s.heap l items)
  (h:∀h',Ee c (s.heap.objs.size+1) s.heap.objs.size l 0 h'->h'.objs.size=s.heap.objs.size+2->(∀b o,s.heap.get? b=some o->h'.get? b=some o)->Q (.ref (s.heap.objs.size+1)) {s with heap:=h'}) :
  wpAny (model prog w) A (call (.type "enumerate") [.ref l]) Q E s:=by
 refine callType_new F.called_enumerate (by decide) (F.typeCall_enumerate_1 _) (F.newCall_enumerate_1 _) (λobj=>F.args_object_init_2 obj _) F.entry_enumerate_new (Up c l items) ⟨hl,?_⟩;have hz:(s.heap.push (hV c l)).objs.size=s.heap.objs.size+1:=eM ..;have g2:((s.heap.push (hV c l)).push {cls:=.type "enumerate", data:=.fields #[.none,.bool false,.ref s.heap.objs.size,rawInt 0,.none,.none]}).get? (s.heap.push (hV c l)).objs.size=some _:=bR _ rfl;have g1:((s.heap.push (hV c l)).push {cls:=.type "enumerate", data:=.fields #[.none,.bool false,.ref s.heap.objs.size,rawInt 0,.none,.none]}).get? s.heap.objs.size=some (hV c l):=aM _ (bR _ rfl);show _/\_;rw[hz]at g2 ⊢;exact⟨⟨_,g2,rfl⟩,h _ ⟨⟨.none,g2⟩,Dk g1⟩ (by rw[eM,hz]) λb o e=>aM _ (aM _ e)⟩
noncomputable def Ite(K:W.Frag)(c:Bool)(l:Addr):It:=
 ⟨λi H=>∃xs x,Sq c K H l xs/\xs[i]?=some x,
   λi H v H'=>∃T x,v = .ref T/\H T=none/\H'=upd H T (.tup [.int i,x])/\∀xs,Sq c K H l xs->xs[i]?=some x,
   λi H=>∃xs,Sq c K H l xs/\xs.length=i⟩
theorem Ze{P:Program}{w:World}{K:W.Frag}{elts:List Expr}{k:Nat}{pos:Pos}{c:Bool}{e it:Addr}(l:Addr)(ne:e≠it):Turn P w K (.Tuple elts k pos) (Ite K c l) [e,it] e (Ee c e it l) where
 mem:=by simp
 obj:=λi h st b hb=>by
  simp only[bu,fS,gA]at hb
  rcases hb with rfl|rfl
  ·obtain⟨old,q⟩:=st.he
   exact⟨_,q,λv q=>by cases(show Data.fields _=Data.cell v from q)⟩
  ·exact st.h1.obj
 keep:=λi h h' st kk=>⟨let⟨old,q⟩:=st.he;⟨old,kk e (by simp) _ q⟩,st.h1.at λo q=>kk it (by simp) o q⟩
 item:=by
  intro X hP hw hK hc i pins s σ H E I hf st hg;subst hP hw hK;obtain⟨xs,x,q1,hx⟩:=hg;obtain⟨its,rv,p,z⟩:=I.sq q1;obtain⟨u,hu,ru⟩:=rv.get hx;obtain⟨old,he⟩:=st.he;have n1:l≠e:=I.d_ q1 (hf e (by simp));have n2:l≠it:=I.d_ q1 (hf it (by simp));have hil:i<its.length:=by rw[<- rv.length];exact(cG.mp hx).1
  have hh:X.A.in1.handled=none:=I.ok.hd hc;refine wpAny_pyNext_enum_itemD (GR hh c it l n2 its.toArray) he ⟨st.h1,p⟩ (by simpa using hil) ne (by simp[ne,cE n1]) λx' h' tk hP ho hs' hT hsz hk=>?_;have ex:x'=u:=by
   have hu':its.toArray[i]?=some u:=by simpa using hu
   rw[hu']at hP;exact(dU hP).symm
  subst ex;refine⟨_,rfl,wpAny_letOwnedTupleGo_enum ho λh2 b1 b2=>?_⟩;have elt:e<s.heap.objs.size:=aV he;obtain⟨oi,ei,_⟩:=st.h1.obj;have Tg:it<s.heap.objs.size:=aV ei;have keep:∀b u,b ∉ [e,it]->s.heap.get? b=some u->h2.get? b=some u:=λb u hb q=>by
   simp only[bu,fS,gA,not_or]at hb;exact b2.extBut _ _ hb.1 (hk b u hb.1 hb.2 q)
  have hT2:IsPair h2 s.heap.objs.size (.int i tk) x':=b2.extBut _ _ (gX elt) hT;have I2:Inv X pins σ (upd H s.heap.objs.size (.tup [.int i,x])) {s with heap:=h2,toks:=tk+1}:=I.NX hf keep (aO _) (Ke hT2 ⟨tk,rfl⟩ ru);refine⟨.ref s.heap.objs.size,_,I2,rfl,⟨_,x,rfl,I.fresh,rfl,λzs hz=>by rw[I.Dm hz q1];exact hx⟩,⟨⟨x',by simpa using b1⟩,hs'.1.at λo q=>b2.extBut _ o (cE ne) q⟩,λb hb=>?_⟩;have hlt:b<s.heap.objs.size:=by
   simp only[bu,fS,gA]at hb
   rcases hb with rfl|rfl
   ·exact elt
   ·exact Tg
  rw[aA (bO hlt)];exact(hf b hb).1
 done:=by
  intro X hP hw hK hc i pins s σ H E I hf st hg;subst hP hw hK;obtain⟨xs,q1,hend⟩:=hg;obtain⟨its,rv,p,z⟩:=I.sq q1;obtain⟨old,he⟩:=st.he;have n2:l≠it:=I.d_ q1 (hf it (by simp));have el:i=its.toArray.size:=by rw[<- hend,rv.length];simp
  have hh:X.A.in1.handled=none:=I.ok.hd hc;refine wpAny_pyNext_enum_endD (GR hh c it l n2 its.toArray) he (by rw[<- el];exact⟨st.h1,p⟩) λh' hx=>⟨rfl,?_⟩;exact I.NT (t':=s.toks) (ch:=[e,it]) hf λb u hb q=>by
   simp only[bu,fS,gA,not_or]at hb;exact hx b u hb.2 q
 self:=λ_ _ _ _ _ st h=>let⟨_,he⟩:=st.he;wpAny_pyIter_enum he h
section
variable {X:Cx} {elts:List Expr} {k:Nat} {tpos:Pos}
noncomputable def IV(K:W.Frag)(c:Bool)(ta:TA):TI:=λσ H R=>ta σ H λvs H1=>∃l xs,vs = [.ref l]/\Sq c K H1 l xs/\R (Ite K c l) H1
theorem Xa (c:Bool) {a:Expr} {ta:TA} {p pos:Pos} (hg:Gl X "enumerate") (hm:X.mg "enumerate" = none) (ha:PA X [a] ta) (hs:starEach [a] X.env = [(false,eval a X.env)]:=by rfl) :
  PI X (.Tuple elts k tpos) (.Call (.Name "enumerate" p) [a] [] pos) (IV X.K c ta):=by
 intro pins s σ H R I h;refine Call_ (mG I hg hm (show bootBuiltins "enumerate" = some (.type "enumerate")by decide +kernel) (sj (aG (ha pos pins s σ H _ I h) λus s1 ⟨vs,H1,I1,r1,q1⟩=>?_) hs rfl));obtain⟨l,xs,e,q1,q⟩:=q1;subst e;obtain⟨u,rfl,ru⟩:=Vals.one r1;cases ru;obtain⟨its,_,p1,_⟩:=I1.sq q1;refine P0 p1 λh' er hz hk=>let⟨_,he⟩:=er.he;wpAny_pyIter_enum he ?_
 have I2:Inv X pins σ H1 {s1 with heap:=h',toks:=s1.toks}:=I1.kept hk;refine⟨_,_,_,_,H1,rfl,I2,Ze l (show s1.heap.objs.size+1≠s1.heap.objs.size by omega),er,λb hb=>?_,q⟩;simp only[bu,fS,gA]at hb;have ge:s1.heap.objs.size<=b:=by rcases hb with rfl|rfl<;>omega
 exact I1.ml ge (I1.hok.fresh ge)
end
theorem Same.put{H:Hp}{a:Addr}{o:HO}(h:H a=none):Same H (upd H a o):=λb u e=>by rw[aA (cF e h)];exact e
noncomputable def eO(D:Addr)(H H':Hp):Prop:=∀b o,b≠D->H b=some o->H' b=some o
theorem Same.x{H H':Hp}(s:Same H H')(D:Addr):eO D H H':=λb o _ e=>s b o e
theorem eO.put{D:Addr}{H:Hp}{o:HO}:eO D H (upd H D o):=λb u hb e=>by rw[aA hb];exact e
theorem eO.trans{D:Addr}{H H1 H2:Hp}(a:eO D H H1)(b:eO D H1 H2):eO D H H2:=λc o hc e=>b c o hc (a c o hc e)
theorem eO.of{D:Addr}{H H':Hp}(h:H D=none)(s:eO D H H'):Same H H':=λb o e=>s b o (cF e h) e
theorem Same.sq{K:W.Frag}{H H':Hp}{a:Addr}{xs:List V}{c:Bool}(e:Same H H')(h:Sq c K H a xs):Sq c K H' a xs:=by
 cases c with
 |true=>exact e.seq h
 |false =>
  rcases h with(h|⟨o,h⟩)|h
  ·exact .inl (.inl (e _ _ h))
  ·exact .inl (.inr ⟨o,e _ _ h⟩)
  ·exact .inr h
theorem Same.Dl{K:W.Frag}{H H':Hp}{a:Addr}{xs:List V}(e:Same H H')(h:aQ K H a xs):aQ K H' a xs:=e.sq (c:=false) h
structure gY (J:It) (g:TG) (σ₀:St) (H1:Hp) (n:Nat) (sl:Nat->St):Prop where
 go:∀i H,i<n->Same H1 H->J.go i H
 stop:∀H,Same H1 H->J.stop n H
 step:∀i H x H' (K:St->Hp->Prop),i<n->Same H1 H->J.lI i H x H'->(∀H2,Same H H2->K (sl i) H2)->g x σ₀ H' λσ2 H2=>Wk σ₀ σ2/\K σ2 H2
theorem src_range{lo:Int}{n:Nat}{ρ:St}{H1:Hp}:gY (kg lo n) (aW 0) (none::ρ) H1 n (λi=>some (.int (lo+i))::ρ) where
 go:=λi H hi _=>hi
 stop:=λH _=>aO n
 step:=λi H x H' K hi hs hy hk=>by
  obtain⟨rfl,rfl⟩:=hy;exact⟨Wk.set (Wk.refl _) rfl,hk _ (Same.refl _)⟩
theorem src_list{K:W.Frag}{a:Addr}{xs:List V}{ρ:St}{H1:Hp}(h:ai K H1 a xs):gY (kf K a) (aW 0) (none::ρ) H1 xs.length (λi=>some (xs.getD i .non)::ρ) where
 go:=λi H hi hs=>⟨xs,xs[i],hs.seq h,aK hi⟩
 stop:=λH hs=>⟨xs,hs.seq h,aO _⟩
 step:=λi H x H' K hi hs hy hk=>by
  obtain⟨rfl,hx⟩:=hy;have e:=hx xs (hs.seq h);have e2:xs.getD i .non=x:=by rw[aZ,e];rfl
  refine⟨Wk.set (Wk.refl _) rfl,?_⟩;have:=hk _ (Same.refl _);rw[e2]at this;exact this
theorem Nh{K:W.Frag}{a:Addr}{xs:List V}{ρ:St}{H1:Hp}(h:aQ K H1 a xs):gY (lK K a) (aW 0) (none::ρ) H1 xs.length (λi=>some (xs.getD i .non)::ρ) where
 go:=λi H hi hs=>⟨xs,xs[i],hs.Dl h,aK hi⟩
 stop:=λH hs=>⟨xs,hs.Dl h,aO _⟩
 step:=λi H x H' K hi hs hy hk=>by
  obtain⟨rfl,hx⟩:=hy;have e:=hx xs (hs.Dl h);have e2:xs.getD i .non=x:=by rw[aZ,e];rfl
  refine⟨Wk.set (Wk.refl _) rfl,?_⟩;have:=hk _ (Same.refl _);rw[e2]at this;exact this
theorem Ni{K:W.Frag}{c1 c2:Bool}{a b:Addr}{xs ys:List V}{n:Nat}{ρ:St}{H1:Hp}(h1:Sq c1 K H1 a xs)(h2:Sq c2 K H1 b ys)(hn:n=min xs.length ys.length):gY (wx K c1 c2 a b) (qq K 2 (mq (aW 0) (mq (aW 1) tO))) (none::none::ρ) H1 n (λi=>some (xs.getD i .non)::some (ys.getD i .non)::ρ) where
 go:=λi H hi hs=>⟨xs,ys,xs[i]'(by omega),ys[i]'(by omega),hs.sq h1,hs.sq h2,aK (by omega),aK (by omega)⟩
 stop:=λH hs=>⟨xs,ys,hs.sq h1,hs.sq h2,by omega⟩
 step:=λi H v H' Kk hi hs hy hk=>by
  obtain⟨T,x,y,rfl,hT,rfl,hx,hy⟩:=hy;have e1:=hx xs (hs.sq h1);have e2:=hy ys (hs.sq h2);have e3:xs.getD i .non=x:=by rw[aZ,e1];rfl
  have e4:ys.getD i .non=y:=by rw[aZ,e2];rfl
  refine⟨T,[x,y],rfl,.inl (.inl ak),rfl,x,[y],rfl,y,[],rfl,rfl,?_⟩;have:=hk (upd H T (.tup [x,y])) (Same.put hT);rw[e3,e4]at this;exact⟨Wk.set (Wk.set (Wk.refl _) rfl) rfl,this⟩
theorem tE{J:It}{g:TG}{tc:TT}{te:TE}{σ₀:St}{D:Addr}{Q:Hp->Prop}{H1:Hp}{n:Nat}{sl:Nat->St}(keep:Nat->Bool)(Rl:Nat->V->Hp->Prop)(S:gY J g σ₀ H1 n sl)(hD:H1 D=none)(hn:n<sizeLine)(mono:∀i v H H',eO D H H'->Rl i v H->Rl i v H')(step:∀i H (Kt:V->Hp->Prop) (Kf:Hp->Prop),i<n->Same H1 H->(∃ys,H D=some (.lst ys))->(∀v H',keep i=true->Same H H'->Rl i v H'->Kt v H')->(∀H',keep i=false->Same H H'->Kf H') ->
   tc (sl i) H λb H3=>if b=true then te (sl i) H3 Kt else Kf H3)
  (fin:∀H' ys,Same H1 H'->H' D=some (.lst ys)->Paired (λi v=>Rl i v H') ((List.range n).filter keep) ys->Q H'):ka J g tc te σ₀ D Q (upd H1 D (.lst [])):=by
 refine⟨λi m ys H=>m=n - i/\i<=n/\Same H1 H/\H D=some (.lst ys)/\Paired (λi v=>Rl i v H) ((List.range i).filter keep) ys,⟨n,by omega,by omega,Same.put hD,ak,.nil⟩,?_⟩;rintro i m ys H ⟨hm,hi,hs,hl,hp⟩;have hlen:ys.length<=i:=by
  have:=cV hp;rw[<- this];exact bN (rY _ _) (by simp)
 by_cases e:i=n
 ·subst e
  exact .inl ⟨S.stop H hs,fin H ys hs hl hp⟩
 ·have hin:i<n:=by omega
  refine .inr ⟨S.go i H hin hs,λys' H'=>i+1<=n/\Same H1 H'/\H' D=some (.lst ys')/\Paired (λi v=>Rl i v H') ((List.range (i+1)).filter keep) ys',λys' H' h=>⟨n - (i+1),by omega,rfl,h⟩,λx H' hy=>?_⟩;refine S.step i H x H' (λσ2 H2=>tc σ2 H2 λb H3=>if b=true then te σ2 H3 λy H4=>H4 D=some (.lst ys)/\ys.length<sizeLine/\_ else _) hin hs hy λH2 s2=>?_;have up:∀{H':Hp},Same H2 H'->Paired (λi v=>Rl i v H') ((List.range i).filter keep) ys:=λ{H'} s'=>Paired.c5 hp λa b r=>mono a b _ _ ((s2.trans s').x D) r;refine step i H2 _ _ hin (hs.trans s2) ⟨ys,s2 _ _ hl⟩ (λv H4 hk s4 r=>?_) λH4 hk s4=>?_
  ·have d8:H4 D=some (.lst ys):=s4 _ _ (s2 _ _ hl)
   refine⟨d8,by omega,hin,?_,ak,?_⟩
   ·exact eO.of hD (((hs.trans (s2.trans s4)).x D).trans eO.put)
   ·rw[nB,Ei]
    have e1:[i].filter keep = [i]:=by simp[hk]
    rw[e1];exact PySem.Paired.snoc (Paired.c5 (up s4) λa b q=>mono a b _ _ eO.put q) (mono _ _ _ _ eO.put r)
  ·refine⟨hin,hs.trans (s2.trans s4),s4 _ _ (s2 _ _ hl),?_⟩
   rw[nB,Ei];have e1:[i].filter keep = []:=by simp[hk]
   rw[e1,rS];exact up s4
theorem Ki{α:Type}{f:α->V}:∀{l:List α} {ys:List V},Paired (λi v=>v=f i) l ys->ys=l.map f
 |_,_,.nil=>rfl
 |_,_,.cons h t=>by rw[h,Ki t];rfl
theorem qi{J:It}{g:TG}{tc:TT}{te:TE}{σ₀:St}{D:Addr}{Q:Hp->Prop}{H1:Hp}{n:Nat}{sl:Nat->St}(keep:Nat->Bool)(f:Nat->V)(S:gY J g σ₀ H1 n sl)(hD:H1 D=none)(hn:n<sizeLine)(step:∀i H (Kt:V->Hp->Prop) (Kf:Hp->Prop),i<n->Same H1 H->(∀H',keep i=true->Same H H'->Kt (f i) H')->(∀H',keep i=false->Same H H'->Kf H') ->
   tc (sl i) H λb H3=>if b=true then te (sl i) H3 Kt else Kf H3)
  (fin:∀H',Same H1 H'->H' D=some (.lst (((List.range n).filter keep).map f))->Q H'):ka J g tc te σ₀ D Q (upd H1 D (.lst [])):=
 tE keep (λi v _=>v=f i) S hD hn (λ_ _ _ _ _ h=>h) (λi H Kt Kf hi hs _ h1 h2=>step i H Kt Kf hi hs (λH' hk s'=>h1 _ H' hk s' rfl) h2)
  λH' ys hs hl hp=>fin H' hs (by rw[hl,Ki hp])
theorem filter_true{α:Type}(l:List α):l.filter (λ_=>true)=l:=List.filter_eq_self.mpr λ_ _=>rfl
theorem fF{J:It}{g:TG}{te:TE}{σ₀:St}{D:Addr}{Q:Hp->Prop}{H1:Hp}{n:Nat}{sl:Nat->St}(f:Nat->V)(S:gY J g σ₀ H1 n sl)(hD:H1 D=none)(hn:n<sizeLine)(step:∀i H (Kt:V->Hp->Prop),i<n->Same H1 H->(∀H',Same H H'->Kt (f i) H')->te (sl i) H Kt)(fin:∀H',Same H1 H'->H' D=some (.lst ((List.range n).map f))->Q H'):ka J g pB te σ₀ D Q (upd H1 D (.lst [])):=
 qi (λ_=>true) f S hD hn (λi H Kt Kf hi hs h1 _=>a_ (A:=te (sl i) H Kt) (B:=Kf H) (step i H Kt hi hs λH' s'=>h1 H' rfl s')) λH' hs hl=>fin H' hs (by rw[hl,filter_true])
theorem qh{J:It}{g:TG}{te:TE}{σ₀:St}{D:Addr}{Q:Hp->Prop}{H1:Hp}{n:Nat}{sl:Nat->St}(Rl:Nat->V->Hp->Prop)(S:gY J g σ₀ H1 n sl)(hD:H1 D=none)(hn:n<sizeLine)(mono:∀i v H H',eO D H H'->Rl i v H->Rl i v H')(step:∀i H (Kt:V->Hp->Prop),i<n->Same H1 H->(∃ys,H D=some (.lst ys))->(∀v H',Same H H'->Rl i v H'->Kt v H')->te (sl i) H Kt)(fin:∀H' ys,Same H1 H'->H' D=some (.lst ys)->Paired (λi v=>Rl i v H') (List.range n) ys->Q H'):ka J g pB te σ₀ D Q (upd H1 D (.lst [])):=
 tE (λ_=>true) Rl S hD hn mono (λi H Kt Kf hi hs hy h1 _=>a_ (A:=te (sl i) H Kt) (B:=Kf H) (step i H Kt hi hs hy λv H' s' r=>h1 v H' rfl s' r)) λH' ys hs hl hp=>fin H' ys hs hl (by rw[filter_true]at hp;exact hp)
theorem Qb{J:It}{g:TG}{te:TE}{σ₀:St}{D:Addr}{Q:Hp->Prop}{H1:Hp}{n:Nat}{sl:Nat->St}(c:Nat->List V)(S:gY J g σ₀ H1 n sl)(hD:H1 D=none)(hn:n<sizeLine)(step:∀i H (Kt:V->Hp->Prop),i<n->Same H1 H->(∀a H',Same H H'->H a=none->H' a=some (.lst (c i))->Kt (.ref a) H')->te (sl i) H Kt)(fin:∀H' (as:List Addr),Same H1 H'->H' D=some (.lst (as.map V.ref))->as.length=n->as.Nodup->(∀a∈as,H1 a=none/\a≠D)->(∀(i:Nat) a,as[i]?=some a->H' a=some (.lst (c i)))->Q H'):ka J g pB te σ₀ D Q (upd H1 D (.lst [])):=by
 refine⟨λi m ys H=>m=n - i/\i<=n/\Same H1 H/\H D=some (.lst ys)/\∃as:List Addr,ys=as.map V.ref/\as.length=i/\as.Nodup/\(∀a∈as,H1 a=none/\a≠D)/\∀(j:Nat) a,as[j]?=some a->H a=some (.lst (c j)),
  ⟨n,by omega,by omega,Same.put hD,ak,[],rfl,rfl,List.nodup_nil,λ_ h=>(nomatch h),λj a h=>by simp at h⟩,?_⟩
 rintro i m ys H ⟨hm,hi,hs,hl,as,rfl,h1,h2,h3,h4⟩
 by_cases e:i=n
 ·subst e
  exact .inl ⟨S.stop H hs,fin H as hs hl h1 h2 h3 h4⟩
 ·have hin:i<n:=by omega
  refine .inr ⟨S.go i H hin hs,λys' H'=>i+1<=n/\Same H1 H'/\H' D=some (.lst ys')/\∃as:List Addr,ys'=as.map V.ref/\as.length=i+1/\as.Nodup/\(∀a∈as,H1 a=none/\a≠D)/\∀(j:Nat) a,as[j]?=some a->H' a=some (.lst (c j)),
   λys' H' h=>⟨n - (i+1),by omega,rfl,h⟩,λx H' hy=>?_⟩
  refine S.step i H x H' (λσ2 H2=>pB σ2 H2 λb H3=>if b=true then te σ2 H3 λy H4=>H4 D=some (.lst (as.map V.ref))/\(as.map V.ref).length<sizeLine/\_ else _) hin hs hy λH2 s2=>?_;dsimp only[pB];rw[az rfl];refine step i H2 _ hin (hs.trans s2) λa H4 s4 ha hc=>?_;have d8:H4 D=some (.lst (as.map V.ref)):=s4 _ _ (s2 _ _ hl);have haD:a≠D:=λe=>by rw[e,s2 _ _ hl]at ha;cases ha
  have Pn:a ∉ as:=λhm=>by
   obtain⟨j,hj,e⟩:=lM hm;have:=s2 _ _ (h4 j a (by rw[aK hj,e]));rw[ha]at this;cases this
  refine⟨d8,by simp;omega,hin,eO.of hD (((hs.trans (s2.trans s4)).x D).trans eO.put),ak,as++[a],by simp,by simp[h1],?_,?_,?_⟩
  ·exact List.nodup_append.mpr ⟨h2,by simp,λx hx y hy=>by simp at hy;subst hy;exact λe=>Pn (e▸hx)⟩
  ·intro b hb
   rcases fe.mp hb with hb|hb
   ·exact h3 b hb
   ·simp at hb
    subst hb;exact⟨(hs.trans s2).free ha,haD⟩
  ·intro j b hj
   by_cases hjl:j<as.length
   ·rw[wz hjl]at hj
    have q:=h4 j b hj;have hbD:b≠D:=(h3 b (eh hj)).2;rw[aA hbD];exact s4 _ _ (s2 _ _ q)
   ·have hj2:(as++[a])[j]?=some b:=hj
    rw[rW (by omega)]at hj2;have e0:j=as.length:=by
     by_cases z:j - as.length=0
     ·omega
     ·rw[wA (by simp;omega)]at hj2;cases hj2
    subst e0;simp at hj2;subst hj2;rw[aA haD,h1];exact hc
noncomputable def Pu(pre:List V->Hp->Prop)(post:List V->Hp->V->Hp->Prop):Sp:=λvs H Q _=>pre vs H/\∀v H',Same H H'->post vs H v H'->Q v H'
noncomputable def Ge(sc qN:Scope)(N:List Str)(fr:List (Str × Nat)):Bool:=
 sc.kind==.function&&sc.names.all (λy=>y.2 != .cell&&(y.2 != .local||sc.names.lookup y.1==some .local)&&(y.2 != .free||qN.names.lookup y.1==some .cell||qN.names.lookup y.1==some .free)) &&
 fr.all λp=>N[p.2]?==some p.1&&sc.names.lookup p.1==some .free
theorem cM{X:Cx}{scope:Scope}{fr:List (Str × Nat)}(qN:Scope)(N:List Str)(h1:X.env.scope=qN)(h2:X.N=N)(h:Ge scope qN N fr=true):iW X scope fr:=by
 unfold Ge at h;rw[dB,dB]at h;obtain⟨⟨a,b⟩,c⟩:=h;rw[jF]at b c;subst h1 h2;refine⟨by simpa using a,λy hy e=>?_,λy hy e=>?_,λy hy e=>?_,λp hp=>?_⟩
 ·have:=b y hy
  rw[e]at this;simp at this
 ·have:=b y hy
  rw[e]at this;simpa using this
 ·have:=b y hy
  rw[e]at this;simpa using this
 ·have:=c p hp
  simpa using this
structure aF (P:Program) (w:World) (K:W.Frag) (mg:Str->Option Value) (base:Heap) (x:Str) (ps:List Str) (k:Nat) (sp:Sp):Prop where
 ex:∃(f:Addr) (fd:FuncData),aN P w K mg base bf k f fd ps sp/\mg x=some (.ref f)/\W.keepIn K (.ref f)=true/\Binds K fd ps []
section
variable {X:Cx} {x:Str} {ps:List Str} {k k':Nat} {sp:Sp} {e:Expr} {es:List Expr} {t:TA} {p pos:Pos}
theorem bj (c:aF X.prog X.w X.K X.mg X.base x ps k sp) (hr:bS k' X.A) (hg:Gl X x) (ha:PA X (e::es) t) (hk:k<=k':=by decide) (hdb:(x==("__debug__" : Str))=false:=by decide)
  (he:starEach (e::es) X.env=(false,eval e X.env)::starEach es X.env:=by rfl) (hpl:(backTo pos (starEach es X.env)).any (·.1)=false:=by rfl):PE X (.Call (.Name x p) (e::es) [] pos) (pA sp [] E0 t):=by
 obtain⟨f,fd,F,hm,kp,b⟩:=c.ex;exact Kl F (hr.mono hk) hg hm kp b .nil WT ha hdb he hpl
end
theorem P5 {X:Cx} (T:String):dP X (.builtin "isinstance") (λxs H Q=>∃x t b,xs = [x,.ty T]/\fX X.K H x t/\W.kitOne X.K t (.type T)=some b/\Q (.bl b) H):=by
 intro pins s σ H xs us Q I r h;obtain⟨x,t,b,rfl,ty,e,q⟩:=h;obtain⟨u,v,rfl,ru,rv⟩:=Vals.two r;cases rv;exact Tx I ru ty e λtk=>⟨.bl b,H,I.tok _,rfl,q⟩
theorem sS:bootBuiltins "bool" = some (.type "bool"):=by decide +kernel
theorem kD:bootBuiltins "str" = some (.type "str"):=by decide +kernel
theorem lX:bootBuiltins "int" = some (.type "int"):=by decide +kernel
theorem qg:bootBuiltins "list" = some (.type "list"):=by decide +kernel
theorem iF:bootBuiltins "tuple" = some (.type "tuple"):=by decide +kernel
section
variable {X:Cx} {K:W.Frag}
theorem aX(h:X.K=K):lL X (KR K):=h▸TJ
theorem cW(h:X.K=K):lL X (KS K):=h▸TK
theorem mX(h:X.K=K):xk X (K0 K):=h▸Yn
theorem Wt(h:X.K=K):bP X (compareOp .In) (u5 K false):=h▸Wu
theorem J7(h:X.K=K):bP X (compareOp .NotIn) (u5 K true):=h▸Wy
noncomputable def o5(K:W.Frag):List V->Hp->VK->Prop:=λxs H Q=>∃p ys,xs = [.ref p]/\(ai K H p ys\/aQ K H p ys)/\Q (.int ys.length) H
theorem cj (h:X.K=K):dP X (.builtin "len") (o5 K):=h▸P6
noncomputable def Xy(K:W.Frag):List V->Hp->VK->Prop:=λxs H Q=>∃p ys,xs = [.ref p]/\(ai K H p ys\/aQ K H p ys)/\∀l,H l=none->Q (.ref l) (upd H l (.lst ys))
theorem Gk (h:X.K=K):dP X (.type "list") (Xy K):=h▸P7
noncomputable def XH(K:W.Frag):List V->Hp->VK->Prop:=λxs H Q=>∃p ys,xs = [.ref p]/\((ai K H p ys/\∀l,H l=none->Q (.ref l) (upd H l (.tup ys)))\/(aQ K H p ys/\Q (.ref p) H))
theorem kG (h:X.K=K):dP X (.type "tuple") (XH K):=h▸P_
noncomputable def Xv(K:W.Frag)(T:String):List V->Hp->VK->Prop:=λxs H Q=>∃x t b,xs = [x,.ty T]/\fX K H x t/\W.kitOne K t (.type T)=some b/\Q (.bl b) H
theorem fE (T:String) (h:X.K=K):dP X (.builtin "isinstance") (Xv K T):=h▸P5 T
variable {tg:Expr} {l:Expr} {tl:TE} {elts:List Expr} {k:Nat} {tpos pos p apos cpos:Pos} {a b o e:Expr} {es:List Expr} {ta:TA} {te tv to:TE} {f:Str}
theorem dJ(h:X.K=K)(hl:PE X l tl):PI X tg l (IW K tl):=h▸Xb hl
theorem Ba(h:X.K=K)(hl:PE X l tl):PI X tg l (I0 K tl):=h▸Xd hl
theorem Kw (c1 c2:Bool) (h:X.K=K) (hg:Gl X "zip") (hm:X.mg "zip" = none) (ha:PA X [a,b] ta) (hs:starEach [a,b] X.env = [(false,eval a X.env),(false,eval b X.env)]:=by rfl) (hs2:starEach [b] X.env = [(false,eval b X.env)]:=by rfl) :
  PI X (.Tuple elts k tpos) (.Call (.Name "zip" p) [a,b] [] pos) (I_ K c1 c2 ta):=h▸Xe c1 c2 hg hm ha hs hs2
theorem A_ (c:Bool) (h:X.K=K) (hg:Gl X "enumerate") (hm:X.mg "enumerate" = none) (ha:PA X [a] ta) (hs:starEach [a] X.env = [(false,eval a X.env)]:=by rfl) :
  PI X (.Tuple elts k tpos) (.Call (.Name "enumerate" p) [a] [] pos) (IV K c ta):=h▸Xa c hg hm ha hs
theorem Km(h:X.K=K)(he:PE X e te)(hb:attributeBase e f X.env (eval e X.env)=eval e X.env):PE X (.Attribute e f pos) (Nx K te f):=h▸W6 he hb
theorem qT{value:Expr}{pos':Pos}(h:X.K=K)(ha:PE X o te)(hv:PE X value tv)(hs:swapsWith value (some (.Attribute o f pos')) pos.line X.env=pure false):PS X (.Assign [.Attribute o f pos'] value pos) (Ld K te tv f):=h▸Xh ha hv hs
variable {name:Str} {T id:String} {r:V->List V->Hp->VK->Prop} {t:TA}
theorem cR (h:X.K=K) (pa:PlainAttrs T) (slot:Slot T name id) (hty:typeOf (.builtin id)=pure (.type "method_descriptor")) (hm:pT X id r) (ho:PE X o to) (ha:PA X (e::es) t)
  (h1:attributeBase o name X.env (eval o X.env)=eval o X.env:=by rfl)
  (h2:((backTo cpos (starEach (e::es) X.env)).all (λx=>!x.1)&&(backToKw cpos (keywordEach [] X.env)).all (λx=>x.1.isSome)&&decide ((e::es).length+([]:List Keyword).length+(if([]:List Keyword).isEmpty then 0 else 1)<30))=true:=by rfl)
  (h3:(apos.endLine==cpos.line)=true:=by rfl) (h4:starEach (e::es) X.env=(false,eval e X.env)::starEach es X.env:=by rfl) (h5:(backTo cpos (starEach es X.env)).any (·.1)=false:=by rfl) :
  PE X (.Call (.Attribute o name apos) (e::es) [] cpos) (Dr K T r to t):=h▸WX pa slot hty hm ho ha h1 h2 h3 h4 h5
theorem mQ{x y:Str}{i j:Nat}{p1 p2:Pos}(h:X.K=K)(hc:X.calm=true)(hN:X.N.Nodup)(hi:X.N[i]?=some x)(hj:X.N[j]?=some y)(hx:X.env.scope.names.lookup x=some .local)(hy:X.env.scope.names.lookup y=some .local):PG X (.Tuple [.Name x p1,.Name y p2] k tpos) (qq K 2 (mq (aW i) (mq (aW j) tO))):=
 h▸Ks hc (oW (aY hN hi (Or.inl hx) (Or.inr hx)) (oW (aY hN hj (Or.inl hy) (Or.inr hy)) Az))
end
noncomputable def Its(c:Bool)(K:W.Frag)(a:Addr):It:=match c with
 |true=>kf K a
 |false=>lK K a
noncomputable def Tc(K:W.Frag)(c:Bool)(tl:TE):TI:=λσ H R=>tl σ H λx H1=>∃a,x = .ref a/\(∃xs,Sq c K H1 a xs)/\R (Its c K a) H1
noncomputable def qW(K:W.Frag)(c:Bool):R2:=λx y H Q=>∃p xs i v,x = .ref p/\y = .int i/\Sq c K H p xs/\ji xs i=some v/\Q v H
section
variable {X:Cx} {K:W.Frag} {tg l:Expr} {tl:TE}
theorem Xc(c:Bool)(h:X.K=K)(hl:PE X l tl):PI X tg l (Tc K c tl):=by
 cases c with
 |true=>exact dJ h hl
 |false=>exact Ba h hl
theorem z0(c:Bool)(h:X.K=K):lL X (qW K c):=by
 cases c with
 |true=>exact aX h
 |false=>exact cW h
theorem Yv{c:Bool}{a:Addr}{xs:List V}{ρ:St}{H1:Hp}(h:Sq c K H1 a xs):gY (Its c K a) (aW 0) (none::ρ) H1 xs.length (λi=>some (xs.getD i .non)::ρ):=by
 cases c with
 |true=>exact src_list h
 |false=>exact Nh h
end
section
variable {K:W.Frag} {g:TG} {tb:TS} {D:Ends} {σ:St} {H:Hp}
theorem zA{c:Bool}{l:Addr}{xs:List V}(Pv:Nat->St->Hp->Prop)(h0:Pv 0 σ H)(hl:∀i σ H,Pv i σ H->Sq c K H l xs)
  (hs:∀i x σ H T,xs[i]?=some x->H T=none->Pv i σ H->g (.ref T) σ (upd H T (.tup [.int i,x])) λσ2 H2=>tb {D with nx:=Pv (i+1),ct:=Pv (i+1),bk:=D.nx} σ2 H2) (hd:∀σ H,Pv xs.length σ H->D.nx σ H) :
  ∃W:Nat->Nat->St->Hp->Prop,(∃m,W 0 m σ H)/\∀i m σ H,W i m σ H ->
   ((Ite K c l).stop i H/\D.nx σ H)\/((Ite K c l).go i H/\∃N:St->Hp->Prop,(∀σ' H',N σ' H'->∃m',m'<m/\W (i+1) m' σ' H')/\∀x H',(Ite K c l).lI i H x H'->g x σ H' λσ2 H2=>tb {D with nx:=N,ct:=N,bk:=D.nx} σ2 H2):=by
 refine⟨λi m σ H=>m=xs.length - i/\i<=xs.length/\Pv i σ H,⟨xs.length,by simp,eK _,h0⟩,?_⟩;rintro i m σ H ⟨rfl,hi,p⟩;have q:=hl i σ H p
 by_cases hlt:i<xs.length
 ·refine .inr ⟨⟨xs,xs[i],q,by simp[hlt]⟩,Pv (i+1),λσ' H' p'=>⟨xs.length - (i+1),by omega,rfl,hlt,p'⟩,λx H' y=>?_⟩
  obtain⟨T,x,rfl,hT,rfl,hx⟩:=y;exact hs i x σ H T (hx xs q) hT p
 ·have e:i=xs.length:=by omega
  subst e;exact .inl ⟨⟨xs,q,rfl⟩,hd σ H p⟩
end
theorem bw{e:Expr}{es:List Expr}{env:Env}(h:∀v p,e≠.Starred v p):starEach (e::es) env=(false,eval e env)::starEach es env:=by
 cases e<;>first|rfl|exact absurd rfl (h _ _)
noncomputable def intOf:Expr->Option Int
 |.Constant (.int i) _ _=>some i
 |_=>none
noncomputable def intsOf:List Expr->Option (List Int)
 | []=>some []
 |e::r=>(intOf e).bind λi=>(intsOf r).map (i::·)
theorem Tp{e:Expr}{i:Int}(h:intOf e=some i):∃k p,e = .Constant (.int i) k p:=by
 cases e with
 |Constant c k p =>
  cases c with
  |int j=>cases h;exact⟨k,p,rfl⟩
  |_=>cases h
 |_=>cases h
theorem WM{X:Cx}:∀{es:List Expr} (is:List Int),intsOf es=some is->PA X es (λ_ H Q=>Q (is.map V.int) H):=by
 intro es
 induction es with
 |nil =>
  intro is h;cases h;exact ag
 |cons e r ih =>
  intro is h;have h':(intOf e).bind (λi=>(intsOf r).map (i::·))=some is:=h;cases q1:intOf e with
  |none=>rw[q1]at h';cases h'
  |some i =>
   obtain⟨k,p,rfl⟩:=Tp q1;rw[q1]at h';cases q:intsOf r with
   |none=>rw[pW,q]at h';cases h'
   |some js =>
    rw[pW,q]at h';cases h';exact ae aj (ih js q)
theorem KC{g:Nat->Int}(h:∀i,0<=g i/\g i<=1099511627776):∀n,0<=preSum g n/\preSum g n<=1099511627776*n
 |0=>by simp[preSum]
 |n+1=>by
  have ih:=KC h n;have hn:=h n;simp only[preSum]
  push_cast
  omega
theorem KD(ns:List Int):∀n,n<=ns.length->preSum (λi=>ns.getD i 0) n=(ns.take n).sum
 |0,_=>by simp[preSum]
 |n+1,h=>by
  have ih:=KD ns n (by omega);have hn:n<ns.length:=by omega
  simp only[preSum];rw[ih];have e1:ns.getD n 0=ns[n]:=by rw[aZ,aK hn];rfl
  have e2:ns.take (n+1)=ns.take n++[ns[n]]:=by rw[List.take_add_one,aK hn];rfl
  rw[e1,e2,List.sum_append];simp
noncomputable def K1(K:W.Frag):List V->Hp->VK->Prop:=λxs H Q=>∃(p:Addr) (ns:List Int),xs = [.ref p]/\ai K H p (ns.map V.int)/\ns.length<=1000/\(∀x∈ns,0<=x/\x<=1099511627776)/\Q (.int ns.sum) H
theorem P8 {X:Cx} (hc:X.calm=true):dP X (.builtin "sum") (K1 X.K):=by
 intro pins s σ H xs us Q I r h;obtain⟨p,ns,rfl,hq,hl,hb,q⟩:=h;obtain⟨u,rfl,ru⟩:=Vals.one r;cases ru;obtain⟨its,rv,pl,hz⟩:=I.list hq;have hlen:its.length=ns.length:=by rw[<- rv.length,aB]
 have hp:p<s.heap.objs.size:=by obtain⟨o,_,e,_⟩:=pl;exact aV e
 refine call_sum_walk (sG pl.isList ?_);have hh:X.A.in1.handled=none:=I.ok.hd hc;refine⟨s.heap.objs.size,_,_,_,_,_,λi=>ns.getD i 0,rfl,Walks.list hh s.heap.objs.size p (bO hp) its.toArray,⟨⟨_,bR _ rfl,rfl,rfl⟩,pl.isList.at λo e=>aM _ e⟩,λb hb=>?_,λi v hv=>?_,λj hj=>?_,λh' tk t' hk=>?_⟩
 ·simp only[bu,fS,gA]at hb
  rcases hb with rfl|rfl
  ·simp[eM]
  ·exact se hp (by simp[eM])
 ·have hv':its[i]?=some v:=by simpa using hv
  have hi:i<ns.length:=by rw[<- hlen];exact(cG.mp hv').1
  obtain⟨w',h1,h2⟩:=rv.get (i:=i) (x:=.int ns[i]) (by simp[hi]);rw[hv']at h1;cases h1;obtain⟨t,e⟩:=h2;refine⟨t,?_⟩;show v=Value.int (ns.getD i 0) t;rw[e,aZ,aK hi];rfl
 ·have gb:∀i,0<=ns.getD i 0/\ns.getD i 0<=1099511627776:=λi=>by
   rw[aZ];cases e:ns[i]? with
   |none=>simp
   |some x=>exact hb x (eh e)
  have hj':j<ns.length:=by rw[<- hlen];simpa using hj
  have h1:=gb j;have h2:=KC gb (j+1)
  constructor
  ·show InLong (ns.getD j 0)
   unfold InLong;omega
  ·unfold InLong;push_cast at h2;omega
 ·have e:preSum (λi=>ns.getD i 0) its.toArray.size=ns.sum:=by
   rw[show its.toArray.size=ns.length by simp[hlen],KD ns _ (aO _),pR]
  rw[e];have I1:Inv X pins σ H {s with heap:=s.heap.push {cls:=.type "list_iterator", data:=.fields #[.ref p,.int 0 0]},toks:=s.toks}:=I.kept λb o e=>aM _ e;have I2:Inv X pins σ H {s with heap:=h',toks:=tk}:=by
   refine I.kept λb o e=>hk b o ?_ (aM _ e);simp only[bu,fS,gA];exact bO (aV e)
  exact⟨.int ns.sum,H,I2,⟨t',rfl⟩,q⟩
theorem P9 {X:Cx} {K:W.Frag} (h:X.K=K) (hc:X.calm=true):dP X (.builtin "sum") (K1 K):=h▸P8 hc
theorem XJ(bs:List Bool):((List.range bs.length).all λi=>(bs[i]?).getD true)=bs.all id:=by
 rw[gQ,jF,jF]
 constructor
 ·intro h b hb
  obtain⟨i,hi,e⟩:=lM hb;have:=h i (by simpa using hi);rw[aK hi,e]at this;exact this
 ·intro h i hi
  have hi':i<bs.length:=by simpa using hi
  rw[aK hi'];exact h _ (ja hi')
noncomputable def KJ(K:W.Frag):List V->Hp->VK->Prop:=λxs H Q=>∃(p:Addr) (bs:List Bool),xs = [.ref p]/\ai K H p (bs.map V.bl)/\Q (.bl (bs.all id)) H
theorem PQ{bs:List Bool}{its:List Value}(rv:Vals (bs.map V.bl) its){i:Nat}{v:Value}(h:its[i]?=some v):∃b,bs[i]?=some b/\v = .bool b:=by
 have hi:i<its.length:=(cG.mp h).1;have hlen:its.length=bs.length:=by rw[<- rv.length,aB]
 obtain⟨w',h1,h2⟩:=rv.get (i:=i) (x:=.bl (bs[i]'(by omega))) (by simp[show i<bs.length by omega]);rw[h]at h1;cases h1;exact⟨_,aK (by omega),h2⟩
theorem P4 {X:Cx} (hc:X.calm=true):dP X (.builtin "all") (KJ X.K):=by
 intro pins s σ H xs us Q I r h;obtain⟨p,bs,rfl,hq,q⟩:=h;obtain⟨u,rfl,ru⟩:=Vals.one r;cases ru;obtain⟨its,rv,pl,hz⟩:=I.list hq;have hlen:its.length=bs.length:=by rw[<- rv.length,aB]
 have hp:p<s.heap.objs.size:=by obtain⟨o,_,e,_⟩:=pl;exact aV e
 refine call_all_walk (sG pl.isList ?_);have hh:X.A.in1.handled=none:=I.ok.hd hc;refine⟨s.heap.objs.size,_,_,_,_,_,λi=>(bs[i]?).getD true,rfl,Walks.list hh s.heap.objs.size p (bO hp) its.toArray,⟨⟨_,bR _ rfl,rfl,rfl⟩,pl.isList.at λo e=>aM _ e⟩,λi v s' Q' E' hP hQ=>?_,λh' tk hk=>?_⟩
 ·obtain⟨b,e,rfl⟩:=PQ rv (by simpa using hP)
  simp only[e,Option.getD_some]at hQ;exact kx hQ
 ·have e:((List.range its.toArray.size).all λi=>(bs[i]?).getD true)=bs.all id:=by
   rw[cD,hlen];exact XJ bs
  rw[e];have I2:Inv X pins σ H {s with heap:=h',toks:=tk}:=by
   refine I.kept λb o e=>hk b o ?_ (aM _ e);simp only[bu,fS,gA];exact bO (aV e)
  exact⟨.bl (bs.all id),H,I2,rfl,q⟩
theorem Gj {X:Cx} {K:W.Frag} (h:X.K=K) (hc:X.calm=true):dP X (.builtin "all") (KJ K):=h▸P4 hc
inductive dQ (K:W.Frag) (H:Hp):Nat->V->V->Bool->Prop
 |int (n:Nat) (i j:Int):dQ K H n (.int i) (.int j) (i==j)
 |bl (n:Nat) (i j:Bool):dQ K H n (.bl i) (.bl j) (i==j)
 |same (n:Nat) (a:Addr):dQ K H n (.ref a) (.ref a) true
 |tup (n:Nat) (a b:Addr) (xs ys:List V) (e:Nat->Bool):aQ K H a xs->aQ K H b ys->xs.length=ys.length->(∀(j:Nat) x y,xs[j]?=some x->ys[j]?=some y->dQ K H n x y (e j))->dQ K H (n+1) (.ref a) (.ref b) ((List.range xs.length).all e)
 |lst (n:Nat) (a b:Addr) (xs ys:List V) (e:Nat->Bool):ai K H a xs->ai K H b ys->xs.length=ys.length->(∀(j:Nat) x y,xs[j]?=some x->ys[j]?=some y->dQ K H n x y (e j))->dQ K H (n+1) (.ref a) (.ref b) ((List.range xs.length).all e)
 |lens (n:Nat) (a b:Addr) (xs ys:List V):ai K H a xs->ai K H b ys->xs.length≠ys.length->dQ K H (n+1) (.ref a) (.ref b) false
section
variable {X:Cx} {pins:List (Addr × Obj)} {σ:St} {H:Hp} {s:Shared}
theorem Inv.Jw(I:Inv X pins σ H s){a:Addr}{xs ys:List V}(h:ai X.K H a xs)(h':ai X.K H a ys):∃its,Vals xs its/\Vals ys its:=by
 obtain⟨its,r,⟨o,n,e,d1,d2,d3⟩,_⟩:=I.list h;obtain⟨its',r',⟨o',n',e',f1,f2,f3⟩,_⟩:=I.list h';rw[e]at e';cases e';rw[d3]at f3;injection f3 with q1 q2
 have:its=its':=by simpa using q1
 subst this;exact⟨its,r,r'⟩
theorem dQ.BW(I:Inv X pins σ H s){n:Nat}{x y:V}{b:Bool}(h:dQ X.K H n x y b):∀{v:Value},RelV x v->RelV y v->b=true:=by
 induction h with
 |int n i j =>
  rintro v ⟨t,rfl⟩ ⟨u,e⟩;cases e;simp
 |bl n i j =>
  intro v h1 h2;cases h1;cases h2;simp
 |same n a=>intros;rfl
 |tup n a b xs ys e h1 h2 hl hi ih =>
  intro v r1 r2;cases r1;cases r2;have:=I.Dw h1 h2;subst this;obtain⟨its,r,_,_⟩:=I.tuple h1;rw[jF];intro j hj;have hj':j<xs.length:=by simpa using hj
  obtain⟨w',_,q⟩:=r.get (aK hj');exact ih j _ _ (aK hj') (aK hj') q q
 |lst n a b xs ys e h1 h2 hl hi ih =>
  intro v r1 r2;cases r1;cases r2;obtain⟨its,r,r'⟩:=I.Jw h1 h2;rw[jF];intro j hj;have hj':j<xs.length:=by simpa using hj
  obtain⟨w',z1,q⟩:=r.get (aK hj');obtain⟨w'',z2,q'⟩:=r'.get (aK (show j<ys.length by omega));rw[z1]at z2;cases z2;exact ih j _ _ (aK hj') (aK _) q q'
 |lens n a b xs ys h1 h2 hl =>
  intro v r1 r2;cases r1;cases r2;obtain⟨its,r,r'⟩:=I.Jw h1 h2;exact absurd (r.length.trans r'.length.symm) hl
theorem dQ.at(I:Inv X pins σ H s){n:Nat}{x y:V}{b:Bool}(h:dQ X.K H n x y b):∀{A:Around} {v u:Value},A.units+n<cLine->RelV x v->RelV y u->SeqAt.EqAt A s v u b:=by
 induction h with
 |int n i j =>
  rintro A v u hu ⟨t,rfl⟩ ⟨t',rfl⟩;exact SeqAt.EqAt.int_int i t j t'
 |bl n i j =>
  intro A v u hu h1 h2;cases h1;cases h2;exact w5 i j
 |same n a =>
  intro A v u hu h1 h2;cases h1;cases h2;exact w6 _
 |tup n a b xs ys e h1 h2 hl hi ih =>
  intro A v u hu r1 r2
  by_cases hab:v=u
  ·have:=dQ.BW I (.tup n a b xs ys e h1 h2 hl hi) r1 (hab▸r2)
   rw[this,hab];exact w6 _
  ·cases r1
   cases r2;obtain⟨its,r,t1,_⟩:=I.tuple h1;obtain⟨its2,r',t2,_⟩:=I.tuple h2;refine Fp (λz=>hab (by rw[z])) ?_;have hh:=SeqAt.RcAt.tuples (A:=A) (s:=s) (e:=e) t1 t2 (by omega) λj g1 g2=>?_
   ·have el:its.toArray.size=its2.toArray.size:=by simp;rw[<- r.length,<- r'.length];exact hl
    have e2:((List.range (min its.toArray.size its2.toArray.size)).all e&&its.toArray.size==its2.toArray.size)=(List.range xs.length).all e:=by
     rw[<- el,Nat.min_self,beq_self_eq_true,Bool.and_true]
     congr 2
     simp[<- r.length]
    rw[e2]at hh;exact hh
   ·have j1:j<xs.length:=by rw[r.length];simpa using g1
    have j2:j<ys.length:=by omega
    obtain⟨w',z1,q⟩:=r.get (aK j1);obtain⟨w'',z2,q'⟩:=r'.get (aK j2);have e1:its.toArray[j]=w':=by have:=(cG.mp z1).2;simpa using this
    have e2:its2.toArray[j]=w'':=by have:=(cG.mp z2).2;simpa using this
    rw[e1,e2];exact ih j _ _ (aK j1) (aK j2) (by show A.units+1+n<cLine;omega) q q'
 |lst n a b xs ys e h1 h2 hl hi ih =>
  intro A v u hu r1 r2
  by_cases hab:v=u
  ·have:=dQ.BW I (.lst n a b xs ys e h1 h2 hl hi) r1 (hab▸r2)
   rw[this,hab];exact w6 _
  ·cases r1
   cases r2;obtain⟨its,r,t1,_⟩:=I.list h1;obtain⟨its2,r',t2,_⟩:=I.list h2;refine Fp (λz=>hab (by rw[z])) ?_;have el:its.toArray.size=its2.toArray.size:=by simp;rw[<- r.length,<- r'.length];exact hl
   have hh:=SeqAt.RcAt.lists (A:=A) (s:=s) (e:=e) t1.isList t2.isList el (by omega) λj g1 g2=>?_
   ·have e2:(List.range its.toArray.size).all e=(List.range xs.length).all e:=by
     congr 2
     simp[<- r.length]
    rw[e2]at hh;exact hh
   ·have j1:j<xs.length:=by rw[r.length];simpa using g1
    have j2:j<ys.length:=by omega
    obtain⟨w',z1,q⟩:=r.get (aK j1);obtain⟨w'',z2,q'⟩:=r'.get (aK j2);have e1:its.toArray[j]=w':=by have:=(cG.mp z1).2;simpa using this
    have e2:its2.toArray[j]=w'':=by have:=(cG.mp z2).2;simpa using this
    rw[e1,e2];exact ih j _ _ (aK j1) (aK j2) (by show A.units+1+n<cLine;omega) q q'
 |lens n a b xs ys h1 h2 hl =>
  intro A v u hu r1 r2
  by_cases hab:v=u
  ·have:=dQ.BW I (.lens n a b xs ys h1 h2 hl) r1 (hab▸r2)
   cases this
  ·cases r1
   cases r2;obtain⟨its,r,t1,_⟩:=I.list h1;obtain⟨its2,r',t2,_⟩:=I.list h2;refine Fp (λz=>hab (by rw[z])) (SeqAt.RcAt.lists_lengths t1.isList t2.isList ?_ (by omega));have:its.length≠its2.length:=by rw[<- r.length,<- r'.length];exact hl
   simpa using this
end
noncomputable def Oi(K:W.Frag)(H:Hp)(n:Nat)(xs ys:List V)(e:Nat->Bool):Prop:=xs.length=ys.length/\∀(j:Nat) x y,xs[j]?=some x->ys[j]?=some y->dQ K H n x y (e j)
noncomputable def KN(K:W.Frag)(c ne:Bool)(n:Nat):R2:=λx y H Q=>∃a b xs ys e,x = .ref a/\y = .ref b/\Sq c K H a xs/\Sq c K H b ys/\Oi K H n xs ys e/\Q (.bl (ne != (List.range xs.length).all e)) H
theorem Wx{X:Cx}{K:W.Frag}(c:Bool)(n:Nat)(h:X.K=K)(hu:X.A.units+1+n<cLine):bP X (compareOp .NotEq) (KN K c true n):=by
 subst h;intro pins s σ H x y v u Q I rx ry h;obtain⟨a,b,xs,ys,e,rfl,rfl,ha,hb,⟨hl,hi⟩,q⟩:=h;cases rx;cases ry;cases c with
 |true =>
  obtain⟨its,r,t1,_⟩:=I.list ha;obtain⟨its2,r',t2,_⟩:=I.list hb;have el:its.toArray.size=its2.toArray.size:=by simp;rw[<- r.length,<- r'.length];exact hl
  have hh:=SeqAt.RcNeAt.lists (A:=X.A) (s:=s) (e:=e) t1.isList t2.isList el (by omega) λj g1 g2=>?_
  ·have e2:(List.range its.toArray.size).all e=(List.range xs.length).all e:=by
    congr 2
    simp[<- r.length]
   rw[e2]at hh;exact hh _ _ _ _ ⟨.bl (!(List.range xs.length).all e),H,I,rfl,by simpa using q⟩
  ·have j1:j<xs.length:=by rw[r.length];simpa using g1
   have j2:j<ys.length:=by omega
   obtain⟨w',z1,q⟩:=r.get (aK j1);obtain⟨w'',z2,q'⟩:=r'.get (aK j2);have e1:its.toArray[j]=w':=by have:=(cG.mp z1).2;simpa using this
   have e2:its2.toArray[j]=w'':=by have:=(cG.mp z2).2;simpa using this
   rw[e1,e2];exact dQ.at I (hi j _ _ (aK j1) (aK j2)) (by show X.A.units+1+n<cLine;omega) q q'
 |false =>
  obtain⟨its,r,t1,_⟩:=I.tuple ha;obtain⟨its2,r',t2,_⟩:=I.tuple hb;have el:its.toArray.size=its2.toArray.size:=by simp;rw[<- r.length,<- r'.length];exact hl
  have hh:=SeqAt.RcNeAt.tuples (A:=X.A) (s:=s) (e:=e) t1 t2 (by omega) λj g1 g2=>?_
  ·have e2:((List.range (min its.toArray.size its2.toArray.size)).all e&&its.toArray.size==its2.toArray.size)=(List.range xs.length).all e:=by
    rw[<- el,Nat.min_self,beq_self_eq_true,Bool.and_true]
    congr 2
    simp[<- r.length]
   rw[e2]at hh;exact hh _ _ _ _ ⟨.bl (!(List.range xs.length).all e),H,I,rfl,by simpa using q⟩
  ·have j1:j<xs.length:=by rw[r.length];simpa using g1
   have j2:j<ys.length:=by omega
   obtain⟨w',z1,q⟩:=r.get (aK j1);obtain⟨w'',z2,q'⟩:=r'.get (aK j2);have e1:its.toArray[j]=w':=by have:=(cG.mp z1).2;simpa using this
   have e2:its2.toArray[j]=w'':=by have:=(cG.mp z2).2;simpa using this
   rw[e1,e2];exact dQ.at I (hi j _ _ (aK j1) (aK j2)) (by show X.A.units+1+n<cLine;omega) q q'
section
variable {prog:Program} {w:World} {A:Around} {E:Value->Shared->Prop}
variable {s:Shared}
end
end L2
namespace Ev
noncomputable def Sub(x y:Nat):Prop:=x&&& y=x
instance (x y:Nat):Decidable (Sub x y):=inferInstanceAs (Decidable (_=_))
theorem Sub.rfl'(x:Nat):Sub x x:=Nat.and_self x
theorem Sub.trans{x y z:Nat}(a:Sub x y)(b:Sub y z):Sub x z:=by
 unfold Sub at *;rw[<- a,wG,b]
theorem Sub.and_left(x y:Nat):Sub (x&&& y) x:=by
 unfold Sub;rw[wG,Nat.and_comm y x,<- wG,Nat.and_self]
structure kh (M:List Nat):Prop where
 nd:M.Nodup
 len:M.length<=24
 meet:∀x∈M,∀y∈M,x&&& y∈M
 top:∃t∈M,∀x∈M,Sub x t
theorem kh.pos{M:List Nat}(L:kh M):0<M.length:=by
 obtain⟨t,ht,_⟩:=L.top;exact Ow ht
theorem kh.perm{M M':List Nat}(L:kh M)(p:M.Perm M'):kh M' where
 nd:=p.nodup_iff.mp L.nd
 len:=by rw[<- p.length_eq];exact L.len
 meet:=λx hx y hy=>p.mem_iff.mp (L.meet x (p.mem_iff.mpr hx) y (p.mem_iff.mpr hy))
 top:=by
  obtain⟨t,ht,h⟩:=L.top;exact⟨t,p.mem_iff.mp ht,λx hx=>h x (p.mem_iff.mpr hx)⟩
noncomputable def eB(M:List Nat)(i j:Nat):Bool:=decide (Sub (M.getD i 0) (M.getD j 0))
theorem T8{M:List Nat}{i j:Nat}:eB M i j=true ↔ Sub (M.getD i 0) (M.getD j 0):=by simp[eB]
theorem T9(M:List Nat)(i:Nat):eB M i i=true:=T8.mpr (Sub.rfl' _)
theorem getD_mem{M:List Nat}{i:Nat}(h:i<M.length):M.getD i 0∈M:=by
 rw[aZ,aK h];exact ja h
structure gR (n:Nat) (ps:List (Nat × Nat)) (R:Nat->Nat->Bool):Prop where
 refl:∀a,a<n->R a a=true
 has:∀p∈ps,R p.1 p.2=true
 trans:∀a b c,a<n->b<n->c<n->R a b=true->R b c=true->R a c=true
 least:∀T:Nat->Nat->Bool,(∀a,a<n->T a a=true)->(∀p∈ps,T p.1 p.2=true)->(∀a b c,a<n->b<n->c<n->T a b=true->T b c=true->T a c=true) ->
  ∀a b,a<n->b<n->R a b=true->T a b=true
structure jO (n:Nat) (ps:List (Nat × Nat)) (m:Nat) (R:Nat->Nat->Bool):Prop where
 refl:∀a,a<n->R a a=true
 has:∀p∈ps,R p.1 p.2=true
 tr:∀k,k<m->∀a b,a<n->b<n->R a k=true->R k b=true->R a b=true
 least:∀T:Nat->Nat->Bool,(∀a,a<n->T a a=true)->(∀p∈ps,T p.1 p.2=true)->(∀a b c,a<n->b<n->c<n->T a b=true->T b c=true->T a c=true) ->
  ∀a b,a<n->b<n->R a b=true->T a b=true
noncomputable def j9(R:Nat->Nat->Bool)(m:Nat):Nat->Nat->Bool:=λa b=>R a b||(R a m&&R m b)
theorem vZ{R:Nat->Nat->Bool}{m a b:Nat}:j9 R m a b=true ↔ R a b=true\/(R a m=true/\R m b=true):=by simp[j9]
theorem jO.step{n m:Nat}{ps:List (Nat × Nat)}{R:Nat->Nat->Bool}(W:jO n ps m R)(hm:m<n):jO n ps (m+1) (j9 R m) where
 refl:=λa ha=>vZ.mpr (.inl (W.refl a ha))
 has:=λp hp=>vZ.mpr (.inl (W.has p hp))
 tr:=λk hk a b ha hb h1 h2=>by
  rw[vZ]at *
  by_cases e:k=m
  ·subst e
   have h1':R a k=true:=h1.elim id (·.1);have h2':R k b=true:=h2.elim id (·.2);exact .inr ⟨h1',h2'⟩
  ·have hk':k<m:=by omega
   rcases h1 with h1|⟨h1,h1'⟩
   ·rcases h2 with h2|⟨h2,h2'⟩
    ·exact .inl (W.tr k hk' a b ha hb h1 h2)
    ·exact .inr ⟨W.tr k hk' a m ha hm h1 h2,h2'⟩
   ·rcases h2 with h2|⟨h2,h2'⟩
    ·exact .inr ⟨h1,W.tr k hk' m b hm hb h1' h2⟩
    ·exact .inr ⟨h1,h2'⟩
 least:=λT t1 t2 t3 a b ha hb h=>by
  rcases vZ.mp h with h|⟨h,h'⟩
  ·exact W.least T t1 t2 t3 a b ha hb h
  ·exact t3 a m b ha hm hb (W.least T t1 t2 t3 a m ha hm h) (W.least T t1 t2 t3 m b hm hb h')
theorem jO.done{n:Nat}{ps:List (Nat × Nat)}{R:Nat->Nat->Bool}(W:jO n ps n R):gR n ps R:=
 ⟨W.refl,W.has,λa b c ha hb hc h1 h2=>W.tr b hb a c ha hc h1 h2,W.least⟩
noncomputable def base(ps:List (Nat × Nat)):Nat->Nat->Bool:=λa b=>a==b||ps.any λp=>p.1==a&&p.2==b
theorem og{ps:List (Nat × Nat)}{a b:Nat}:base ps a b=true ↔ a=b\/(a,b)∈ps:=by
 simp only[base,rH,gZ,List.any_eq_true,dB]
 constructor
 ·rintro(h|⟨⟨x,y⟩,hp,rfl,rfl⟩)
  ·exact .inl h
  ·exact .inr hp
 ·rintro(h|h)
  ·exact .inl h
  ·exact .inr ⟨(a,b),h,rfl,rfl⟩
theorem jO.start{n:Nat}{ps:List (Nat × Nat)}(hp:∀p∈ps,p.1<n/\p.2<n):jO n ps 0 (base ps) where
 refl:=λa _=>og.mpr (.inl rfl)
 has:=λp hp=>og.mpr (.inr hp)
 tr:=λk hk=>by omega
 least:=λT t1 t2 _ a b ha _ h=>by
  rcases og.mp h with rfl|h
  ·exact t1 a ha
  ·exact t2 _ h
instance (M:List Nat):Decidable (kh M):=
 decidable_of_iff (M.Nodup/\M.length<=24/\(∀x∈M,∀y∈M,x&&& y∈M)/\∃t∈M,∀x∈M,Sub x t)
  ⟨λ⟨a,b,c,d⟩=>⟨a,b,c,d⟩,λ⟨a,b,c,d⟩=>⟨a,b,c,d⟩⟩
end Ev
namespace My
open PySem PySem.Spec PyProof.Rows L2
noncomputable def top(i:Nat):Stmt:=PySem.Challenge.pw_evenclimb_k72_order_texts_refused.main.body.getD i (.Pass ⟨0,0,0,0⟩)
structure Txt (mg:Str->Option Value):Prop where
 len:mg "len" = none
 range:mg "range" = none
 zip:mg "zip" = none
 enumerate:mg "enumerate" = none
 tuple:mg "tuple" = none
 list:mg "list" = none
 int:mg "int" = none
 bool:mg "bool" = none
 str:mg "str" = none
 isinstance:mg "isinstance" = none
 sum:mg "sum" = none
 any:mg "any" = none
 all:mg "all" = none
 sorted:mg "sorted" = none
 min:mg "min" = none
 max:mg "max" = none
 most:∃t,mg "MOST_THINGS" = some (.int 24 t)
section
variable {P:Program} {w:World} {K:W.Frag} {mg:Str->Option Value} {base:Heap} {f:Addr} {fd:FuncData}
abbrev Bo:Stmt:=top 20
theorem Lw:bh ["value"] ["value"] (ay Bo):=⟨rfl,rfl,rfl,by decide +kernel,rfl,by decide +kernel,by decide +kernel⟩
noncomputable def vK:Sp:=Pu (λvs _=>∃i,vs = [.int i]) λ_ _ v _=>v = .bl true
theorem VR (F:aT K "is_whole" "is_whole" Bo f fd) (T:Txt mg):aN P w K mg base bf 1 f fd ["value"] vK:=by
 refine F.ok Lw (λvs H Q E h=>?_) (λcdv A outer s H vs Q E hr h=>?_)
 ·obtain⟨⟨i,rfl⟩,_⟩:=h
  rfl
 ·obtain⟨⟨i,rfl⟩,k⟩:=h
  have nd:=Lw.nd;refine⟨_,(aq (aS (jt (aR (fE (K:=K) "int" rfl) rfl T.isinstance cu (ae (pv 0) (ae (fu (v:=.ty "int") rfl T.int lX rfl) ag))) (iR (Kq (aR (fE (K:=K) "bool" rfl) rfl T.isinstance cu (ae (pv 0) (ae (fu (v:=.ty "bool") rfl T.bool sS rfl) ag)))))))),?_⟩;refine⟨_,rfl,_,_,_,rfl,.int i,rfl,true,rfl,a_ ?_⟩;exact⟨_,rfl,_,_,_,rfl,.int i,rfl,false,rfl,k _ _ (Same.refl _) rfl⟩
abbrev Bn:Stmt:=top 21
theorem Lv:bh ["count","number"] ["count","number"] (ay Bn):=⟨rfl,rfl,rfl,by decide +kernel,rfl,by decide +kernel,by decide +kernel⟩
noncomputable def Cy:Sp:=Pu (λvs _=>∃n i,vs = [.int n,.int i]) λvs _ v _=>∀n i,vs = [.int n,.int i]->v = .bl (decide (0<=i/\i<n))
theorem VP (F:aT K "is_thing" "is_thing" Bn f fd) (T:Txt mg) (oj:aF P w K mg base "is_whole" ["value"] 1 vK):aN P w K mg base bf 2 f fd ["count","number"] Cy:=by
 refine F.ok Lv (λvs H Q E h=>?_) (λcdv A outer s H vs Q E hr h=>?_)
 ·obtain⟨⟨n,i,rfl⟩,_⟩:=h
  rfl
 ·obtain⟨⟨n,i,rfl⟩,k⟩:=h
  have nd:=Lv.nd;refine⟨_,(aq (aS (jt (bj oj hr rfl (ae (pv 1) ag)) (iR (W2 uT la aj (pv 1) (pv 0)))))),?_⟩;refine⟨_,rfl,⟨i,rfl⟩,λv H1 s1 hv=>?_⟩;subst hv;refine⟨true,rfl,a_ ?_⟩;refine⟨_,rfl,_,_,rfl,rfl,_,rfl,bB (λh1=>?_) (λh1=>?_)⟩
  ·refine⟨_,rfl,_,_,rfl,rfl,k _ _ s1 ?_⟩
   intro n' i' e;cases e;rw[show decide (0<=i/\i<n)=decide (i<n)from by
    rw[kH]at h1;exact decide_eq_decide.mpr ⟨λh=>h.2,λh=>⟨h1,h⟩⟩]
  ·refine k _ _ s1 ?_
   intro n' i' e;cases e;rw[bE (λh=>h1 (bK h.1))]
abbrev BR:Stmt:=top 22
theorem Mw:bh ["count","number"] ["count","number"] (ay BR):=⟨rfl,rfl,rfl,by decide +kernel,rfl,by decide +kernel,by decide +kernel⟩
abbrev BK:Stmt:=top 23
theorem Ms:bh ["count"] ["count"] (ay BK):=⟨rfl,rfl,rfl,by decide +kernel,rfl,by decide +kernel,by decide +kernel⟩
end
noncomputable def cY(H:Hp)(p:Nat × Nat)(v:V):Prop:=∃t,v = .ref t/\H t=some (.tup [.int p.1,.int p.2])
noncomputable def wO(K:W.Frag)(H:Hp)(a:Addr)(ps:List (Nat × Nat)):Prop:=∃vs,ai K H a vs/\Paired (cY H) ps vs
noncomputable def TT(H:Hp)(v:V)(n:Nat)(g:Nat->Nat->V):Prop:=∃a vs,v = .ref a/\H a=some (.tup vs)/\Paired (λi u=>∃b,u = .ref b/\H b=some (.tup ((List.range n).map (g i)))) (List.range n) vs
theorem cY.same{H H':Hp}(s:Same H H'){p:Nat × Nat}{v:V}(h:cY H p v):cY H' p v:=let⟨t,e,q⟩:=h;⟨t,e,s _ _ q⟩
theorem gI.same{H H':Hp}(s:Same H H'){ps:List (Nat × Nat)}{vs:List V}(h:Paired (cY H) ps vs):Paired (cY H') ps vs:=Paired.c5 h λ_ _ q=>q.same s
theorem TT.same{H H':Hp}(s:Same H H'){v:V}{n:Nat}{g:Nat->Nat->V}(h:TT H v n g):TT H' v n g:=
 let⟨a,vs,e,q,r⟩:=h;⟨a,vs,e,s _ _ q,Paired.c5 r λ_ _ ⟨b,e,q⟩=>⟨b,e,s _ _ q⟩⟩
theorem jr{α β:Type}{F:α->β->Prop}:∀{l:List α} {m:List β} {i:Nat} {y:β},Paired F l m->m[i]?=some y->∃x,l[i]?=some x/\F x y
 |_,_,_,_,.nil,h=>by simp at h
 |_,_,0,_,.cons r _,h=>by simp at h;subst h;exact⟨_,rfl,r⟩
 |_,_,i+1,y,.cons _ t,h=>by
  obtain⟨x,h1,h2⟩:=jr (i:=i) (y:=y) t (by simpa using h);exact⟨x,by simpa using h1,h2⟩
theorem oU{α β:Type}{F:α->β->Prop}:∀{l:List α} {m:List β} {i:Nat} {x:α},Paired F l m->l[i]?=some x->∃y,m[i]?=some y/\F x y
 |_,_,_,_,.nil,h=>by simp at h
 |_,_,0,_,.cons r _,h=>by simp at h;subst h;exact⟨_,rfl,r⟩
 |_,_,i+1,y,.cons _ t,h=>by
  obtain⟨x,h1,h2⟩:=oU (i:=i) (x:=y) t (by simpa using h);exact⟨x,by simpa using h1,h2⟩
theorem TT.row{H:Hp}{v:V}{n:Nat}{g:Nat->Nat->V}(h:TT H v n g){i:Nat}(hi:i<n):∃a vs b,v = .ref a/\H a=some (.tup vs)/\vs.length=n/\vs[i]?=some (.ref b)/\H b=some (.tup ((List.range n).map (g i))):=by
 obtain⟨a,vs,e,q,r⟩:=h;obtain⟨y,h1,b,rfl,h2⟩:=oU (i:=i) (x:=i) r (by simp[hi]);exact⟨a,vs,b,e,q,by simpa using(cV r).symm,h1,h2⟩
theorem qd{n:Nat}{g:Nat->V}{j:Nat}(hj:j<n):ji ((List.range n).map g) (j:Int)=some (g j):=bp (by simp[hj])
theorem dM{n:Nat}(h:n<=24):n<sizeLine:=nG h (by decide)
theorem cP{n:Nat}(h:n<=100000):n<sizeLine:=nG h (by decide)
theorem bH{n:Nat}(h:n<=100000):-(2 ^ 62)<=(n:Int)/\(n:Int)<2 ^ 62:=by omega
theorem yr{t i:Nat}:decide (V.int (t:Int)=V.int (0+(i:Int)))=decide (t=i):=by
 apply decide_eq_decide.mpr
 constructor
 ·intro h;injection h with h;omega
 ·intro h;subst h;simp
section
variable {P:Program} {w:World} {K:W.Frag} {mg:Str->Option Value} {base:Heap} {f:Addr} {fd:FuncData}
abbrev BP:Stmt:=top 24
theorem Mv:bh ["count","pairs","pair"] ["count","pairs"] (ay BP):=⟨rfl,rfl,rfl,by decide +kernel,rfl,by decide +kernel,by decide +kernel⟩
abbrev vD:Stmt:=top 25
theorem Mx:bh ["count","thing"] ["count","thing"] (ay vD):=⟨rfl,rfl,rfl,by decide +kernel,rfl,by decide +kernel,by decide +kernel⟩
noncomputable def bL(n:Nat)(p:Nat->Bool):List V:=(List.range n).map λb=>V.bl (p b)
noncomputable def CT:Sp:=Pu (λvs H=>∃n t:Nat,vs = [.int n,.int t]/\n<=24) λvs H v H'=>∀n t:Nat,vs = [.int n,.int t]->∃a,v = .ref a/\H a=none/\H' a=some (.lst (bL n λb=>decide (t=b)))
theorem V5 (F:aT K "own_row" "own_row" vD f fd) (T:Txt mg):aN P w K mg base bf 1 f fd ["count","thing"] CT:=by
 refine F.ok Mx (λvs H Q E h=>?_) (λcdv A outer s H vs Q E hr h=>?_)
 ·obtain⟨⟨n,t,rfl,_⟩,_⟩:=h
  rfl
 ·obtain⟨⟨n,t,rfl,hn⟩,k⟩:=h
  have nd:=Mx.nd;refine⟨_,(aq (aS (dg (own:=["other"]) (fr:=[("thing", 1)]) rfl (cM (ay vD) ["count","thing"] rfl rfl (by decide +kernel)) (cS rfl T.range (ae (pv 0) ag)) (λ_ _ _ _=>⟨(aY (i:=0) (by decide +kernel:(["other","thing"]:List Str).Nodup) rfl (Or.inl rfl)),dz,(hZ bQ (pv 1) (pv 0) (aP _))⟩)))),?_⟩;refine⟨_,rfl,n,rfl,(bH (by omega)).1,(bH (by omega)).2,λD hD=>fF (λi=>.bl (decide (t=i))) src_range hD (dM (by simpa using hn)) (λi H2 Kt hi hs hk=>?_) (λH' hs hl=>?_)⟩
  ·refine⟨_,rfl,_,rfl,rfl,?_⟩
   rw[yr];exact hk _ (Same.refl _)
  ·refine k _ _ hs ?_
   intro n' t' e;cases e;exact⟨D,rfl,hD,by rw[hl];simp[bL]⟩
end
theorem qZ(n:Nat)(p:Nat->Bool):(bL n p).length=n:=by simp[bL]
theorem qY{n:Nat}{p:Nat->Bool}{i:Nat}(h:i<n):(bL n p).getD i .non = .bl (p i):=by simp[bL,h]
theorem X1{n:Nat}{p:Nat->Bool}{j:Nat}:(bL n p).set j (.bl true)=bL n λb=>if b=j then true else p b:=by
 apply ki
 ·simp[bL]
 ·intro i h1 h2
  simp only[bL,List.getElem_set,Ek,List.getElem_range]
  by_cases e:j=i
  ·simp[e]
  ·have:¬ i=j:=λz=>e z.symm
   simp[e,this]
theorem lA{n:Nat}{p q:Nat->Bool}(h:∀b,b<n->p b=q b):bL n p=bL n q:=by
 unfold bL;apply pN
 intro b hb;rw[h b (by simpa using hb)]
section
variable {P:Program} {w:World} {K:W.Frag} {mg:Str->Option Value} {base:Heap} {f:Addr} {fd:FuncData}
abbrev vi:Stmt:=top 26
theorem Lk:bh ["one","other"] ["one","other"] (ay vi):=⟨rfl,rfl,rfl,by decide +kernel,rfl,by decide +kernel,by decide +kernel⟩
noncomputable def Cj:Sp:=Pu (λvs H=>∃(x y n:Nat) (p q:Nat->Bool),vs = [.ref x,.ref y]/\H x=some (.lst (bL n p))/\H y=some (.lst (bL n q))/\n<=24)
 λvs H v H'=>∀(x y n:Nat) (p q:Nat->Bool),vs = [.ref x,.ref y]->H x=some (.lst (bL n p))->H y=some (.lst (bL n q))->∃a,v = .ref a/\H a=none/\H' a=some (.lst (bL n λb=>p b||q b))
theorem u_{n m:Nat}{p q:Nat->Bool}(h:bL n p=bL m q):n=m/\∀b,b<n->p b=q b:=by
 have e:n=m:=by have:=congrArg List.length h;rwa [qZ,qZ]at this
 subst e;refine⟨rfl,λb hb=>?_⟩;have:=congrArg (λl=>l.getD b V.non) h;simp only[qY hb]at this;injection this
theorem Vz (F:aT K "either" "either" vi f fd) (T:Txt mg):aN P w K mg base bf 1 f fd ["one","other"] Cj:=by
 refine F.ok Lk (λvs H Q E h=>?_) (λcdv A outer s H vs Q E hr h=>?_)
 ·obtain⟨⟨x,y,n,p,q,rfl,_⟩,_⟩:=h
  rfl
 ·obtain⟨⟨x,y,n,p,q,rfl,hx,hy,hn⟩,k⟩:=h
  have nd:=Lk.nd;refine⟨_,(aq (aS (dg (own:=["a","b"]) (fr:=[]) rfl (cM (ay vi) ["one","other"] rfl rfl (by decide +kernel)) (Kw (K:=K) true true rfl rfl T.zip (ae (pv 0) (ae (pv 1) ag))) (λ_ _ _ _=>⟨(mQ (K:=K) (i:=0) (j:=1) rfl rfl (by decide +kernel:(["a","b"]:List Str).Nodup) rfl rfl rfl rfl),dz,(Kr (pv 0) (iR (pv 1)))⟩)))),?_⟩;refine⟨_,rfl,_,rfl,x,y,_,_,rfl,ai.of hx,ai.of hy,λD hD=>fF (λi=>.bl (p i||q i)) (Ni (c1:=true) (c2:=true) (ai.of hx) (ai.of hy) (n:=n) (by simp[qZ])) hD (dM hn) (λi H2 Kt hi hs hk=>?_) (λH' hs hl=>?_)⟩
  ·refine⟨_,rfl,p i,qY hi,bB (λh=>?_) (λh=>?_)⟩
   ·have:=hk _ (Same.refl _)
    simpa[h]using this
   ·refine⟨_,rfl,?_⟩
    have:=hk _ (Same.refl _);rw[qY hi];simpa[h]using this
  ·refine k _ _ hs ?_
   intro x' y' n' p' q' e h1 h2;cases e;rw[hx]at h1;rw[hy]at h2;injection h1 with h1
   injection h1 with h1
   injection h2 with h2
   injection h2 with h2
   obtain⟨rfl,e1⟩:=u_ h1;obtain⟨_,e2⟩:=u_ h2;refine⟨D,rfl,hD,?_⟩;rw[hl];show some (HO.lst (bL n λi=>p i||q i))=_;rw[lA λb hb=>by rw[e1 b hb,e2 b hb]]
abbrev vG:Stmt:=top 27
theorem MN:bh ["one","other"] ["one","other"] (ay vG):=⟨rfl,rfl,rfl,by decide +kernel,rfl,by decide +kernel,by decide +kernel⟩
noncomputable def Dg:Sp:=Pu (λvs H=>∃(x y n:Nat) (p q:Nat->Bool),vs = [.ref x,.ref y]/\H x=some (.tup (bL n p))/\H y=some (.tup (bL n q))/\n<=24)
 λvs H v H'=>∀(x y n:Nat) (p q:Nat->Bool),vs = [.ref x,.ref y]->H x=some (.tup (bL n p))->H y=some (.tup (bL n q))->∃a,v = .ref a/\H a=none/\H' a=some (.tup (bL n λb=>p b&&q b))
theorem Wc (F:aT K "shared" "shared" vG f fd) (T:Txt mg):aN P w K mg base bf 1 f fd ["one","other"] Dg:=by
 refine F.ok MN (λvs H Q E h=>?_) (λcdv A outer s H vs Q E hr h=>?_)
 ·obtain⟨⟨x,y,n,p,q,rfl,_⟩,_⟩:=h
  rfl
 ·obtain⟨⟨x,y,n,p,q,rfl,hx,hy,hn⟩,k⟩:=h
  have nd:=MN.nd;refine⟨_,(aq (aS (dm (kG (K:=K) rfl) rfl T.tuple iF (ae (dg (own:=["a","b"]) (fr:=[]) rfl (cM (ay vG) ["one","other"] rfl rfl (by decide +kernel)) (Kw (K:=K) false false rfl rfl T.zip (ae (pv 0) (ae (pv 1) ag))) (λ_ _ _ _=>⟨(mQ (K:=K) (i:=0) (j:=1) rfl rfl (by decide +kernel:(["a","b"]:List Str).Nodup) rfl rfl rfl rfl),dz,(jt (pv 0) (iR (pv 1)))⟩)) ag)))),?_⟩;refine⟨_,rfl,_,rfl,x,y,_,_,rfl,aQ.of hx,aQ.of hy,λD hD=>fF (λi=>.bl (p i&&q i)) (Ni (c1:=false) (c2:=false) (aQ.of hx) (aQ.of hy) (n:=n) (by simp[qZ])) hD (dM hn) (λi H2 Kt hi hs hk=>?_) (λH' hs hl=>?_)⟩
  ·refine⟨_,rfl,p i,qY hi,bB (λh=>?_) (λh=>?_)⟩
   ·refine⟨_,rfl,?_⟩
    have:=hk _ (Same.refl _);rw[qY hi];simpa[h]using this
   ·have:=hk _ (Same.refl _)
    simpa[h]using this
  ·refine⟨D,_,rfl,.inl ⟨ai.of hl,λl hl'=>?_⟩⟩
   have hlH:H l=none:=hs.free hl';refine k _ _ (hs.trans (Same.put hl')) ?_;intro x' y' n' p' q' e h1 h2;cases e;rw[hx]at h1;rw[hy]at h2;injection h1 with h1
   injection h1 with h1
   injection h2 with h2
   injection h2 with h2
   obtain⟨rfl,e1⟩:=u_ h1;obtain⟨_,e2⟩:=u_ h2;refine⟨l,rfl,hlH,?_⟩;rw[ak];show some (HO.tup (bL n λi=>p i&&q i))=_;rw[lA λb hb=>by rw[e1 b hb,e2 b hb]]
abbrev vh:Stmt:=top 28
theorem Lj:bh ["rows","place"] ["rows","place"] (ay vh):=⟨rfl,rfl,rfl,by decide +kernel,rfl,by decide +kernel,by decide +kernel⟩
noncomputable def Ce:Sp:=Pu (λvs H=>∃(v:V) (n j:Nat) (g:Nat->Nat->V),vs = [v,.int j]/\TT H v n g/\j<n/\n<=24)
 λvs H v H'=>∀(u:V) (n j:Nat) (g:Nat->Nat->V),vs = [u,.int j]->TT H u n g->j<n->∃a,v = .ref a/\H a=none/\H' a=some (.tup ((List.range n).map λi=>g i j))
theorem TT.inj{H:Hp}{v:V}{n m:Nat}{g g':Nat->Nat->V}(h:TT H v n g)(h':TT H v m g'):n=m/\∀i j,i<n->j<n->g i j=g' i j:=by
 obtain⟨a,vs,e,q,r⟩:=id h;obtain⟨a',vs',e',q',r'⟩:=id h';rw[e]at e';injection e' with e'
 subst e';rw[q]at q';injection q' with q'
 injection q' with q'
 subst q';have en:n=m:=by
  have h1:=cV r;have h2:=cV r';simp at h1 h2;omega
 subst en;refine⟨rfl,λi j hi hj=>?_⟩;obtain⟨y,h1,b,rfl,h2⟩:=oU (i:=i) (x:=i) r (by simp[hi]);obtain⟨y',h1',b',rfl,h2'⟩:=oU (i:=i) (x:=i) r' (by simp[hi]);rw[h1]at h1';injection h1' with h1'
 injection h1' with h1'
 subst h1';rw[h2]at h2';injection h2' with h2'
 injection h2' with h2'
 have:=congrArg (λl=>l.getD j V.non) h2';simpa[hj]using this
theorem Vu (F:aT K "column" "column" vh f fd) (T:Txt mg):aN P w K mg base bf 1 f fd ["rows","place"] Ce:=by
 refine F.ok Lj (λvs H Q E h=>?_) (λcdv A outer s H vs Q E hr h=>?_)
 ·obtain⟨⟨v,n,j,g,rfl,_⟩,_⟩:=h
  rfl
 ·obtain⟨⟨v,n,j,g,rfl,ht,hj,hn⟩,k⟩:=h
  have nd:=Lj.nd;obtain⟨a,us,rfl,hq,hr'⟩:=id ht;have hlen:us.length=n:=by simpa using(cV hr').symm
  refine⟨_,(aq (aS (dm (kG (K:=K) rfl) rfl T.tuple iF (ae (dg (own:=["row"]) (fr:=[("place", 1)]) rfl (cM (ay vh) ["rows","place"] rfl rfl (by decide +kernel)) (Ba (K:=K) rfl (pv 0)) (λ_ _ _ _=>⟨(aY (i:=0) (by decide +kernel:(["row","place"]:List Str).Nodup) rfl (Or.inl rfl)),dz,(aH (cW (K:=K) rfl) (pv 0) (pv 1) (λ_ _=>rfl))⟩)) ag)))),?_⟩;refine⟨_,rfl,a,rfl,⟨_,aQ.of hq⟩,λD hD=>fF (λi=>g i j) (Nh (aQ.of hq)) hD (dM (by omega)) (λi H2 Kt hi hs hk=>?_) (λH' hs hl=>?_)⟩
  ·obtain⟨y,h1,b,rfl,h2⟩:=oU (i:=i) (x:=i) hr' (pM (by omega))
   refine⟨_,rfl,_,rfl,b,_,j,_,(by rw[aZ,h1];rfl),rfl,aQ.of (hs _ _ h2),qd hj,hk _ (Same.refl _)⟩
  ·refine⟨D,_,rfl,.inl ⟨ai.of hl,λl hl'=>?_⟩⟩
   refine k _ _ (hs.trans (Same.put hl')) ?_;intro u' n' j' g' e h1 h2;injection e with e1 e2
   injection e2 with e2 _
   injection e2 with e2
   have ej:j=j':=by omega
   subst ej;rw[<- e1]at h1;obtain⟨rfl,eg⟩:=ht.inj h1;refine⟨l,rfl,hs.free hl',?_⟩;rw[ak,hlen]
   congr 2
   exact pN λi hi=>eg i j (by simpa using hi) hj
end
theorem U7{N:List Addr}(hN:N.Nodup){i j:Nat}{x:Addr}(a:N[i]?=some x)(b:N[j]?=some x):i=j:=by
 obtain⟨h1,e1⟩:=cG.mp a;obtain⟨h2,e2⟩:=cG.mp b;exact(List.getElem_inj hN).mp (e1.trans e2.symm)
theorem JV:∀{as:List Addr} {t b:Nat},as.Nodup->b ∉ as->(as.set t b).Nodup
 | [],_,_,_,_=>by simp
 |a::r,0,b,nd,hb=>jI.mpr ⟨λh=>hb (bT _ h),(jI.mp nd).2⟩
 |a::r,t+1,b,nd,hb=>by
  rw[List.set_cons_succ];refine jI.mpr ⟨λh=>?_,JV (jI.mp nd).2 λh=>hb (bT _ h)⟩
  rcases Ep h with h|h
  ·exact(jI.mp nd).1 h
  ·subst h;exact hb cK
structure eA (H0 H:Hp) (r n:Nat) (as:List Addr) (R:Nat->Nat->Bool):Prop where
 same:Same H0 H
 lst:H r=some (.lst (as.map V.ref))
 len:as.length=n
 nd:as.Nodup
 JM:H0 r=none
 new:∀a∈as,H0 a=none/\a≠r
 row:∀(i:Nat) a,as[i]?=some a->H a=some (.lst (bL n (R i)))
theorem eA.congr{H0 H:Hp}{r n:Nat}{as:List Addr}{R R':Nat->Nat->Bool}(W:eA H0 H r n as R)(h:∀a b,a<n->b<n->R a b=R' a b):eA H0 H r n as R':=
 {W with row:=λi a e=>(W.row i a e).trans (by rw[lA λb hb=>h i b (by rw[<- W.len];exact(cG.mp e).1) hb])}
theorem eA.get{H0 H:Hp}{r n:Nat}{as:List Addr}{R:Nat->Nat->Bool}(W:eA H0 H r n as R){i:Nat}(hi:i<n):∃a,as[i]?=some a/\(as.map V.ref)[i]?=some (.ref a)/\a∈as/\H a=some (.lst (bL n (R i))):=by
 have h:i<as.length:=by rw[W.len];exact hi
 exact⟨as[i],aK h,by simp[h],ja h,W.row i _ (aK h)⟩
theorem eA.grow{H0 H H':Hp}{r n:Nat}{as:List Addr}{R:Nat->Nat->Bool}(W:eA H0 H r n as R)(s:Same H H'):eA H0 H' r n as R:=
 {W with same:=W.same.trans s,lst:=s _ _ W.lst,row:=λi a e=>s _ _ (W.row i a e)}
theorem eA.put{H0 H:Hp}{r n:Nat}{as:List Addr}{R:Nat->Nat->Bool}(W:eA H0 H r n as R){i j a:Nat}(ha:as[i]?=some a):
  eA H0 (upd H a (.lst ((bL n (R i)).set j (.bl true)))) r n as (λx y=>if x=i/\y=j then true else R x y):=by
 have am:a∈as:=eh ha;refine{W with same:=λb o e=>?_,lst:=?_,row:=λk b e=>?_}
 ·rw[aA (λz=>by rw[z,(W.new a am).1]at e;cases e)]
  exact W.same _ _ e
 ·rw[aA (cE (W.new a am).2)]
  exact W.lst
 ·by_cases hk:k=i
  ·subst hk
   rw[ha]at e;cases e;rw[ak,X1]
   congr 2
   apply lA
   intro b hb;simp
  ·have hba:b≠a:=by
    rintro rfl;exact hk (U7 W.nd e ha)
   rw[aA hba,W.row k b e]
   congr 2
   apply lA
   intro c hc;rw[au (λz=>hk z.1)]
theorem eA.swap{H0 H:Hp}{r n:Nat}{as:List Addr}{R:Nat->Nat->Bool}(W:eA H0 H r n as R){t b:Nat}{p:Nat->Bool}(ht:t<n)(hb:H0 b=none)(hbr:b≠r)(hba:b ∉ as)(hp:H b=some (.lst (bL n p))):
  eA H0 (upd H r (.lst ((as.map V.ref).set t (.ref b)))) r n (as.set t b) (λx y=>if x=t then p y else R x y):=by
 refine⟨λc o e=>?_,?_,by rw[lN];exact W.len,?_,W.JM,λc hc=>?_,λk c e=>?_⟩
 ·rw[aA (λz=>by rw[z,W.JM]at e;cases e)]
  exact W.same _ _ e
 ·rw[ak,pP]
 ·exact JV W.nd hba
 ·rcases Ep hc with h|h
  ·exact W.new c h
  ·subst h;exact⟨hb,hbr⟩
 ·by_cases hk:t=k
  ·subst hk
   have hlt:t<as.length:=by rw[W.len];exact ht
   rw[wB hlt]at e;cases e;rw[aA hbr,hp]
   congr 2
   apply lA
   intro y _;rw[az rfl]
  ·rw[rX hk]at e
   rw[aA (W.new c (eh e)).2,W.row k c e]
   congr 2
   apply lA
   intro y _;rw[au (λz=>hk z.symm)]
theorem Pw(a b:Nat):Ev.base [] a b=decide (a=b):=by rw[gQ,Ev.og];simp
theorem Px(ps:List (Nat × Nat))(p:Nat × Nat)(a b:Nat):Ev.base (ps++[p]) a b=if a=p.1/\b=p.2 then true else Ev.base ps a b:=by
 rw[gQ,Ev.og]
 by_cases h:a=p.1/\b=p.2
 ·rw[az h]
  obtain⟨rfl,rfl⟩:=h;simp
 ·rw[au h,Ev.og]
  simp only[fe,bW]
  constructor
  ·rintro(h1|h1|h1)
   ·exact .inl h1
   ·exact .inr h1
   ·subst h1;exact absurd ⟨rfl,rfl⟩ h
  ·rintro(h1|h1)
   ·exact .inl h1
   ·exact .inr (.inl h1)
section
variable {P:Program} {w:World} {K:W.Frag} {mg:Str->Option Value} {base:Heap} {f:Addr} {fd:FuncData}
theorem mF{n j:Nat}(h:j<n):jo n (j:Int)=some j:=by
 unfold jo;rw[az (by omega),az (by omega)];simp
abbrev qf (R:Nat->Nat->Bool):Nat->Nat->V:=λa b=>.bl (R a b)
abbrev rj:Stmt:=top 29
theorem MF:bh ["count","pairs","rows","pair","middle","thing"] ["count","pairs"] (ay rj):=⟨rfl,rfl,rfl,by decide +kernel,rfl,by decide +kernel,by decide +kernel⟩
noncomputable def C_(K:W.Frag):Sp:=λvs H Q _=>∃(n a:Nat) (ps:List (Nat × Nat)),vs = [.int n,.ref a]/\wO K H a ps/\n<=24/\(∀p∈ps,p.1<n/\p.2<n) /\
 ∀v H' R,Same H H'->Ev.gR n ps R->TT H' v n (qf R)->Q v H'
theorem at0{α:Type}{xs:List α}{j:Nat}{v:α}(h:xs[j]?=some v):ji xs (0+(j:Int))=some v:=by rw[fb];exact bp h
theorem Jf{n j:Nat}(h:j<n):jo n (0+(j:Int))=some j:=by rw[fb];exact mF h
theorem XZ{n:Nat}{p:Nat->Bool}{j:Nat}(h:j<n):(bL n p)[j]?=some (.bl (p j)):=by simp[bL,h]
theorem V_ (F:aT K "reach_of" "reach_of" rj f fd) (T:Txt mg) (yd:aF P w K mg base "own_row" ["count","thing"] 1 CT) (xH:aF P w K mg base "either" ["one","other"] 1 Cj) :
  aN P w K mg base bf 2 f fd ["count","pairs"] (C_ K):=by
 refine F.ok MF (λvs H Q E h=>?_) (λcdv A outer s H vs Q E hr h=>?_)
 ·obtain⟨n,a,ps,rfl,_⟩:=h
  rfl
 ·obtain⟨n,a,ps,rfl,⟨us,Ir,hup⟩,hn,hb,k⟩:=h
  have nd:=MF.nd;have en:((n:Int)).toNat=n:=bJ n;refine⟨_,(ao (uZ (i:=2) nd rfl rfl (own:=["thing"]) (fr:=[("count", 0)]) rfl (cM (ay rj) ["count","pairs","rows","pair","middle","thing"] rfl rfl (by decide +kernel)) (cS rfl T.range (ae (pv 0) ag)) (λ_ _ _ _=>⟨(aY (i:=0) (by decide +kernel:(["thing","count"]:List Str).Nodup) rfl (Or.inl rfl)),dz,(bj yd hr rfl (ae (pv 1) (ae (pv 0) ag)))⟩))
   (ao (b_ cy rfl (dJ (K:=K) rfl (pv 1)) (aY (i:=3) nd rfl (Or.inl rfl))
   (aq (ll iQ (mR (aH (aX (K:=K) rfl) (pv 2) (aH (cW (K:=K) rfl) (pv 3) aj (λ_ _=>rfl)) (λ_ _=>rfl)) (aH (cW (K:=K) rfl) (pv 3) aj (λ_ _=>rfl)) set_list))))
   (ao (b_ cy rfl (cS rfl T.range (ae (pv 0) ag)) (aY (i:=4) nd rfl (Or.inl rfl))
   (aq (b_ cy rfl (cS rfl T.range (ae (pv 0) ag)) (aY (i:=5) nd rfl (Or.inl rfl))
   (aq (bq (dh (aH (aX (K:=K) rfl) (aH (aX (K:=K) rfl) (pv 2) (pv 5) (λ_ _=>rfl)) (pv 4) (λ_ _=>rfl))) (aq (ll (bj xH hr rfl (ae (aH (aX (K:=K) rfl) (pv 2) (pv 5) (λ_ _=>rfl)) (ae (aH (aX (K:=K) rfl) (pv 2) (pv 4) (λ_ _=>rfl)) ag))) (mR (pv 2) (pv 5) set_list))) bx)))))
   (aq (aS (dm (kG (K:=K) rfl) rfl T.tuple iF (ae (dg (own:=["row"]) (fr:=[]) rfl (cM (ay rj) ["count","pairs","rows","pair","middle","thing"] rfl rfl (by decide +kernel)) (dJ (K:=K) rfl (pv 2)) (λ_ _ _ _=>⟨(aY (i:=0) (by decide +kernel:(["row"]:List Str).Nodup) rfl (Or.inl rfl)),dz,(dm (kG (K:=K) rfl) rfl T.tuple iF (ae (pv 0) ag))⟩)) ag))))))),?_⟩
  refine⟨_,rfl,n,rfl,(bH (by omega)).1,(bH (by omega)).2,λD hD=>Qb (λi=>bL n λb=>decide (i=b)) src_range hD (dM (by simpa using hn)) (λi H2 Kt hi hs hk=>?_) (λH1 as hs hl h1 h2 h3 h4=>?_)⟩
  ·refine⟨_,rfl,_,rfl,⟨n,i,by simp,hn⟩,λv H3 s3 hv=>?_⟩
   obtain⟨b,rfl,hb1,hb2⟩:=hv n i (by simp);exact hk b H3 s3 hb1 hb2
  have W0:eA H H1 D n as (Ev.base []):=⟨hs,hl,h1.trans en,h2,hD,h3,λi b e=>(h4 i b e).trans (by rw[lA λc hc=>(Pw i c).symm])⟩;refine⟨_,rfl,a,rfl,⟨_,hs.seq Ir⟩,jn (K:=K) (a:=a) (xs:=us) (λi σ H2=>∃v3,σ = [some (.int n),some (.ref a),some (.ref D),v3,none,none]/\eA H H2 D n as (Ev.base (ps.take i)))
   ⟨none,rfl,by simpa using W0⟩ (λi σ H2 _ ⟨_,_,W⟩=>W.same.seq Ir) ?_ ?_⟩
  ·rintro i y σ H2 hi ⟨v3,rfl,W⟩
   obtain⟨p,hp1,t,rfl,ht⟩:=jr hup hi;obtain⟨b1,b2⟩:=hb p (eh hp1);obtain⟨r,r1,r2,r3,r4⟩:=W.get b1;refine⟨_,rfl,_,rfl,t,_,0,_,rfl,rfl,aQ.of (W.same _ _ ht),rfl,D,_,_,_,rfl,rfl,ai.of W.lst,bp r2,_,rfl,t,_,1,_,rfl,rfl,aQ.of (W.same _ _ ht),rfl,r,_,_,p.2,rfl,rfl,r4,?_,?_⟩
   ·rw[qZ];exact mF b2
   ·refine⟨_,rfl,(W.put r1).congr λx y _ _=>?_⟩
    have et:ps.take (i+1)=ps.take i++[p]:=by rw[List.take_add_one,hp1];rfl
    rw[et,Px]
  ·rintro σ H2 ⟨v3,rfl,W⟩
   have el:us.length=ps.length:=(cV hup).symm;rw[el,pR]at W;have hlen:us.length=ps.length:=(cV hup).symm;refine⟨_,rfl,n,rfl,(bH (by omega)).1,(bH (by omega)).2,dZ (lo:=0) (n:=((n:Int)).toNat) (λm σ H2=>∃v3 v4 v5 as R,σ = [some (.int n),some (.ref a),some (.ref D),v3,v4,v5]/\eA H H2 D n as R/\Ev.jO n ps m R)
    ⟨v3,none,none,as,_,rfl,W,Ev.jO.start hb⟩ ?_ ?_⟩
   ·rintro m σ H2 hm ⟨v3,v4,v5,as,R,rfl,W,WI⟩
    have hmn:m<n:=by omega
    refine⟨_,rfl,n,rfl,(bH (by omega)).1,(bH (by omega)).2,dZ (lo:=0) (n:=((n:Int)).toNat) (λt σ H2=>∃v5 as,σ = [some (.int n),some (.ref a),some (.ref D),v3,some (.int (0+m)),v5] /\
     eA H H2 D n as (λx y=>if x<t then Ev.j9 R m x y else R x y)) ⟨v5,as,rfl,W.congr λx y _ _=>by rw[au (Nat.not_lt_zero x)]⟩ ?_ ?_⟩
    ·rintro t σ H3 ht ⟨v5,as,rfl,W⟩
     have htn:t<n:=by omega
     obtain⟨rt,t1,t2,t3,t4⟩:=W.get htn;obtain⟨rm,m1,m2,m3,m4⟩:=W.get hmn;refine⟨_,rfl,_,rfl,D,_,_,_,rfl,rfl,ai.of W.lst,at0 t2,_,rfl,rt,_,_,_,rfl,rfl,ai.of t4,at0 (XZ hmn),_,rfl,bB (λh=>?_) (λh=>?_)⟩
     ·rw[au (fh t)]at h
      refine⟨_,rfl,_,rfl,D,_,_,_,rfl,rfl,ai.of W.lst,at0 t2,_,rfl,_,rfl,D,_,_,_,rfl,rfl,ai.of W.lst,at0 m2,⟨rt,rm,n,_,_,rfl,t4,m4,hn⟩,λv H4 s4 hv=>?_⟩;obtain⟨b,rfl,q1,q2⟩:=hv rt rm n _ _ rfl t4 m4;have W4:=W.grow s4;have hbD:b≠D:=λe=>by rw[e,W.lst]at q1;cases q1
      have hba:b ∉ as:=λhm=>by
       obtain⟨j,hj,e⟩:=lM hm;have:=W.row j b (by rw[aK hj,e]);rw[q1]at this;cases this
      refine⟨_,rfl,_,rfl,D,_,_,t,rfl,rfl,W4.lst,?_,?_⟩
      ·rw[aB,W4.len];exact Jf htn
      ·refine⟨_,_,rfl,(W4.swap htn (W.same.free q1) hbD hba q2).congr λx y hx hy=>?_⟩
       by_cases e:x=t
       ·subst e
        rw[az rfl,au (fh x),az (pV x)];have em:(if m<x then Ev.j9 R m m y else R m y)=R m y:=by
         split
         ·unfold Ev.j9
          cases R m y<;>simp
         ·rfl
        rw[em];unfold Ev.j9;rw[h,jB]
       ·rw[au e]
        by_cases qA:x<t
        ·rw[az qA,az (by omega)]
        ·rw[au qA,au (by omega)]
     ·rw[au (fh t)]at h
      refine⟨_,as,rfl,W.congr λx y hx hy=>?_⟩
      by_cases e:x=t
      ·subst e
       rw[au (fh x),az (pV x)];unfold Ev.j9;have h':R x m=false:=by simpa using h
       rw[h',j_,Ec]
      ·by_cases qA:x<t
       ·rw[az qA,az (by omega)]
       ·rw[au qA,au (by omega)]
    ·rintro σ H3 ⟨v5,as,rfl,W⟩
     exact⟨_,_,_,as,Ev.j9 R m,rfl,W.congr λx y hx _=>by rw[az (by omega)],WI.step hmn⟩
   ·rintro σ H2 ⟨v3,v4,v5,as,R,rfl,W,WI⟩
    rw[en]at WI;refine⟨_,rfl,D,rfl,⟨_,ai.of W.lst⟩,λD2 hD2=>qh (λi v H=>∃b,v = .ref b/\b≠D2/\H b=some (.tup (bL n (R i)))) (src_list (ai.of W.lst)) hD2 (dM (by rw[aB,W.len];exact hn))
     (λi v H H' s ⟨b,e,hb,q⟩=>⟨b,e,hb,s _ _ hb q⟩) (λi H3 Kt hi hs hy hk=>?_) (λH3 ys hs hl hp=>?_)⟩
    ·rw[aB,W.len]at hi
     obtain⟨r,r1,r2,r3,r4⟩:=W.get hi;obtain⟨zs,hz⟩:=hy;refine⟨_,rfl,r,_,by rw[aZ,r2];rfl,.inl ⟨ai.of (hs _ _ r4),λl hl'=>?_⟩⟩;exact hk _ _ (Same.put hl') ⟨l,rfl,(λe=>by rw[e,hz]at hl';cases hl'),ak⟩
    ·refine⟨D2,_,rfl,.inl ⟨ai.of hl,λl hl'=>?_⟩⟩
     have QD:(as.map V.ref).length=n:=by rw[aB,W.len]
     rw[QD]at hp;refine k _ _ R ((W.same.trans hs).trans (Same.put hl')) WI.done ⟨l,ys,rfl,ak,Paired.c5 hp λi u ⟨b,e,_,q⟩=>⟨b,e,Same.put hl' _ _ q⟩⟩
end
theorem qP{H:Hp}{L:Addr}{xs ys:List V}(hL:H L=some (.lst xs)){ps:List (Nat × Nat)}{us:List V}(h:Paired (cY H) ps us):Paired (cY (upd H L (.lst ys))) ps us:=
 Paired.c5 h λ_ _ ⟨t,e,q⟩=>⟨t,e,by rw[aA (mL q hL (λz=>nomatch z))];exact q⟩
theorem lh{α β:Type}{F:α->β->Prop}:∀{a b:List α} {c d:List β},Paired F a c->Paired F b d->Paired F (a++b) (c++d)
 |_,_,_,_,.nil,h=>h
 |_,_,_,_,.cons r t,h=>.cons r (lh t h)
theorem qO{α β γ:Type}{F:γ->β->Prop}{g:α->γ}:∀{a:List α} {c:List β},Paired (λx y=>F (g x) y) a c->Paired F (a.map g) c
 |_,_,.nil=>.nil
 |_,_,.cons r t=>.cons r (qO t)
theorem u9{α:Type}(i:Nat)(h:Nat->List α):(List.range (i+1)).flatMap h=(List.range i).flatMap h++h i:=by
 rw[nB,List.flatMap_append];simp
noncomputable def bF(n:Nat):List (Nat × Nat):=(List.range n).flatMap λl=>(List.range (n - (l+1))).map λj=>(l,l+1+j)
theorem ux{n:Nat}{p:Nat × Nat}(h:p∈bF n):p.1<p.2/\p.2<n:=by
 unfold bF at h;rw[wC]at h;obtain⟨l,hl,h⟩:=h;rw[cU]at h;obtain⟨j,hj,rfl⟩:=h;simp at hl hj ⊢;omega
noncomputable def eD(n:Nat)(R:Nat->Nat->Bool):List (Nat × Nat):=(List.range n).flatMap λl=>((List.range n).filter λh=>!decide (l=h)&&R l h).map λh=>(l,h)
section
variable {P:Program} {w:World} {K:W.Frag} {mg:Str->Option Value} {base:Heap} {f:Addr} {fd:FuncData}
abbrev vH:Stmt:=top 30
theorem MP:bh ["count","told","low"] ["count"] (ay vH):=⟨rfl,rfl,rfl,by decide +kernel,rfl,by decide +kernel,by decide +kernel⟩
noncomputable def vO:Sp:=λvs H Q _=>∃n:Nat,vs = [.int n]/\n<=24/\∀l us H',Same H H'->H' l=some (.lst us)->Paired (cY H') (bF n) us->Q (.ref l) H'
theorem Wg (F:aT K "twos" "twos" vH f fd) (T:Txt mg):aN P w K mg base bf 1 f fd ["count"] vO:=by
 refine F.ok MP (λvs H Q E h=>?_) (λcdv A outer s H vs Q E hr h=>?_)
 ·obtain⟨n,rfl,_⟩:=h
  rfl
 ·obtain⟨n,rfl,hn,k⟩:=h
  have nd:=MP.nd;have en:((n:Int)).toNat=n:=bJ n;refine⟨_,(ao (aJ (i:=1) nd rfl (Or.inl rfl) (b9 ag))
   (ao (b_ cy rfl (cS rfl T.range (ae (pv 0) ag)) (aY (i:=2) nd rfl (Or.inr rfl))
   (aq (c9 (cR (K:=K) rfl fU Fn O9 JH (pv 1) (ae (dg (own:=["high"]) (fr:=[("low", 2)]) rfl (cM (ay vH) ["count","told","low"] rfl rfl (by decide +kernel)) (qR rfl T.range (ae (av dI (pv 2) aj) (ae (pv 0) ag))) (λ_ _ _ _=>⟨(aY (i:=0) (by decide +kernel:(["high","low"]:List Str).Nodup) rfl (Or.inl rfl)),dz,(cZ (ae (pv 1) (ae (pv 0) ag)))⟩)) ag)))))
   (aq (aS (pv 1))))),?_⟩
  refine⟨by show 0<=sizeLine;decide,λL hL=>?_⟩;refine⟨_,rfl,n,rfl,(bH (by omega)).1,(bH (by omega)).2,dZ (lo:=0) (n:=((n:Int)).toNat) (λi σ H2=>∃v2 us,σ = [some (.int n),some (.ref L),v2]/\Same H H2/\H2 L=some (.lst us)/\us.length<=24*i /\
   Paired (cY H2) ((List.range i).flatMap λl=>(List.range (n - (l+1))).map λj=>(l,l+1+j)) us) ⟨none,[],rfl,Same.put hL,ak,by simp,.nil⟩ ?_ ?_⟩
  ·rintro i σ H2 hi ⟨v2,us,rfl,s2,hl,hlen,hp⟩
   have hin:i<n:=by omega
   refine⟨_,rfl,.inl ⟨rfl,_,ai.of hl⟩,?_⟩;refine⟨_,rfl,_,_,rfl,rfl,_,rfl,(0+(i:Int)+1),n,rfl,⟨by omega,by omega,by omega,by omega⟩,λD hD=>?_⟩;refine qh (λj v H=>∃t,v = .ref t/\t≠D/\H t=some (.tup [.int i,.int ((i+1+j:Nat):Int)])) src_range hD (dM (by omega)) (λj v H H' s ⟨b,e,hb,q⟩=>⟨b,e,hb,s _ _ hb q⟩) (λj H3 Kt hj hs hy hk=>?_) (λH3 ys hs hl3 hp3=>?_)
   ·obtain⟨zs,hz⟩:=hy
    refine⟨_,rfl,_,rfl,by show 2<=sizeLine;decide,λt ht=>?_⟩;refine hk _ _ (Same.put ht) ⟨t,rfl,(λe=>by rw[e,hz]at ht;cases ht),?_⟩;rw[ak]
    congr 4
    ·omega
    ·congr 1
     push_cast
     omega
   ·have hDL:D≠L:=λe=>by rw[e,hl]at hD;cases hD
    have HX:ys.length=n - (i+1):=by
     have:=cV hp3;simp at this;omega
    refine⟨L,D,us,ys,rfl,rfl,hs _ _ hl,hl3,by have:=@cP 100000 (by omega);omega,?_⟩;refine⟨_,us++ys,rfl,?_,ak,by rw[dD];omega,?_⟩
    ·intro b o e
     rw[aA (λz=>by rw[z,hL]at e;cases e)];exact hs _ _ (s2 _ _ e)
    ·rw[u9]
     refine qP (hs _ _ hl) (lh (gI.same hs hp) (qO ?_));have ec:((n:Int) - (0+(i:Int)+1)).toNat=n - (i+1):=by omega
     rw[ec]at hp3;exact Paired.c5 hp3 λj v ⟨t,e,_,q⟩=>⟨t,e,q⟩
  ·rintro σ H2 ⟨v2,us,rfl,s2,hl,hlen,hp⟩
   rw[en]at hp;exact⟨_,rfl,k L us H2 s2 hl hp⟩
abbrev BM:Stmt:=top 31
theorem Mu:bh ["count","reach","two"] ["count","reach"] (ay BM):=⟨rfl,rfl,rfl,by decide +kernel,rfl,by decide +kernel,by decide +kernel⟩
end
noncomputable def fL(n:Nat)(p:Nat->Bool):List Key:=(List.range n).map λb=>Sum.inl (if p b then 1 else 0)
theorem uo{n:Nat}{p q:Nat->Bool}(h:fL n p=fL n q):∀b,b<n->p b=q b:=by
 intro b hb;have:=congrArg (λl=>l[b]?) h;simp only[fL,dR,pM hb,wN,Fb,Sum.inl.injEq]at this;cases hp:p b<;>cases hq:q b<;>simp[hp,hq]at this ⊢
theorem z9{n:Nat}{p q:Nat->Bool}(h:∀b,b<n->p b=q b):fL n p=fL n q:=by
 unfold fL;apply pN
 intro b hb;rw[h b (by simpa using hb)]
theorem Jl(p:Nat->Bool):∀l:List Nat,z7 (l.map λb=>(Sum.inl (if p b then 1 else 0):Key)) (l.map λb=>V.bl (p b))
 | []=>.nil
 |b::r=>.cons (.inr ⟨p b,rfl,rfl⟩) (Jl p r)
theorem NQ{H:Hp}{b:Addr}{n:Nat}{p:Nat->Bool}(h:H b=some (.tup (bL n p))):jN H b (fL n p):=⟨_,Jl p _,h⟩
noncomputable def eV(n:Nat)(R:Nat->Nat->Bool):Nat->List (List Key × V)
 |0=>[]
 |i+1=>eV n R i++[(fL n (R i),.int i)]
theorem Jq(n:Nat)(R:Nat->Nat->Bool):∀i,(eV n R i).length=i
 |0=>rfl
 |i+1=>by rw[eV,dD,Jq n R i];rfl
theorem Ur(l:List (List Key × V)){k k':List Key}{v:V}(e:¬ k'=k)(h:dc l k=none):dc (l++[(k',v)]) k=none:=by
 induction l with
 |nil=>exact j7 (p:=(k',v)) e
 |cons p r ih =>
  rw[rV]
  by_cases q:p.1=k
  ·rw[lD q]at h;cases h
  ·rw[j7 q]at h ⊢;exact ih h
theorem ur{n:Nat}{R:Nat->Nat->Bool}{k:List Key}:∀{i:Nat},(∀c,c<i->fL n (R c)≠k)->dc (eV n R i) k=none
 |0,_=>rfl
 |i+1,h=>by
  have ih:=ur (n:=n) (R:=R) (k:=k) (i:=i) λc hc=>h c (by omega);have hk:dc (eV n R i) k=none:=ih;rw[eV];have e:¬ fL n (R i)=k:=h i (by omega);exact Ur (eV n R i) e hk
theorem Jr{n:Nat}{R:Nat->Nat->Bool}(dis:∀i j,i<n->j<n->(∀b,b<n->R i b=R j b)->i=j){c:Nat}(hc:c<n):∀{i:Nat},i<=n->c<i->dc (eV n R i) (fL n (R c))=some (.int c)
 |0,_,h=>by omega
 |i+1,hi,h=>by
  rw[eV,N4 _ _ _ _ (ur λd hd e=>by have:=dis d i (by omega) (by omega) (uo e);omega)]
  by_cases e:c=i
  ·subst e;rw[az rfl]
  ·rw[au (λz=>e (dis c i hc (by omega) (uo z)))]
   exact Jr dis hc (by omega) (by omega)
noncomputable def bC(n:Nat)(R:Nat->Nat->Bool)(a b:Nat):V:=(dc (eV n R n) (fL n λx=>R a x&&R b x)).getD .non
theorem QG{n:Nat}{R:Nat->Nat->Bool}(dis:∀i j,i<n->j<n->(∀b,b<n->R i b=R j b)->i=j){a b c:Nat}(hc:c<n)(h:∀x,x<n->R c x=(R a x&&R b x)):bC n R a b = .int c:=by
 unfold bC;rw[<- z9 h,Jr dis hc (aO _) hc];rfl
section
variable {P:Program} {w:World} {K:W.Frag} {mg:Str->Option Value} {base:Heap} {f:Addr} {fd:FuncData}
noncomputable def jh(H:Hp)(n:Nat)(R:Nat->Nat->Bool)(us:List V):Prop:=Paired (λi u=>∃b,u = .ref b/\H b=some (.tup (bL n (R i)))) (List.range n) us
theorem jh.same{H H':Hp}{n:Nat}{R:Nat->Nat->Bool}{us:List V}(s:Same H H')(h:jh H n R us):jh H' n R us:=Paired.c5 h λ_ _ ⟨b,e,q⟩=>⟨b,e,s _ _ q⟩
theorem jh.len{H:Hp}{n:Nat}{R:Nat->Nat->Bool}{us:List V}(h:jh H n R us):us.length=n:=by simpa using(cV h).symm
theorem jh.get{H:Hp}{n:Nat}{R:Nat->Nat->Bool}{us:List V}(h:jh H n R us){i:Nat}(hi:i<n):∃b,us[i]?=some (.ref b)/\H b=some (.tup (bL n (R i))):=by
 obtain⟨y,h1,b,rfl,h2⟩:=oU (i:=i) (x:=i) h (pM hi);exact⟨b,h1,h2⟩
abbrev vo:Stmt:=top 32
theorem Lq:bh ["rows","things","thing"] ["rows","things","thing"] (ay vo):=⟨rfl,rfl,rfl,by decide +kernel,rfl,by decide +kernel,by decide +kernel⟩
noncomputable def Cm(K:W.Frag):Sp:=λvs H Q _=>∃(c:Bool) (a d t n:Nat) (us:List V) (R:Nat->Nat->Bool) (kvs:List (List Key × V)),vs = [.ref a,.ref d,.int t]/\Sq c K H a us/\jh H n R us/\H d=some (.dT kvs)/\t<n/\n<=24 /\
 ∀l H',Same H H'->H l=none->H' l=some (.tup ((List.range n).map λj=>(dc kvs (fL n λb=>R t b&&R j b)).getD .non))->Q (.ref l) H'
theorem VD (F:aT K "ends_with" "ends_with" vo f fd) (T:Txt mg) (yh:aF P w K mg base "shared" ["one","other"] 1 Dg):aN P w K mg base bf 2 f fd ["rows","things","thing"] (Cm K):=by
 refine F.ok Lq (λvs H Q E h=>?_) (λcdv A outer s H vs Q E hr h=>?_)
 ·obtain⟨c,a,d,t,n,us,R,kvs,rfl,_⟩:=h
  rfl
 ·obtain⟨c,a,d,t,n,us,R,kvs,rfl,hq,hrow,hd,ht,hn,k⟩:=h
  have nd:=Lq.nd;have hu:=Iq hr;refine⟨_,(aq (aS (dm (kG (K:=K) rfl) rfl T.tuple iF (ae (dg (own:=["row"]) (fr:=[("things", 1),("rows", 0),("thing", 2)]) rfl (cM (ay vo) ["rows","things","thing"] rfl rfl (by decide +kernel)) (Xc (K:=K) c rfl (pv 0)) (λ_ _ _ _=>⟨(aY (i:=0) (by decide +kernel:(["row","things","rows","thing"]:List Str).Nodup) rfl (Or.inl rfl)),dz,(W3 hu (pv 1) (bj yh hr rfl (ae (aH (z0 (K:=K) c rfl) (pv 2) (pv 3) (λ_ _=>rfl)) (ae (pv 0) ag))) ⟨rfl,rfl,rfl,rfl⟩)⟩)) ag)))),?_⟩;refine⟨_,rfl,a,rfl,⟨_,hq⟩,λD hD=>fF (λj=>(dc kvs (fL n λb=>R t b&&R j b)).getD .non) (Yv hq) hD (dM (by rw[hrow.len];exact hn)) (λi H2 Kt hi hs hk=>?_) (λH' hs hl=>?_)⟩
  ·rw[hrow.len]at hi
   obtain⟨bt,t1,t2⟩:=hrow.get ht;obtain⟨bi,i1,i2⟩:=hrow.get hi;refine⟨_,rfl,d,rfl,.inr ⟨kvs,.inl (hs _ _ hd)⟩,?_⟩;refine⟨_,rfl,_,rfl,a,us,_,_,rfl,rfl,hs.sq hq,bp t1,_,rfl,⟨bt,bi,n,R t,R i,by rw[aZ,i1];rfl,hs _ _ t2,hs _ _ i2,hn⟩,λv H3 s3 hv=>?_⟩;obtain⟨b,rfl,q1,q2⟩:=hv bt bi n (R t) (R i) (by rw[aZ,i1];rfl) (hs _ _ t2) (hs _ _ i2);exact⟨_,pH.t (s3 _ _ (hs _ _ hd)) (NQ q2),hk _ s3⟩
  ·refine⟨D,_,rfl,.inl ⟨ai.of hl,λl hl'=>?_⟩⟩
   rw[hrow.len];exact k l _ (hs.trans (Same.put hl')) (hs.free hl') ak
abbrev vn:Stmt:=top 33
theorem Ln:bh ["rows","things","thing","row"] ["rows"] (ay vn):=⟨rfl,rfl,rfl,by decide +kernel,rfl,by decide +kernel,by decide +kernel⟩
noncomputable def Ck(K:W.Frag):Sp:=λvs H Q _=>∃(c:Bool) (a n:Nat) (us:List V) (R:Nat->Nat->Bool),vs = [.ref a]/\Sq c K H a us/\jh H n R us/\n<=24/\(∀i j,i<n->j<n->(∀b,b<n->R i b=R j b)->i=j) /\
 ∀v H',Same H H'->TT H' v n (bC n R)->Q v H'
theorem VB (F:aT K "ends_of" "ends_of" vn f fd) (T:Txt mg) (xI:aF P w K mg base "ends_with" ["rows","things","thing"] 2 (Cm K)):aN P w K mg base bf 3 f fd ["rows"] (Ck K):=by
 refine F.ok Ln (λvs H Q E h=>?_) (λcdv A outer s H vs Q E hr h=>?_)
 ·obtain⟨c,a,n,us,R,rfl,_⟩:=h
  rfl
 ·obtain⟨c,a,n,us,R,rfl,hq,hrow,hn,dis,k⟩:=h
  have nd:=Ln.nd;have hu:=Iq hr;have hlen:=hrow.len;refine⟨_,(ao (aJ (i:=1) nd rfl (Or.inr rfl) W5)
   (ao (b_ cy rfl (A_ (K:=K) c rfl rfl T.enumerate (ae (pv 0) ag)) (mQ (K:=K) (i:=2) (j:=3) rfl rfl nd rfl rfl rfl rfl)
   (aq (Xg hu (pv 1) (pv 3) (pv 2) rfl)))
   (aq (aS (dm (kG (K:=K) rfl) rfl T.tuple iF (ae (dg (own:=["thing"]) (fr:=[("rows", 0),("things", 1)]) rfl (cM (ay vn) ["rows","things","thing","row"] rfl rfl (by decide +kernel)) (cS rfl T.range (ae (aR (cj (K:=K) rfl) rfl T.len cw (ae (pv 0) ag)) ag)) (λ_ _ _ _=>⟨(aY (i:=0) (by decide +kernel:(["thing","rows","things"]:List Str).Nodup) rfl (Or.inl rfl)),dz,(bj xI hr rfl (ae (pv 1) (ae (pv 2) (ae (pv 0) ag (bw nofun)) (bw nofun)) (bw nofun)))⟩)) ag)))))),?_⟩
  intro d hd;refine⟨_,rfl,a,us,rfl,(Same.put hd).sq hq,zA (K:=K) (c:=c) (l:=a) (xs:=us) (λi σ H2=>∃v2 v3,σ = [some (.ref a),some (.ref d),v2,v3]/\Same H H2/\H2 d=some (.dT (eV n R i))/\i<=n)
   ⟨none,none,rfl,Same.put hd,ak,eK _⟩ (λi σ H2 ⟨_,_,_,s2,_⟩=>s2.sq hq) ?_ ?_⟩
  ·rintro i x σ H2 t hx ht ⟨v2,v3,rfl,s2,h2,hi⟩
   have hin:i<n:=by rw[<- hlen];exact(cG.mp hx).1
   obtain⟨bi,i1,i2⟩:=hrow.get hin;rw[i1]at hx;cases hx;refine⟨t,_,rfl,aQ.of ak,rfl,_,_,rfl,_,_,rfl,rfl,?_⟩;have hdt:d≠t:=λe=>by rw[<- e,h2]at ht;cases ht
   have h2':(upd H2 t (.tup [.int i,.ref bi])) d=some (.dT (eV n R i)):=by rw[aA hdt];exact h2
   have i3:(upd H2 t (.tup [.int i,.ref bi])) bi=some (.tup (bL n (R i))):=Same.put ht _ _ (s2 _ _ i2);have hnone:dc (eV n R i) (fL n (R i))=none:=ur λc' hc' e=>by have:=dis c' i (by omega) hin (uo e);omega
   refine⟨_,rfl,_,rfl,_,rfl,d,_,rfl,pI.t h2' (NQ i3) (by rw[Jq];exact dM (by omega)),?_⟩;refine⟨_,_,rfl,?_,?_,hin⟩
   ·intro b o e
    rw[aA (λz=>by rw[z,hd]at e;cases e)];exact Same.put ht _ _ (s2 _ _ e)
   ·rw[ak,Xm _ hnone]
    rfl
  ·rintro σ H2 ⟨v2,v3,rfl,s2,h2,hi⟩
   rw[hlen]at h2;have hq2:ai K H2 a us\/aQ K H2 a us:=by
    have:=s2.sq hq;cases c with
    |true=>exact .inl this
    |false=>exact .inr this
   refine⟨_,rfl,a,us,rfl,hq2,us.length,rfl,(bH (by omega)).1,(bH (by omega)).2,λD hD=>?_⟩;rw[hlen];refine qh (λi v H=>∃b,v = .ref b/\b≠D/\H b=some (.tup ((List.range n).map (bC n R i)))) src_range hD (dM (by simpa using hn)) (λi v H H' s ⟨b,e,hb,q⟩=>⟨b,e,hb,s _ _ hb q⟩) (λi H3 Kt hi hs hy hk=>?_) (λH3 ys hs hl hp=>?_)
   ·have hin:i<n:=by simpa using hi
    obtain⟨zs,hz⟩:=hy;refine⟨_,rfl,_,rfl,_,rfl,c,a,d,i,n,us,R,_,by simp,hs.sq (s2.sq hq),(hrow.same s2).same hs,hs _ _ h2,hin,hn,λl H4 s4 h4 q4=>?_⟩;exact hk _ H4 s4 ⟨l,rfl,(λe=>by rw[e,hz]at h4;cases h4),q4⟩
   ·refine⟨D,_,rfl,.inl ⟨ai.of hl,λl hl'=>?_⟩⟩
    have en:((n:Int)).toNat=n:=bJ n;rw[en]at hp;exact k _ _ ((s2.trans hs).trans (Same.put hl')) ⟨l,ys,rfl,ak,Paired.c5 hp λi u ⟨b,e,_,q⟩=>⟨b,e,Same.put hl' _ _ q⟩⟩
end
theorem Um{α:Type}{n:Nat}{g:Nat->α}{j:Nat}(h:j<n):((List.range n).map g)[j]?=some (g j):=by simp[h]
section
variable {P:Program} {w:World} {K:W.Frag} {mg:Str->Option Value} {base:Heap} {f:Addr} {fd:FuncData}
abbrev BL:Stmt:=top 34
theorem Mt:bh ["count","joins","meets","two"] ["count","joins","meets"] (ay BL):=⟨rfl,rfl,rfl,by decide +kernel,rfl,by decide +kernel,by decide +kernel⟩
abbrev vE:Stmt:=top 35
theorem Mz:bh ["count","reach","told","low"] ["count","reach"] (ay vE):=⟨rfl,rfl,rfl,by decide +kernel,rfl,by decide +kernel,by decide +kernel⟩
noncomputable def km(H:Hp)(v:V)(ps:List (Nat × Nat)):Prop:=∃a us,v = .ref a/\H a=some (.tup us)/\Paired (cY H) ps us
theorem km.same{H H':Hp}{v:V}{ps:List (Nat × Nat)}(s:Same H H')(h:km H v ps):km H' v ps:=let⟨a,us,e,q,r⟩:=h;⟨a,us,e,s _ _ q,gI.same s r⟩
noncomputable def CV:Sp:=λvs H Q _=>∃(n:Nat) (v:V) (R:Nat->Nat->Bool),vs = [.int n,v]/\TT H v n (qf R)/\n<=24/\∀u H',Same H H'->km H' u (eD n R)->Q u H'
theorem V7 (F:aT K "pairs_of" "pairs_of" vE f fd) (T:Txt mg):aN P w K mg base bf 1 f fd ["count","reach"] CV:=by
 refine F.ok Mz (λvs H Q E h=>?_) (λcdv A outer s H vs Q E hr h=>?_)
 ·obtain⟨n,v,R,rfl,_⟩:=h
  rfl
 ·obtain⟨n,v,R,rfl,ht,hn,k⟩:=h
  have nd:=Mz.nd;have en:((n:Int)).toNat=n:=bJ n;refine⟨_,(ao (aJ (i:=2) nd rfl (Or.inl rfl) (b9 ag))
   (ao (b_ cy rfl (cS rfl T.range (ae (pv 0) ag)) (aY (i:=3) nd rfl (Or.inr rfl))
   (aq (c9 (cR (K:=K) rfl fU Fn O9 JH (pv 2) (ae (dg (own:=["high"]) (fr:=[("low", 3),("reach", 1)]) rfl (cM (ay vE) ["count","reach","told","low"] rfl rfl (by decide +kernel)) (cS rfl T.range (ae (pv 0) ag)) (λ_ _ _ _=>⟨(aY (i:=0) (by decide +kernel:(["high","low","reach"]:List Str).Nodup) rfl (Or.inl rfl)),(oX (PW.pt (gK (aU jW (pv 1) (pv 0) (aP _)) (gN (dh (aH (cW (K:=K) rfl) (aH (cW (K:=K) rfl) (pv 2) (pv 1) (λ_ _=>rfl)) (pv 0) (λ_ _=>rfl))))))),(cZ (ae (pv 1) (ae (pv 0) ag)))⟩)) ag)))))
   (aq (aS (dm (kG (K:=K) rfl) rfl T.tuple iF (ae (pv 2) ag)))))),?_⟩
  refine⟨by show 0<=sizeLine;decide,λL hL=>?_⟩;refine⟨_,rfl,n,rfl,(bH (by omega)).1,(bH (by omega)).2,dZ (lo:=0) (n:=((n:Int)).toNat) (λi σ H2=>∃v3 us,σ = [some (.int n),some v,some (.ref L),v3]/\Same H H2/\H2 L=some (.lst us)/\us.length<=24*i /\
   Paired (cY H2) ((List.range i).flatMap λl=>((List.range n).filter λh=>!decide (l=h)&&R l h).map λh=>(l,h)) us) ⟨none,[],rfl,Same.put hL,ak,by simp,.nil⟩ ?_ ?_⟩
  ·rintro i σ H2 hi ⟨v3,us,rfl,s2,hl,hlen,hp⟩
   have hin:i<n:=by omega
   refine⟨_,rfl,.inl ⟨rfl,_,ai.of hl⟩,?_⟩;refine⟨_,rfl,n,rfl,(bH (by omega)).1,(bH (by omega)).2,λD hD=>?_⟩;refine tE (λj=>!decide (i=j)&&R i j) (λj v H=>∃t,v = .ref t/\t≠D/\H t=some (.tup [.int i,.int (j:Int)])) src_range hD (dM (by omega)) (λj v H H' s ⟨b,e,hb,q⟩=>⟨b,e,hb,s _ _ hb q⟩) (λj H3 Kt Kf hj hs hy hkt hkf=>?_) (λH3 ys hs hl3 hp3=>?_)
   ·have hjn:j<n:=by omega
    obtain⟨zs,hz⟩:=hy;obtain⟨a,vs,r1,rfl,q1,q2,q3,q4⟩:=(ht.same (s2.trans hs)).row hin;refine⟨_,rfl,_,rfl,rfl,_,rfl,?_⟩;have ed:(!decide (V.int (0+(i:Int))=V.int (0+(j:Int)))) = !decide (i=j):=by
     congr 1
     rw[fb];exact yr
    rw[ed];refine bB (λh=>?_) (λh=>?_)
    ·refine⟨_,rfl,_,rfl,a,_,_,_,rfl,rfl,aQ.of q1,at0 q3,_,rfl,r1,_,_,_,rfl,rfl,aQ.of q4,at0 (Um hjn),_,rfl,bB (λh'=>?_) (λh'=>?_)⟩
     ·refine⟨_,rfl,_,rfl,by show 2<=sizeLine;decide,λt ht=>?_⟩
      refine hkt _ _ (by rw[h,h',jB]) (Same.put ht) ⟨t,rfl,(λe=>by rw[e,hz]at ht;cases ht),?_⟩;rw[ak,fb,fb]
     ·exact hkf _ (by rw[h,jB];simpa using h') (Same.refl _)
    ·refine aI ?_
     have h2:(!decide (i=j))=false:=by simpa using h
     exact hkf _ (by rw[h2,j_]) (Same.refl _)
   ·have hDL:D≠L:=λe=>by rw[e,hl]at hD;cases hD
    rw[en]at hp3;have HX:ys.length<=n:=by
     have h1:=cV hp3;have h2:=rY (λj=>!decide (i=j)&&R i j) (List.range n);rw[jG]at h2;omega
    refine⟨L,D,us,ys,rfl,rfl,hs _ _ hl,hl3,by have:=@cP 100000 (by omega);omega,?_⟩;refine⟨_,us++ys,rfl,?_,ak,by rw[dD];omega,?_⟩
    ·intro b o e
     rw[aA (λz=>by rw[z,hL]at e;cases e)];exact hs _ _ (s2 _ _ e)
    ·rw[u9]
     refine qP (hs _ _ hl) (lh (gI.same hs hp) (qO ?_));exact Paired.c5 hp3 λj v ⟨t,e,_,q⟩=>⟨t,e,q⟩
  ·rintro σ H2 ⟨v2,us,rfl,s2,hl,hlen,hp⟩
   rw[en]at hp;refine⟨_,rfl,L,us,rfl,.inl ⟨ai.of hl,λl hl'=>?_⟩⟩;exact k _ _ (s2.trans (Same.put hl')) ⟨l,us,rfl,ak,gI.same (Same.put hl') hp⟩
end
noncomputable def qo (n:Nat) (vp vr vj vm:V):List (Str × V):=bV "meets" vm (bV "joins" vj (bV "reach" vr (bV "pairs" vp (bV "count" (.int n) []))))
noncomputable def nL(C:Addr)(H:Hp)(p n:Nat)(R:Nat->Nat->Bool):Prop:=∃dx vp vr vj vm,H p=some (.ins C dx (qo n vp vr vj vm))/\km H vp (eD n R)/\TT H vr n (qf R)/\TT H vj n (bC n R)/\TT H vm n (bC n λa b=>R b a)
structure pG (K:W.Frag) (C:Addr):Prop where
 cl:Cls K C
 nC:iz K C "count"
 nP:iz K C "pairs"
 nR:iz K C "reach"
 nJ:iz K C "joins"
 nM:iz K C "meets"
theorem TT.ins{H:Hp}{p C dx:Addr}{fs:List (Str × V)}{o:HO}(hp:H p=some (.ins C dx fs)){v:V}{n:Nat}{g:Nat->Nat->V}(h:TT H v n g):TT (upd H p o) v n g:=
 let⟨a,vs,e,q,r⟩:=h
 ⟨a,vs,e,by rw[aA (mL q hp (λz=>nomatch z))];exact q,Paired.c5 r λ_ _ ⟨b,e,q⟩=>⟨b,e,by rw[aA (mL q hp (λz=>nomatch z))];exact q⟩⟩
theorem km.ins{H:Hp}{p C dx:Addr}{fs:List (Str × V)}{o:HO}(hp:H p=some (.ins C dx fs)){v:V}{ps:List (Nat × Nat)}(h:km H v ps):km (upd H p o) v ps:=
 let⟨a,vs,e,q,r⟩:=h
 ⟨a,vs,e,by rw[aA (mL q hp (λz=>nomatch z))];exact q,Paired.c5 r λ_ _ ⟨b,e,q⟩=>⟨b,e,by rw[aA (mL q hp (λz=>nomatch z))];exact q⟩⟩
section
variable {P:Program} {w:World} {K:W.Frag} {mg:Str->Option Value} {base:Heap} {f:Addr} {fd:FuncData}
abbrev vg:Stmt:=inClass (top 36) 0
theorem Li:bh ["self","count","pairs","reach","joins","meets"] ["self","count","pairs"] (ay vg):=⟨rfl,rfl,rfl,by decide +kernel,rfl,by decide +kernel,by decide +kernel⟩
end
section
variable {X:Cx} {C:Addr} {x:Str} {ps:List Str} {k k':Nat} {sp:Sp} {e:Expr} {es:List Expr} {t:TA} {p pos:Pos}
end
noncomputable def vL(K:W.Frag):Sp:=λvs H Q _=>∃(a:Nat) (ns:List Int),vs = [.ref a]/\ai K H a (ns.map V.int)/\ns.length<=63/\∀H',Q (.bl true) H'
structure aD (K:W.Frag) (x:Str) (st:Stmt):Prop where
 ex:∃(f:Addr) (fd:FuncData),W.nsIn K mainGlobals x=some (some (.ref f))/\aT K x x st f fd
theorem aD.mk'{K:W.Frag}{x:Str}{st:Stmt}{f:Addr}{oc:Value}{od an:Option Addr}{osl:Array (Option Value)}{kV doc pm cdv ct:Value}(a:W.nsIn K mainGlobals x=some (some (.ref f)))
  (l:K.lookup f=some ⟨oc,od,.func (W.fnOf x x (iI st) (f9 st) (ay st) .none kV doc pm an cdv ct),osl⟩) (c:W.codeIn K cdv x=true) (k:W.keepIn K (.ref f)=true):aD K x st:=⟨f,_,a,zC l c k⟩
abbrev Ea (x:Str) (st:Stmt) (ps:List Str):Prop:=∀(kV doc pm:Value) (an:Option Addr) (cdv ct:Value) (us:List Value),us.length=ps.length->bindArgs (W.fnOf x x (iI st) (f9 st) (ay st) .none kV doc pm an cdv ct) ⟨us,[]⟩=pure (ps.zip us)
theorem aD.cal{P:Program}{w:World}{K:W.Frag}{mg:Str->Option Value}{base h:Heap}{x:Str}{st:Stmt}{ps:List Str}{k:Nat}{sp:Sp}(A:aD K x st)(X:K.In h)(G:h.Ns mainGlobals mg)(hb:Ea x st ps)(ok:∀{f:Addr} {fd:FuncData},aT K x x st f fd->aN P w K mg base bf k f fd ps sp):aF P w K mg base x ps k sp:=by
 obtain⟨f,fd,a,F⟩:=A.ex;exact⟨f,fd,ok F,W.mg_of X G a,F.kp,F.binds hb⟩
structure ClsAt (K:W.Frag) (x qual:Str) (st:Stmt) (C:Addr):Prop where
 ns:W.nsIn K mainGlobals x=some (some (.ref C))
 cl:Cls K C
 ex:∃(f:Addr) (fd:FuncData),aT K "__init__" qual st f fd/\Mk K C f
theorem ClsAt.mk'{K:W.Frag}{x qual:Str}{st:Stmt}{C f:Addr}{oc:Value}{od an:Option Addr}{osl:Array (Option Value)}{kV doc pm cdv ct:Value}(ns:W.nsIn K mainGlobals x=some (some (.ref C)))
  (pg:W.plainGet K C Str.empty=true) (hd:W.hasDictIn K C=true) (po:W.plainOver K C=true) (sa:W.findIn K (.ref C) "__setattr__" = some (some (.builtin "object.__setattr__"))) (mk:W.makesIn K C=true) (kc:W.keepIn K (.ref C)=true)
  (a:W.findIn K (.ref C) "__init__" = some (some (.ref f))) (i:W.isFn K (.ref f)=true)
  (l:K.lookup f=some ⟨oc,od,.func (W.fnOf "__init__" qual (iI st) (f9 st) (ay st) .none kV doc pm an cdv ct),osl⟩) (c:W.codeIn K cdv qual=true) (k:W.keepIn K (.ref f)=true):ClsAt K x qual st C:=
 ⟨ns,⟨pg,hd,po,sa⟩,f,_,zC l c k,⟨mk,a,i,kc⟩⟩
structure oa (K:W.Frag):Prop where
 len:W.nsIn K mainGlobals "len" = some none
 range:W.nsIn K mainGlobals "range" = some none
 zip:W.nsIn K mainGlobals "zip" = some none
 enumerate:W.nsIn K mainGlobals "enumerate" = some none
 tuple:W.nsIn K mainGlobals "tuple" = some none
 list:W.nsIn K mainGlobals "list" = some none
 int:W.nsIn K mainGlobals "int" = some none
 bool:W.nsIn K mainGlobals "bool" = some none
 str:W.nsIn K mainGlobals "str" = some none
 isinstance:W.nsIn K mainGlobals "isinstance" = some none
 sum:W.nsIn K mainGlobals "sum" = some none
 any:W.nsIn K mainGlobals "any" = some none
 all:W.nsIn K mainGlobals "all" = some none
 sorted:W.nsIn K mainGlobals "sorted" = some none
 min:W.nsIn K mainGlobals "min" = some none
 max:W.nsIn K mainGlobals "max" = some none
 most:∃t,W.nsIn K mainGlobals "MOST_THINGS" = some (some (.int 24 t))
theorem oa.txt{K:W.Frag}{mg:Str->Option Value}{h:Heap}(A:oa K)(X:K.In h)(G:h.Ns mainGlobals mg):Txt mg:=
 ⟨W.mg_none_of X G A.len,W.mg_none_of X G A.range,W.mg_none_of X G A.zip,W.mg_none_of X G A.enumerate,W.mg_none_of X G A.tuple,W.mg_none_of X G A.list,W.mg_none_of X G A.int,W.mg_none_of X G A.bool,W.mg_none_of X G A.str,
  W.mg_none_of X G A.isinstance,W.mg_none_of X G A.sum,W.mg_none_of X G A.any,W.mg_none_of X G A.all,W.mg_none_of X G A.sorted,W.mg_none_of X G A.min,W.mg_none_of X G A.max,let⟨t,e⟩:=A.most;⟨t,W.mg_of X G e⟩⟩
theorem oa.mk' {K:W.Frag} {t:Tok} (l1:W.nsIn K mainGlobals "len" = some none) (l2:W.nsIn K mainGlobals "range" = some none) (l3:W.nsIn K mainGlobals "zip" = some none) (l4:W.nsIn K mainGlobals "enumerate" = some none)
  (l5:W.nsIn K mainGlobals "tuple" = some none) (l6:W.nsIn K mainGlobals "list" = some none) (l7:W.nsIn K mainGlobals "int" = some none) (l8:W.nsIn K mainGlobals "bool" = some none) (l9:W.nsIn K mainGlobals "str" = some none)
  (l10:W.nsIn K mainGlobals "isinstance" = some none) (Ab:W.nsIn K mainGlobals "sum" = some none) (Ac:W.nsIn K mainGlobals "any" = some none) (Ad:W.nsIn K mainGlobals "all" = some none) (Ae:W.nsIn K mainGlobals "sorted" = some none) (Af:W.nsIn K mainGlobals "min" = some none) (Ag:W.nsIn K mainGlobals "max" = some none) (m:W.nsIn K mainGlobals "MOST_THINGS" = some (some (.int 24 t))):oa K:=⟨l1,l2,l3,l4,l5,l6,l7,l8,l9,l10,Ab,Ac,Ad,Ae,Af,Ag,t,m⟩
theorem walk{l:W.OpenLaw}{q:Program}{loose:List Str}{XP:(Str->Option Value)->Heap->Prop}{YP:World->Heap->Prop}{d:DefRec}{K:Params->W.Frag}(hn:l.most=some 63)(hdf:d.params.defaults = [])(hY:∀(w:World) (h:Heap),YP w h->(K w.params).In h)(F:∀(w:World) (mg:Str->Option Value) (fa:Addr) (h:Heap),(K w.params).In h->h.Ns mainGlobals mg->mg d.name=some (.ref fa) ->
   ∃fd:FuncData,(∀(s:Shared) (u:Value),BindsTo s fd ⟨[u],[]⟩ [("_law_script", u)])/\∀base:Heap,(K w.params).In base->base.Ns mainGlobals mg->aN l.prog w (K w.params) mg base bf 9 fa fd ["_law_script"] (vL (K w.params))) :
  W.WalkO q loose XP YP l.row.toRowW d [] (λf vs=>PySem.call f vs):=
 L2.Zu (n:=63) (k:=9) (x:= "_law_script") (CX:=λ_=>bf) (sp:=λw=>vL (K w.params)) hn (by decide) hdf ⟨rfl,by decide,by decide,rfl⟩ hY F (λ_ _ a ns hl _ hS=>⟨a,ns,rfl,hS,hl,λ_=>rfl⟩) λ_ _ _ _ _ z=>z
end My
namespace L2
open PySem PySem.Spec PyProof.Rows PySem.Builtin PySem.Builtin.Str
theorem Nn:∀{ts:List Str} {us:List Value},Vals (ts.map V.str) us->∃l:List (Str × Tok),us=strValues l/\l.map (·.1)=ts
 | [],_,h=>by cases h;exact⟨[],rfl,rfl⟩
 |t::ts,_,h=>by
  cases h with
  |cons h r =>
   obtain⟨k,rfl⟩:=h;obtain⟨l,rfl,e⟩:=Nn r;exact⟨(t,k)::l,rfl,by rw[cI,e]⟩
theorem N5:∀(l:List (Str × Tok)),Vals ((l.map (·.1)).map V.str) (strValues l)
 | []=>.nil
 | (x,t)::l=>.cons ⟨t,rfl⟩ (N5 l)
theorem joinOk_of{sep:Str}{texts:List Str}(h:(texts.map λt=>t.length+sep.length).sum<=sizeLine):JoinOk sep texts=true:=by
 unfold JoinOk;rw[List.foldl_toArray];have go:∀(l:List Str) (n:Nat),l.foldl (λa b=>a+b.length+sep.length) n=n+(l.map λt=>t.length+sep.length).sum:=by
  intro l
  induction l with
  |nil=>intro n;simp
  |cons t l ih=>intro n;rw[List.foldl_cons,ih,cI,jb];omega
 rw[go];rw[Nat.zero_add];show(!decide (_ > sizeLine))=true;rw[bE (Nat.not_lt.mpr h)];rfl
noncomputable def rJoin(K:W.Frag):V->List V->Hp->VK->Prop:=λx vs H Q=>∃(sep:Str) (l:Addr) (ts:List Str),x = .str sep/\vs = [.ref l]/\ai K H l (ts.map V.str)/\(ts.map λt=>t.length+sep.length).sum<=sizeLine/\Q (.str (Txt.join sep ts)) H
theorem uz {X:Cx} {K:W.Frag} (hK:X.K=K):pT X "str.join" (rJoin K):=by
 subst hK;intro pins s σ H x vs v us Q I rx rv h;obtain⟨sep,l,ts,rfl,rfl,hq,hz,q⟩:=h;obtain⟨t,rfl⟩:=rx;obtain⟨u,rfl,ru⟩:=rv.one;cases ru;obtain⟨its,r,pl,_⟩:=I.list hq;obtain⟨ls,rfl,e⟩:=Nn r;exact SC.join pl.isList e (joinOk_of hz) λt' k=>⟨.str (Txt.join sep ts),H,I.tok _,⟨_,rfl⟩,q⟩
noncomputable def XF:V->List V->Hp->VK->Prop:=λx vs H Q=>∃(z y:Str),x = .str z/\vs = [.str y]/\(y.length==0)=false/\z.length<=1000000/\∀l,H l=none->Q (.ref l) (upd H l (.lst ((Txt.split z y).map V.str)))
theorem mI {X:Cx}:pT X "str.split" XF:=by
 intro pins s σ H x vs v us Q I rx rv h;obtain⟨z,y,rfl,rfl,hy,hz,q⟩:=h;have hp:(partsBetween z (occurrences z y 0 z.length (z.length+1)) y.length).length<=sizeLine:=by
  rw[len_partsBetween,lS];have:=StrLaws.occ_length_le z y 0 z.length (z.length+1);omega
 have hz:z.length<=sizeLine:=by rw[lS];omega
 obtain⟨t,rfl⟩:=rx;obtain⟨u,rfl,⟨t',rfl⟩⟩:=rv.one;have fin:∀(ls:List (Str × Tok)) (k:Nat),ls.map (·.1)=Txt.split z y->(Txt.split z y).length<=sizeLine->EP X pins σ Q (.ref s.heap.objs.size) {s with toks:=k,heap:=s.heap.push {cls:=.type "list", data:=.seq (strValues ls).toArray}}:=λls k e hl=>by
  refine⟨.ref s.heap.objs.size,_,I.laid (t':=k) (λb o e=>aM _ e) (aO _) (show bG X.prog X.w _ _ _ (.lst ((Txt.split z y).map V.str))from⟨by rw[aB];exact hl,strValues ls,_,by rw[<- e];exact N5 ls,bR _ rfl⟩),rfl,q _ (I.hok.fresh (aO _))⟩
 have one:∀k,Txt.split z y = [z]->EP X pins σ Q (.ref s.heap.objs.size) {s with toks:=k,heap:=s.heap.push {cls:=.type "list", data:=.seq (strValues [(z,t)]).toArray}}:=λk e=>fin [(z,t)] k (by rw[e];rfl) (by rw[e];show 1<=sizeLine;decide);cases h1:(decide (z.length<y.length)||decide (strKind z<strKind y))
 ·cases hf:(occurrences z y 0 z.length (z.length+1)).isEmpty
  ·have e:Txt.split z y=partsBetween z (occurrences z y 0 z.length (z.length+1)) y.length:=(au (JL h1)).trans (au (JL hf))
   refine lR jK (sy _ _ _) Fj (Fi _ _) (meets_str_split_sep z y t t' h1 hy hf hz hp) ?_;show wants (EP X pins σ Q) X.xe _ {s with toks:=_,heap:=s.heap.push {cls:=.type "list", data:=.seq (strsFrom s.toks (partsBetween z (occurrences z y 0 z.length (z.length+1)) y.length)).toArray}};rw[strsFrom_eq];exact fin (numbered s.toks _) _ ((numbered_texts _ _).trans e.symm) (by rw[e];exact hp)
  ·exact lR jK (sy _ _ _) Fj (Fi _ _) (meets_str_split_not_found z y t t' h1 hy hf) (one s.toks ((au (JL h1)).trans (az hf)))
 ·exact lR jK (sy _ _ _) Fj (Fi _ _) (meets_str_split_cannot_occur z y t t' h1) (one s.toks (az h1))
theorem tm {X:Cx}:dP X (.type "int") (λxs H Q=>∃(x:Str) (n:Int),xs = [.str x]/\PySem.intText? x=some n/\x.length<=640/\Q (.int n) H):=by
 intro pins s σ H xs us Q I r h;obtain⟨x,n,rfl,hn,hl,q⟩:=h;obtain⟨u,rfl,ru⟩:=vals1 r;obtain⟨t,rfl⟩:=ru;exact W.KIN.call_text hn hl ⟨.int n,H,I.tok _,⟨_,rfl⟩,q⟩
section
variable {X:Cx} {e1 e2:Expr} {ta tb:TE} {c:Str} {j} {p1 p2 p3 pos:Pos}
end
end L2
namespace L2
open PySem PySem.Spec PyProof.Rows PySem.Builtin PySem.Builtin.Str
theorem GC{c:Nat}:∀{p q A B:List Nat},c ∉ p->c ∉ q->p++c::A=q++c::B->p=q/\A=B
 | [],[],_,_,_,_,h=>by
  simp only[wD,rT]at h;exact⟨rfl,h.2⟩
 | [],y::q,_,_,_,hq,h=>by
  simp only[wD,rV,rT]at h;exact absurd (bu.mpr (.inl h.1)) hq
 |x::p,[],_,_,hp,_,h=>by
  simp only[wD,rV,rT]at h;exact absurd (bu.mpr (.inl h.1.symm)) hp
 |x::p,y::q,_,_,hp,hq,h=>by
  simp only[rV,rT]at h;obtain⟨e1,e2⟩:=GC (λz=>hp (bT _ z)) (λz=>hq (bT _ z)) h.2;exact⟨by rw[h.1,e1],e2⟩
theorem rB{a b:Str}(h:a.cps.toList=b.cps.toList):a=b:=by
 cases a with
 |mk x=>cases b with
  |mk y =>
   have:x=y:=Array.toList_inj.mp h;rw[this]
noncomputable def dC(c:Nat)(p:Str):Prop:=c ∉ p.cps.toList
theorem kU(c:Nat)(p q:Str)(r:List Str):(Str.join ⟨#[c]⟩ (p::q::r)).cps.toList=p.cps.toList++c::(Str.join ⟨#[c]⟩ (q::r)).cps.toList:=by
 show(p++⟨#[c]⟩++Str.join ⟨#[c]⟩ (q::r)).cps.toList=_;rw[show ∀a b:Str,(a++b).cps=a.cps++b.cps from λ_ _=>rfl,show ∀a b:Str,(a++b).cps=a.cps++b.cps from λ_ _=>rfl];simp
theorem Jh{c:Nat}:∀{ps qs:List Str},ps≠[]->qs≠[]->(∀p∈ps,dC c p)->(∀q∈qs,dC c q)->Str.join ⟨#[c]⟩ ps=Str.join ⟨#[c]⟩ qs->ps=qs
 | [],_,h,_,_,_,_=>absurd rfl h
 |_::_,[],_,h,_,_,_=>absurd rfl h
 | [p],[q],_,_,_,_,h=>by rw[show p=q from h]
 | [p],q::q'::r,_,_,hp,_,h=>by
  have e:=congrArg (λs:Str=>s.cps.toList) h;rw[kU]at e;exact absurd (show c∈p.cps.toList by rw[show p.cps.toList=_ from e];simp) (hp p (bW.mpr rfl))
 |p::p'::r,[q],_,_,_,hq,h=>by
  have e:=congrArg (λs:Str=>s.cps.toList) h;rw[kU]at e;exact absurd (show c∈q.cps.toList by rw[<- show _=q.cps.toList from e];simp) (hq q (bW.mpr rfl))
 |p::p'::r,q::q'::r',_,_,hp,hq,h=>by
  have e:=congrArg (λs:Str=>s.cps.toList) h;simp only[kU]at e;obtain⟨e1,e2⟩:=GC (hp p (cK ..)) (hq q (cK ..)) e;rw[rB e1,Jh (by simp) (by simp) (λz hz=>hp z (bT _ hz)) (λz hz=>hq z (bT _ hz)) (rB e2)]
theorem Nb{c:Nat}{ps:List Str}(h0:ps≠[])(h:∀p∈ps,dC c p):Txt.split (Txt.join ⟨#[c]⟩ ps) ⟨#[c]⟩=ps:=by
 rw[show Txt.join ⟨#[c]⟩ ps=Str.join ⟨#[c]⟩ ps from Fq _ _];refine Jh (c:=c) ?_ h0 (λq hq=>PySem.StrLaws.split_free _ c q hq) h (sx _ _);intro e;have:=split_pos (Str.join ⟨#[c]⟩ ps) ⟨#[c]⟩;rw[e]at this;exact absurd this (by decide)
theorem Vg(n:Nat):((toString ((n:Nat):Int):Str)).cps.toList=(Nat.toDigits 10 n).map Char.toNat:=W.KIN.signs_num n
theorem Vf{n c:Nat}(h:c∈((toString ((n:Nat):Int):Str)).cps.toList):48<=c/\c<=57:=by
 rw[Vg]at h;obtain⟨ch,hch,e⟩:=cU.mp h;have r:=digit_range (Nat.isDigit_of_mem_toDigits (by decide) (by decide) hch);rw[<- e];exact r
theorem uJ{n c:Nat}(h:c<48\/57<c):dC c (toString ((n:Nat):Int):Str):=λz=>by
 have:=Vf z;omega
noncomputable def rQ(x:Str):It:=⟨λi _=>i<x.cps.size,λi H v H'=>H'=H/\∃c,x.cps[i]?=some c/\v = .str ⟨#[c]⟩,λi _=>i=x.cps.size⟩
theorem Zd {P:Program} {w:World} {K:W.Frag} {tg:Expr} (x:Str) (t:Tok) (it:Addr):Turn P w K tg (rQ x) [it] it (λi h=>h.IsStrIter it "str_ascii_iterator" x t i) where
 mem:=by simp
 obj:=λi h st b hb=>by
  have e:b=it:=by simpa using hb
  subst e;obtain⟨o,e,c,d⟩:=st;exact⟨o,e,λv z=>by rw[d]at z;cases z⟩
 keep:=λi h h' st k=>by
  obtain⟨o,e,c,d⟩:=st;exact⟨o,k it (by simp) o e,c,d⟩
 item:=by
  intro X hP hw hK hc i pins s σ H E I hf st hg;subst hP hw hK;have hi:i<x.cps.size:=hg;obtain⟨f0,f1,f2,f3,f4,f5⟩:=hf it (by simp);refine wpAny_pyNext_ascii_item st (fP hi) λh' st' sb=>?_;have I1:Inv X pins σ H {s with heap:=h',toks:=s.toks+1}:=I.turned (λb o hb e=>(sb.2 b hb).trans e) f0 f1 f3 f4 f5;obtain⟨o,e,c,d⟩:=id st';exact⟨_,rfl,qu (s:={s with heap:=h',toks:=s.toks+1}) e c d (by decide) ⟨.str ⟨#[x.cps[i]]⟩,H,I1,⟨_,rfl⟩,⟨rfl,_,fP hi,rfl⟩,st',λb hb=>(hf b hb).1⟩⟩
 done:=by
  intro X hP hw hK hc i pins s σ H E I hf st hg;subst hP hw hK;have hg:i=x.cps.size:=hg;obtain⟨f0,f1,f2,f3,f4,f5⟩:=hf it (by simp);exact wpAny_pyNext_ascii_end (I.ok.hd hc) st (by rw[hg];simp) λh' eb=>⟨rfl,I.turned (t':=s.toks) (λb o hb e=>eb b o hb e) f0 f1 f3 f4 f5⟩
 self:=λ_ _ _ _ _ st h=>wpAny_pyIter_striter_ascii st h
theorem Zi {P:Program} {w:World} {K:W.Frag} {tg:Expr} (x:Str) (t:Tok) (it:Addr):Turn P w K tg (rQ x) [it] it (λi h=>h.IsStrIter it "str_iterator" x t i) where
 mem:=by simp
 obj:=λi h st b hb=>by
  have e:b=it:=by simpa using hb
  subst e;obtain⟨o,e,c,d⟩:=st;exact⟨o,e,λv z=>by rw[d]at z;cases z⟩
 keep:=λi h h' st k=>by
  obtain⟨o,e,c,d⟩:=st;exact⟨o,k it (by simp) o e,c,d⟩
 item:=by
  intro X hP hw hK hc i pins s σ H E I hf st hg;subst hP hw hK;have hi:i<x.cps.size:=hg;obtain⟨f0,f1,f2,f3,f4,f5⟩:=hf it (by simp);refine wpAny_pyNext_wide_item st (fP hi) λh' st' sb=>?_;have I1:Inv X pins σ H {s with heap:=h',toks:=s.toks+1}:=I.turned (λb o hb e=>(sb.2 b hb).trans e) f0 f1 f3 f4 f5;obtain⟨o,e,c,d⟩:=id st';exact⟨_,rfl,qu (s:={s with heap:=h',toks:=s.toks+1}) e c d (by decide) ⟨.str ⟨#[x.cps[i]]⟩,H,I1,⟨_,rfl⟩,⟨rfl,_,fP hi,rfl⟩,st',λb hb=>(hf b hb).1⟩⟩
 done:=by
  intro X hP hw hK hc i pins s σ H E I hf st hg;subst hP hw hK;have hg:i=x.cps.size:=hg;obtain⟨f0,f1,f2,f3,f4,f5⟩:=hf it (by simp);exact wpAny_pyNext_wide_end (I.ok.hd hc) st (by rw[hg];simp) λh' eb=>⟨rfl,I.turned (t':=s.toks) (λb o hb e=>eb b o hb e) f0 f1 f3 f4 f5⟩
 self:=λ_ _ _ _ _ st h=>wpAny_pyIter_striter_wide st h
noncomputable def Td(tl:TE):TI:=λσ H R=>tl σ H λv H1=>∃x,v = .str x/\R (rQ x) H1
section
variable {X:Cx} {tg:Expr}
theorem Kv{l:Expr}{tl:TE}(hl:PE X l tl):PI X tg l (Td tl):=by
 intro pins s σ H R I h;refine aG (hl pins s σ H _ I h) λv s1 ⟨y,H1,I1,r1,q1⟩=>?_;obtain⟨x,e,q⟩:=q1;subst e;obtain⟨t,rfl⟩:=r1;cases ha:x.cps.all (· < 128)
 ·refine wpAny_pyIter_wide ha ?_
  refine⟨s1.heap.objs.size,[s1.heap.objs.size],_,_,H1,rfl,I1.kept (t':=s1.toks) λb o e=>aM _ e,Zi x t _,⟨_,bR _ rfl,rfl,rfl⟩,λb hb=>?_,q⟩;have e:b=s1.heap.objs.size:=by simpa using hb
  subst e;exact I1.ml (aO _) (I1.hok.fresh (aO _))
 ·refine wpAny_pyIter_ascii ha ?_
  refine⟨s1.heap.objs.size,[s1.heap.objs.size],_,_,H1,rfl,I1.kept (t':=s1.toks) λb o e=>aM _ e,Zd x t _,⟨_,bR _ rfl,rfl,rfl⟩,λb hb=>?_,q⟩;have e:b=s1.heap.objs.size:=by simpa using hb
  subst e;exact I1.ml (aO _) (I1.hok.fresh (aO _))
end
theorem Ng{x:Str}{ρ:L2.St}{H1:Hp}:gY (rQ x) (aW 0) (none::ρ) H1 x.cps.size (λi=>some (.str ⟨#[x.cps.getD i 0]⟩)::ρ) where
 go:=λi H hi hs=>hi
 stop:=λH hs=>rfl
 step:=λi H v H' Kk hi hs hy hk=>by
  obtain⟨rfl,c,hc,rfl⟩:=hy;have e:x.cps.getD i 0=c:=by rw[wk,hc];rfl
  have:=hk _ (Same.refl _);rw[e]at this;exact⟨Wk.set (Wk.refl _) rfl,this⟩
end L2
namespace My
open PySem PySem.Spec PyProof.Rows L2
abbrev gf:Str:= "0123456789"
noncomputable def fj(c:Nat):Bool:=decide (48<=c)&&decide (c<=57)
theorem Q0:∀c,48<=c->c<=57->(!(Builtin.Str.occurrences gf ⟨#[c]⟩ 0 gf.length 1).isEmpty)=true:=by
 intro c h1 h2;have:∀d<10,(!(Builtin.Str.occurrences gf ⟨#[48+d]⟩ 0 gf.length 1).isEmpty)=true:=by decide +kernel
 have e:=this (c - 48) (by omega);rw[show 48+(c - 48)=c by omega]at e;exact e
theorem Q5{c:Nat}(h:¬ (48<=c/\c<=57)):(!(Builtin.Str.occurrences gf ⟨#[c]⟩ 0 gf.length 1).isEmpty)=false:=by
 have e:Builtin.Str.occurrences gf ⟨#[c]⟩ 0 gf.length 1 = []:=by
  refine W.occ_nil_of_no gf ⟨#[c]⟩ 1 λi hi=>?_;have hi:i+1<=10:=hi;have t:∀i<10,gf.cps.extract i (i+1) = #[48+i]:=by decide +kernel
  show(gf.cps.extract i (i+1)==#[c])=false;rw[t i (by omega)];refine lW.mpr λq=>h ?_;have q2:=congrArg Array.toList q;have q3:48+i=c:=El q2;omega
 rw[e];rfl
theorem Hd(c:Nat):(!(Builtin.Str.occurrences gf ⟨#[c]⟩ 0 gf.length 1).isEmpty)=fj c:=by
 unfold fj
 by_cases h:48<=c/\c<=57
 ·rw[Q0 c h.1 h.2,bK h.1,bK h.2];rfl
 ·rw[Q5 h]
  symm
  rw[Bool.and_eq_false_iff,Qk,Qk];omega
noncomputable def cA (x:Str):Bool:=!decide (x = "")&&(x.cps.toList.all fj&&(decide (x = "0") || !decide (x.cps.toList.head? = some 48)))
noncomputable def valN(x:Str):Nat:=NumText.digitsVal x.cps.toList
theorem zV{x:Str}(h:cA x=true):NumText.AllDigits x.cps.toList/\x.cps.toList≠[]:=by
 unfold cA at h;rw[dB,dB,jF]at h;refine⟨λc hc=>?_,λe=>?_⟩
 ·have:=h.2.1 c hc
  unfold fj at this;rw[dB,kH,kH]at this;exact this
 ·have:x = "" :=rB (by rw[e];rfl)
  rw[this]at h;exact absurd h.1 (by decide)
theorem qB{x:Str}(h:cA x=true)(hl:x.length<=640):PySem.intText? x=some (valN x:Int):=PySem.intText_digits (zV h).1 (zV h).2 (by omega)
theorem GP:∀(cs:List Nat) (a:Nat),NumText.AllDigits cs->cs.foldl (λacc c=>acc*10+(c - 48)) a<(a+1)*10 ^ cs.length
 | [],a,_=>by simp
 |c::r,a,h=>by
  rw[List.foldl_cons];have h1:=GP r (a*10+(c - 48)) h.tail;have h2:=h.head;rw[dr,Nat.pow_succ];refine cg h1 ?_;rw[Nat.mul_comm (10 ^ r.length) 10,<- Nat.mul_assoc];exact Nat.mul_le_mul_right _ (by omega)
theorem Zt{x:Str}(h:cA x=true)(hl:x.length<=40):valN x<10 ^ 40:=by
 have h1:=GP x.cps.toList 0 (zV h).1;rw[Nat.zero_add,Nat.one_mul,show x.cps.toList.length=x.length from dq]at h1;exact cg h1 (jd (by decide) hl)
theorem Jj{c:Nat}:∀{ps:List Str} {p:Str},p∈ps->p.length<=(Str.join ⟨#[c]⟩ ps).length
 | [q],p,h=>by
  rw[bW.mp h];exact aO _
 |q::r::ps,p,h=>by
  have e:=congrArg List.length (kU c q r ps);rw[dD,dr,dq,dq,dq]at e;have e:(Str.join ⟨#[c]⟩ (q::r::ps)).length=q.length+((Str.join ⟨#[c]⟩ (r::ps)).length+1):=e
  rcases bu.mp h with rfl|h
  ·omega
  ·have:=Jj h (c:=c)
   omega
theorem Ji{c:Nat}:∀{ps:List Str},ps.length<=(Str.join ⟨#[c]⟩ ps).length+1
 | []=>eK _
 | [q]=>by show 1<=_;omega
 |q::r::ps=>by
  have e:=congrArg List.length (kU c q r ps);rw[dD,dr,dq,dq,dq]at e;have e:(Str.join ⟨#[c]⟩ (q::r::ps)).length=q.length+((Str.join ⟨#[c]⟩ (r::ps)).length+1):=e;have:=Ji (c:=c) (ps:=r::ps);rw[dr];omega
theorem pj{x p:Str}{c:Nat}(h:p∈Txt.split x ⟨#[c]⟩):p.length<=x.length:=by
 have:=Jj (c:=c) h
 rwa [sx]at this
theorem Nc(x:Str)(c:Nat):(Txt.split x ⟨#[c]⟩).length<=x.length+1:=by
 have:=Ji (c:=c) (ps:=Txt.split x ⟨#[c]⟩)
 rwa [sx]at this
noncomputable def eU (x:Str):Bool:=decide ((Txt.split x "<").length=2)&&(Txt.split x "<").all cA
theorem FN(n:Nat)(g:Nat->Bool):((List.range n).map λi=>V.bl (g i))=((List.range n).map g).map V.bl:=by rw[iy];rfl
theorem range_all{l:List Nat}{g:Nat->Bool}:((List.range l.length).map λi=>g (l.getD i 0)).all id=l.all g:=by
 rw[wy];have e:l=(List.range l.length).map λi=>l.getD i 0:=by
  apply ki
  ·simp
  ·intro i h1 h2
   simp[aZ,h1]
 conv=>rhs;rw[e]
 rw[wy];rfl
theorem M8{n:Nat}(h:n<=1000):n<sizeLine:=nG h (by decide)
section
variable {P:Program} {w:World} {K:W.Frag} {mg:Str->Option Value} {base:Heap} {f:Addr} {fd:FuncData}
abbrev vq:Stmt:=top 39
theorem Lr:bh ["word"] ["word"] (ay vq):=⟨rfl,rfl,rfl,by decide +kernel,rfl,by decide +kernel,by decide +kernel⟩
noncomputable def vJ:Sp:=λvs H Q _=>∃x:Str,vs = [.str x]/\x.length<=1000/\∀H',Same H H'->Q (.bl (cA x)) H'
theorem VL (F:aT K "is_number" "is_number" vq f fd) (T:Txt mg) (DK:∃t,mg "FIGURES" = some (.str "0123456789" t)):aN P w K mg base bf 1 f fd ["word"] vJ:=by
 refine F.ok Lr (λvs H Q E h=>?_) (λcdv A outer s H vs Q E hr h=>?_)
 ·obtain⟨x,rfl,_⟩:=h
  rfl
 ·obtain⟨x,rfl,hx,kk⟩:=h
  have nd:=Lr.nd;obtain⟨tF,eF⟩:=DK;refine⟨_,(ao (bq (PW.pt (fN (aU bQ (pv 0) bz (aP _)) (gC (gJ (dh (aR (Gj (K:=K) rfl rfl) rfl T.all boot_all (ae (dg (own:=["sign"]) (fr:=[]) rfl (cM (ay vq) ["word"] rfl rfl (by decide +kernel)) (Kv (pv 0)) (λ_ _ _ _=>⟨(aY (i:=0) (by decide +kernel:(["sign"]:List Str).Nodup) rfl (Or.inl rfl)),dz,(hZ Wv (pv 0) (eE (v:=.str gf) rfl eF ⟨_,rfl⟩) (by with_unfolding_all rfl))⟩)) ag))))))) (aq (aS iQ)) bx)
   (aq (aS (Kr (hZ bQ (pv 0) bz (aP _)) (iR (hZ jW (aH Jg (pv 0) aj (λ_ _=>rfl)) bz (aP _))))))),?_⟩
  have hsz:x.cps.size<sizeLine:=M8 hx;refine⟨_,rfl,rfl,_,rfl,?_⟩;unfold cA at kk
  by_cases h0:x = ""
  ·rw[bK (show V.str x=V.str "" by rw[h0])]
   rw[bK h0]at kk;exact a_ (a_ (kk _ (Same.refl _)))
  rw[bE (show ¬ V.str x=V.str "" from λe=>h0 (V.str.inj e))];rw[bE h0]at kk;refine aI ?_;refine⟨_,rfl,_,rfl,λD hD=>fF (λi=>.bl (fj (x.cps.getD i 0))) Ng hD hsz (λi H3 Kt hi hs hk=>?_) (λH3 hs hl=>?_)⟩
  ·refine⟨_,rfl,_,_,rfl,rfl,?_⟩
   rw[Hd];exact hk _ (Same.refl _)
  ·rw[FN]at hl
   refine⟨D,_,rfl,ai.of hl,?_⟩;have ea:((List.range x.cps.size).map λi=>fj (x.cps.getD i 0)).all id=x.cps.toList.all fj:=by
    rw[<- range_all,dq]
    congr 1
    refine pN λi _=>?_;rw[wk,aZ,pE]
   rw[ea];refine⟨_,rfl,?_⟩;cases hall:x.cps.toList.all fj with
   |false =>
    rw[hall]at kk;exact a_ (kk _ hs)
   |true =>
    rw[hall]at kk;refine aI ?_;refine⟨_,rfl,rfl,_,rfl,?_⟩
    by_cases h1:x = "0"
    ·rw[bK (show V.str x=V.str "0" by rw[h1])]
     rw[bK h1]at kk;exact a_ (kk _ hs)
    rw[bE (show ¬ V.str x=V.str "0" from λe=>h1 (V.str.inj e))];rw[bE h1]at kk;cases e2:x.cps.toList with
    |nil=>exact absurd (rB (by rw[e2];rfl)) h0
    |cons c r =>
     rw[e2]at kk;refine aI ⟨_,rfl,_,0,c,rfl,rfl,dS hsz,by rw[e2];exact bp (j:=0) rfl,rfl,?_⟩
     by_cases hc:c=48
     ·subst hc
      exact kk _ hs
     ·rw[bE (show ¬ V.str ⟨#[c]⟩=V.str "0" from λz=>hc (by
       have z2:=congrArg (λs:Str=>s.cps.toList) (V.str.inj z);exact El z2))]
      rw[bE (show ¬ (c::r).head? = some 48 from λz=>hc (dU z))]at kk;exact kk _ hs
abbrev vt:Stmt:=top 40
theorem Ls:bh ["word","numbers"] ["word"] (ay vt):=⟨rfl,rfl,rfl,by decide +kernel,rfl,by decide +kernel,by decide +kernel⟩
noncomputable def Cv:Sp:=λvs H Q _=>∃x:Str,vs = [.str x]/\x.length<=900/\∀H',Same H H'->Q (.bl (eU x)) H'
theorem VM (F:aT K "is_pair" "is_pair" vt f fd) (T:Txt mg) (oh:aF P w K mg base "is_number" ["word"] 1 vJ):aN P w K mg base bf 2 f fd ["word"] Cv:=by
 refine F.ok Ls (λvs H Q E h=>?_) (λcdv A outer s H vs Q E hr h=>?_)
 ·obtain⟨x,rfl,_⟩:=h
  rfl
 ·obtain⟨x,rfl,hx,kk⟩:=h
  have nd:=Ls.nd;refine⟨_,(ao (aJ (i:=1) nd rfl (Or.inl rfl) (cR (K:=K) rfl je jK nU mI (pv 0) (ae bz ag)))
   (aq (aS (jt (hZ bQ (aR (cj (K:=K) rfl) rfl T.len cw (ae (pv 1) ag)) aj (aP _)) (iR (aR (Gj (K:=K) rfl rfl) rfl T.all boot_all (ae (dg (own:=["number"]) (fr:=[]) rfl (cM (ay vt) ["word","numbers"] rfl rfl (by decide +kernel)) (dJ (K:=K) rfl (pv 1)) (λ_ _ _ _=>⟨(aY (i:=0) (by decide +kernel:(["number"]:List Str).Nodup) rfl (Or.inl rfl)),dz,(bj oh hr rfl (ae (pv 0) ag))⟩)) ag))))))),?_⟩
  refine⟨_,rfl,rfl,_,_,rfl,rfl,rfl,bN hx (by decide),λl hl=>?_⟩;dsimp only[aW];have hm:=Nc x 60;have hp:∀p∈Txt.split x "<", p.length<=x.length:=λp h=>pj (c:=60) h;have s1:=Same.put hl (o:=.lst ((Txt.split x "<").map V.str));unfold eU at kk;refine⟨_,rfl,l,_,rfl,.inl (ai.of ak),rfl,_,rfl,?_⟩;rw[aB]
  by_cases h2:(Txt.split x "<").length=2
  ·rw[bK h2]at kk
   rw[h2];refine a_ ?_;refine⟨_,rfl,l,rfl,⟨_,ai.of ak⟩,λD hD=>fF (λi=>.bl (cA ((Txt.split x "<").getD i ""))) (src_list (ai.of ak)) hD (by rw[aB,h2];decide) (λi H3 Kt hi hs hk=>?_) (λH3 hs hl3=>?_)⟩
   ·rw[aB]at hi
    have ew:((Txt.split x "<").map V.str).getD i .non = .str ((Txt.split x "<").getD i ""):=by
     rw[aZ,dR,aZ,aK hi];rfl
    have:=hp ((Txt.split x "<").getD i "") (by rw[aZ,aK hi];exact ja hi);exact⟨_,rfl,_,by rw[ew];rfl,by omega,λH4 s4=>hk _ s4⟩
   ·rw[FN]at hl3
    refine⟨D,_,rfl,ai.of hl3,?_⟩;have ea:((List.range ((Txt.split x "<").map V.str).length).map λi=>cA ((Txt.split x "<").getD i "")).all id=(Txt.split x "<").all cA:=by
     rw[aB,wy];have e:Txt.split x "<" = (List.range (Txt.split x "<").length).map λi=>(Txt.split x "<").getD i "" :=by
      apply ki
      ·simp
      ·intro i h1 h2
       simp[aZ,h1]
     conv=>rhs;rw[e]
     rw[wy];rfl
    rw[ea];exact kk _ (s1.trans hs)
  ·rw[bE h2]at kk
   rw[bE (show ¬ V.int ((Txt.split x "<").length:Nat)=V.int 2 from λe=>h2 (by have:=V.int.inj e;omega))];exact aI (kk _ s1)
abbrev BV:Stmt:=top 41
theorem MK:bh ["word","numbers"] ["word"] (ay BV):=⟨rfl,rfl,rfl,by decide +kernel,rfl,by decide +kernel,by decide +kernel⟩
noncomputable def mO (x:Str):Nat × Nat:=(valN ((Txt.split x "<").getD 0 ""),valN ((Txt.split x "<").getD 1 ""))
theorem zW {x:Str} (h:eU x=true):∃a b,Txt.split x "<" = [a,b]/\cA a=true/\cA b=true:=by
 unfold eU at h;rw[dB,kH]at h;obtain⟨h1,h2⟩:=h
 match e:Txt.split x "<", h1 with
 | [a,b],_ =>
  rw[e]at h2;rw[rR,rR,dB,dB]at h2;exact⟨a,b,rfl,h2.1,h2.2.1⟩
noncomputable def De:Sp:=λvs H Q _=>∃x:Str,vs = [.str x]/\eU x=true/\x.length<=600/\∀t H',Same H H'->H' t=some (.tup [.int (mO x).1,.int (mO x).2])->Q (.ref t) H'
theorem V' (F:aT K "read_pair" "read_pair" BV f fd) (T:Txt mg):aN P w K mg base bf 1 f fd ["word"] De:=by
 refine F.ok MK (λvs H Q E h=>?_) (λcdv A outer s H vs Q E hr h=>?_)
 ·obtain⟨x,rfl,_⟩:=h
  rfl
 ·obtain⟨x,rfl,hP,hx,kk⟩:=h
  have nd:=MK.nd;refine⟨_,(ao (aJ (i:=1) nd rfl (Or.inl rfl) (cR (K:=K) rfl je jK nU mI (pv 0) (ae bz ag)))
   (aq (aS (cZ (ae (dm tm rfl T.int lX (ae (aH (aX (K:=K) rfl) (pv 1) aj (λ_ _=>rfl)) ag)) (ae (dm tm rfl T.int lX (ae (aH (aX (K:=K) rfl) (pv 1) aj (λ_ _=>rfl)) ag)) ag)))))),?_⟩
  obtain⟨a,b,e,ha,hb⟩:=zW hP;unfold mO at kk;have l1:a.length<=x.length:=pj (c:=60) (show a∈Txt.split x "<" by rw[e];exact cK);have l2:b.length<=x.length:=pj (c:=60) (show b∈Txt.split x "<" by rw[e];exact bT _ cK);refine⟨_,rfl,rfl,_,_,rfl,rfl,rfl,bN hx (by decide),λl hl=>?_⟩;rw[e]at kk ⊢;dsimp only[aW];have s1:=Same.put hl (o:=.lst ([a,b].map V.str));refine⟨_,rfl,l,_,0,_,rfl,rfl,ai.of ak,bp (j:=0) rfl,a,_,rfl,qB ha (by omega),by omega,_,rfl,l,_,1,_,rfl,rfl,ai.of ak,bp (j:=1) rfl,b,_,rfl,qB hb (by omega),by omega,by show 2<=sizeLine;decide,λt ht=>kk t _ (s1.trans (Same.put ht)) ak⟩
end
theorem jP(x y:Nat):Builtin.bitAnd (x:Int) (y:Int)=((x&&& y:Nat):Int):=by rw[bitAnd_pp (by omega) (by omega)];simp
theorem qM(x y:Nat):Builtin.bitOr (x:Int) (y:Int)=((x ||| y:Nat):Int):=by
 rw[bitOr_and,jP];have:=nat_or_add_and x y;omega
abbrev nV (x:Nat):V:=.int (x:Int)
section
variable {P:Program} {w:World} {K:W.Frag} {mg:Str->Option Value} {base:Heap} {f:Addr} {fd:FuncData}
abbrev Bp:Stmt:=top 44
theorem Lz:bh ["_law_script","_law_k"] ["_law_script","_law_k"] (ay Bp):=⟨rfl,rfl,rfl,by decide +kernel,rfl,by decide +kernel,by decide +kernel⟩
noncomputable def Ca(K:W.Frag):Sp:=λvs H Q _=>∃(a k:Nat) (ns:List Int),vs = [.ref a,.int k]/\ai K H a (ns.map V.int)/\∀i H',Same H H'->Q (.int i) H'
theorem Vs (F:aT K "_law_cell_at" "_law_cell_at" Bp f fd) (T:Txt mg):aN P w K mg base bf 1 f fd ["_law_script","_law_k"] (Ca K):=by
 refine F.ok Lz (λvs H Q E h=>?_) (λcdv A outer s H vs Q E hr h=>?_)
 ·obtain⟨a,k,ns,rfl,_⟩:=h
  rfl
 ·obtain⟨a,k,ns,rfl,hS,kk⟩:=h
  have nd:=Lz.nd;refine⟨_,(ao (bq (aU la (pv 1) (aR (cj (K:=K) rfl) rfl T.len cw (ae (pv 0) ag)) (aP _)) (aq (aS (aH (aX (K:=K) rfl) (pv 0) (pv 1) (λ_ _=>rfl)))) bx)
   (aq (aS aj))),?_⟩
  refine⟨_,rfl,_,rfl,a,_,rfl,.inl hS,_,_,rfl,rfl,_,rfl,bB (λh=>?_) (λh=>?_)⟩
  ·rw[kH,aB]at h
   have hk:k<ns.length:=by omega
   exact⟨_,rfl,_,rfl,a,_,k,.int ns[k],rfl,rfl,hS,bp (by simp[hk]),kk _ _ (Same.refl _)⟩
  ·exact kk _ _ (Same.refl _)
abbrev Bv:Stmt:=top 45
theorem Mf:bh ["_law_cell","_law_place","_law_number"] ["_law_cell","_law_place"] (ay Bv):=⟨rfl,rfl,rfl,by decide +kernel,rfl,by decide +kernel,by decide +kernel⟩
noncomputable def CG:Sp:=λvs H Q _=>∃(c:Int) (p:Nat),vs = [.int c,.int p]/\p<=1000/\∀i H',0<=i->i<2147483648->Same H H'->Q (.int i) H'
theorem V4 (F:aT K "_law_mixed" "_law_mixed" Bv f fd) (T:Txt mg):aN P w K mg base bf 1 f fd ["_law_cell","_law_place"] CG:=by
 refine F.ok Mf (λvs H Q E h=>?_) (λcdv A outer s H vs Q E hr h=>?_)
 ·obtain⟨c,p,rfl,_⟩:=h
  rfl
 ·obtain⟨c,p,rfl,hp,kk⟩:=h
  have nd:=Mf.nd;have m1:∀x:Int,0<=x % 2147483629/\x % 2147483629<2147483629:=λx=>⟨pL x (by decide),wq x (by decide)⟩;have m2:∀x:Int,0<=x % 2147483587/\x % 2147483587<2147483587:=λx=>⟨pL x (by decide),wq x (by decide)⟩;have cm:∀x y:Int,rJ (x % 2147483629) y:=λx y=>.inl ⟨by have:=m1 x;omega,by have:=m1 x;omega⟩;refine⟨_,(ao (aJ (i:=2) nd rfl (Or.inl rfl) (av cq (av dI (av dI (av oS (av cq (pv 0) aj) aj) (av oS aj (pv 1))) aj) aj))
   (ao (aJ (i:=2) nd rfl (Or.inl rfl) (av cq (av dI (av dI (av oS (pv 2) (pv 2)) (av oS aj (pv 1))) aj) aj))
   (aq (aS (av cq (av dI (av oS (pv 2) (pv 2)) aj) aj))))),?_⟩
  refine⟨_,rfl,_,_,rfl,rfl,(by show(0:Int)<2147483629;decide),_,_,rfl,rfl,cm _ _,_,rfl,_,_,rfl,rfl,.inl ⟨by decide,by decide⟩,_,_,rfl,rfl,_,_,rfl,rfl,_,_,rfl,rfl,(by show(0:Int)<2147483629;decide),?_⟩;refine⟨_,rfl,_,rfl,_,_,rfl,rfl,cm _ _,_,rfl,_,_,rfl,rfl,.inl ⟨by decide,by decide⟩,_,_,rfl,rfl,_,_,rfl,rfl,_,_,rfl,rfl,(by show(0:Int)<2147483629;decide),?_⟩;refine⟨_,rfl,_,rfl,_,_,rfl,rfl,cm _ _,_,_,rfl,rfl,_,_,rfl,rfl,(by show(0:Int)<2147483587;decide),?_⟩;exact kk _ _ (m2 _).1 (by have:=(m2 ((((c % 2147483629*16807+69621*(p:Int)+11) % 2147483629*((c % 2147483629*16807+69621*(p:Int)+11) % 2147483629)+48271*(p:Int)+7) % 2147483629)*(((c % 2147483629*16807+69621*(p:Int)+11) % 2147483629*((c % 2147483629*16807+69621*(p:Int)+11) % 2147483629)+48271*(p:Int)+7) % 2147483629)+69621)).2;omega) (Same.refl _)
abbrev Br:Stmt:=top 46
theorem LW:bh ["_law_cell","_law_many","_law_found","_law_left","_law_k"] ["_law_cell","_law_many"] (ay Br):=⟨rfl,rfl,rfl,by decide +kernel,rfl,by decide +kernel,by decide +kernel⟩
noncomputable def Small(ns:List Int):Prop:=∀x∈ns,0<=x/\x<2147483648
noncomputable def vI:Sp:=λvs H Q _=>∃(c:Int) (m:Nat),vs = [.int c,.int m]/\m<=1000/\∀l ns H',Same H H'->H l=none->H' l=some (.lst (ns.map V.int))->ns.length=m->Small ns->Q (.ref l) H'
theorem Vx (F:aT K "_law_draws" "_law_draws" Br f fd) (T:Txt mg) (xW:aF P w K mg base "_law_mixed" ["_law_cell","_law_place"] 1 CG):aN P w K mg base bf 2 f fd ["_law_cell","_law_many"] vI:=by
 refine F.ok LW (λvs H Q E h=>?_) (λcdv A outer s H vs Q E hr h=>?_)
 ·obtain⟨c,m,rfl,_⟩:=h
  rfl
 ·obtain⟨c,m,rfl,hm,kk⟩:=h
  have nd:=LW.nd;have em:((m:Int)).toNat=m:=bJ m;refine⟨_,(ao (aJ (i:=2) nd rfl (Or.inl rfl) (b9 ag))
   (ao (aJ (i:=3) nd rfl (Or.inl rfl) (av qL (pv 0) (av WD aj aj)))
   (ao (b_ cy rfl (cS rfl T.range (ae (pv 1) ag)) (aY (i:=4) nd rfl (Or.inl rfl))
   (aq (bq (aU J3 (pv 3) aj (aP _)) (ao (c9 (cR (K:=K) rfl fU lQ nQ k_ (pv 2) (ae (av cq (pv 3) aj) ag)))
   (aq (aJ (i:=3) nd rfl (Or.inl rfl) (av oQ (pv 3) aj)))) (aq (c9 (cR (K:=K) rfl fU lQ nQ k_ (pv 2) (ae (bj xW hr rfl (ae (pv 0) (ae (pv 4) ag))) ag)))))))
   (aq (aS (pv 2)))))),?_⟩
  refine⟨by show 0<=sizeLine;decide,λL hL=>?_⟩;refine⟨_,rfl,_,_,rfl,rfl,⟨by decide,by decide,by decide⟩,_,_,rfl,rfl,?_⟩;refine⟨_,rfl,m,rfl,(bH (by omega)).1,(bH (by omega)).2,dZ (lo:=0) (n:=((m:Int)).toNat) (λi σ H2=>∃(v4:Option V) (x:Int) (ns:List Int),σ = [some (.int c),some (.int m),some (.ref L),some (.int x),v4]/\Same H H2/\H2 L=some (.lst (ns.map V.int))/\ns.length=i/\Small ns)
   ⟨none,_,[],rfl,Same.put hL,ak,rfl,λ_ h=>nomatch h⟩ ?_ ?_⟩
  ·rintro i σ H2 hi ⟨v4,x,ns,rfl,s2,hl,hlen,hsm⟩
   have sn:∀y:Int,0<=y->y<2147483648->Small (ns++[y]):=λy h0 h1 z hz=>by
    rcases fe.mp hz with hz|hz
    ·exact hsm z hz
    ·simp at hz;subst hz;exact⟨h0,h1⟩
   have sk:∀{H3:Hp} {o:HO},Same H2 H3->Same H (upd H3 L o):=λs3 b o e=>by
    rw[aA (λz=>by rw[z,hL]at e;cases e)];exact s3 _ _ (s2 _ _ e)
   have hz:(ns.map V.int).length<sizeLine:=by rw[aB];exact cP (by omega)
   refine⟨_,rfl,_,_,rfl,rfl,_,rfl,bB (λh=>?_) (λh=>?_)⟩
   ·have q:=pL x (show(1000003:Int)≠0 by decide)
    have q':=wq x (show(0:Int)<1000003 by decide);refine⟨_,rfl,.inl ⟨rfl,_,ai.of hl⟩,_,rfl,_,_,rfl,rfl,(by show(0:Int)<1000003;decide),L,_,_,rfl,rfl,hl,hz,?_⟩;refine⟨_,rfl,_,_,rfl,rfl,⟨by decide,by decide⟩,?_⟩;exact⟨_,_,ns++[x % 1000003],rfl,sk (Same.refl _),by rw[ak];simp,by simp[hlen],sn _ q (by omega)⟩
   ·refine⟨_,rfl,.inl ⟨rfl,_,ai.of hl⟩,_,rfl,_,rfl,c,i,by simp,by omega,λy H3 y0 y1 s3=>?_⟩
    exact⟨L,_,_,rfl,rfl,s3 _ _ hl,hz,_,x,ns++[y],rfl,sk s3,by rw[ak];simp,by simp[hlen],sn _ y0 y1⟩
  ·rintro σ H2 ⟨v4,x,ns,rfl,s2,hl,hlen,hsm⟩
   exact⟨_,rfl,kk L ns H2 s2 hL hl (hlen.trans em) hsm⟩
end
end My
namespace L2
open PySem PySem.Spec PyProof.Rows
noncomputable def gE(xs:Array Nat):Prop:=∀i j,i<j->j<xs.size->xs.getD i 0<xs.getD j 0
theorem Rg{xs:Array Nat}{i:Nat}(h:i<xs.size)(a b:Nat):xs.getD i a=xs.getD i b:=by
 simp[Array.getD,h]
theorem xu{xs:Array Nat}{j:Nat}(hr:gE xs):∀(fuel lo hi:Nat),lo<=hi->hi<=xs.size->hi - lo<=fuel->(∀i,i<lo->xs.getD i 0<j)->(∀i,hi<=i->i<xs.size->j<=xs.getD i 0)->SetTable.below.go xs j fuel lo hi<=xs.size/\(∀i,i<SetTable.below.go xs j fuel lo hi->xs.getD i 0<j)/\(∀i,SetTable.below.go xs j fuel lo hi<=i->i<xs.size->j<=xs.getD i 0)
 |0,lo,hi,h1,h2,h3,h4,h5=>by
  have:lo=hi:=by omega
  subst this;exact⟨h2,h4,h5⟩
 |fuel+1,lo,hi,h1,h2,h3,h4,h5=>by
  unfold SetTable.below.go
  by_cases hlt:lo<hi
  ·rw[az hlt]
   have hm:(lo+hi) / 2<xs.size:=by omega
   dsimp only;rw[Rg hm j 0]
   by_cases hc:xs.getD ((lo+hi) / 2) 0<j
   ·rw[az hc]
    refine xu hr fuel _ _ (by omega) h2 (by omega) (λi hi'=>?_) h5
    by_cases e:i=(lo+hi) / 2
    ·rw[e];exact hc
    ·exact se (hr i _ (by omega) hm) hc
   ·rw[au hc]
    refine xu hr fuel _ _ (by omega) (by omega) (by omega) h4 (λi hi' hl=>?_)
    by_cases e:i=(lo+hi) / 2
    ·rw[e];omega
    ·have:=hr ((lo+hi) / 2) i (by omega) hl
     omega
  ·rw[au hlt]
   have:lo=hi:=by omega
   subst this;exact⟨h2,h4,h5⟩
theorem xv{xs:Array Nat}{j:Nat}(hr:gE xs):SetTable.below xs j<=xs.size/\(∀i,i<SetTable.below xs j->xs.getD i 0<j)/\(∀i,SetTable.below xs j<=i->i<xs.size->j<=xs.getD i 0):=by
 unfold SetTable.below;exact xu hr _ _ _ (eK _) (aO _) (by omega) (λi h=>absurd h (by omega)) (λi h1 h2=>absurd h1 (by omega))
theorem Py{xs:Array Nat}(hr:gE xs){i:Nat}(hi:i<xs.size):SetTable.below xs (xs.getD i 0+1)=i+1:=by
 obtain⟨h1,h2,h3⟩:=xv (j:=xs.getD i 0+1) hr;generalize SetTable.below xs (xs.getD i 0+1)=b at h1 h2 h3
 rcases Nat.lt_trichotomy b (i+1)with h|h|h
 ·have:=h3 i (by omega) hi
  omega
 ·exact h
 ·have h4:=h2 (i+1) h
  have h5:=hr i (i+1) (by omega) (by omega);omega
theorem Pz{xs:Array Nat}(hr:gE xs):SetTable.below xs 0=0:=by
 obtain⟨h1,h2,h3⟩:=xv (j:=0) hr;generalize SetTable.below xs 0=b at h1 h2 h3
 rcases Nat.eq_zero_or_pos b with h|h
 ·exact h
 ·exact absurd (h2 0 h) (by omega)
theorem Tj{α:Type}(xs:Array α)(p:Nat)(x:α)(hp:p<=xs.size):(SetTable.insertAt xs p x).size=xs.size+1:=by
 unfold SetTable.insertAt;simp;omega
theorem Jb{α:Type}(xs:Array α)(p:Nat)(x:α):(SetTable.insertAt xs p x).toList=xs.toList.take p++x::xs.toList.drop p:=by
 unfold SetTable.insertAt;simp[nD]
theorem insertAt_perm{α:Type}(xs:Array α)(p:Nat)(x:α):(SetTable.insertAt xs p x).toList.Perm (x::xs.toList):=by
 rw[Jb];refine List.perm_middle.trans ?_;rw[Oy]
theorem Ja(xs:Array Nat)(p x i:Nat)(hp:p<=xs.size):(SetTable.insertAt xs p x).getD i 0=if i<p then xs.getD i 0 else if i=p then x else xs.getD (i - 1) 0:=by
 have e:∀(ys:Array Nat) (i:Nat),ys.getD i 0=ys.toList.getD i 0:=λys i=>by simp[Array.getD,aZ];split<;>simp[*]
 rw[e,e,e,Jb,aZ,aZ,aZ];have hl:(xs.toList.take p).length=p:=by rw[gU];simp;omega
 by_cases h1:i<p
 ·rw[az h1,wz (by omega),Ot h1]
 ·rw[au h1,rW (by omega),hl]
  by_cases h2:i=p
  ·rw[az h2,h2,Ey]
   rfl
  ·rw[au h2]
   obtain⟨k,hk⟩:∃k,i - p=k+1:=⟨i - p - 1,by omega⟩;rw[hk,Om,List.getElem?_drop]
   congr 2
   omega
theorem XR{xs:Array Nat}{j:Nat}(hr:gE xs)(hj:xs[SetTable.below xs j]?≠some j):gE (SetTable.insertAt xs (SetTable.below xs j) j):=by
 obtain⟨h1,h2,h3⟩:=xv (j:=j) hr;have h3':∀i,SetTable.below xs j<=i->i<xs.size->j<xs.getD i 0:=λi a b=>by
  rcases Nat.lt_or_eq_of_le (h3 i a b)with h|h
  ·exact h
  ·exfalso
   by_cases e:i=SetTable.below xs j
   ·apply hj
    rw[<- e,fP b];simp[Array.getD,b]at h;rw[h]
   ·have hb:SetTable.below xs j<xs.size:=by omega
    have q1:=h3 (SetTable.below xs j) (aO _) hb;have q2:=hr (SetTable.below xs j) i (by omega) b;omega
 generalize SetTable.below xs j=p at h1 h2 h3 h3';intro a b hab hb;rw[Tj _ _ _ h1]at hb;rw[Ja _ _ _ _ h1,Ja _ _ _ _ h1]
 by_cases a1:a<p
 ·rw[az a1]
  by_cases b1:b<p
  ·rw[az b1];exact hr a b hab (by omega)
  ·rw[au b1]
   by_cases b2:b=p
   ·rw[az b2];exact h2 a a1
   ·rw[au b2]
    exact se (h2 a a1) (h3' (b - 1) (by omega) (by omega))
 ·rw[au a1]
  have b1:¬ b<p:=by omega
  have b2:¬ b=p:=by omega
  rw[au b1,au b2]
  by_cases a2:a=p
  ·rw[az a2]
   exact h3' (b - 1) (by omega) (by omega)
  ·rw[au a2]
   exact hr (a - 1) (b - 1) (by omega) (by omega)
theorem XX{l:List Nat}(h:l.Pairwise (· < ·)):gE l.toArray:=by
 intro i j hij hj;have hj':j<l.length:=by simpa using hj
 have:=List.pairwise_iff_getElem.mp h i j (by omega) hj' hij;simp[Array.getD,hj',show i<l.length by omega];exact this
theorem XT:gE #[]:=λi j _ h=>absurd h (by simp)
theorem T6{mask finger moves:Nat}{led plain:Bool}{hs:Array Int}{t:SetTable}{order:Array Nat}(h:SetTable.laid mask finger moves led plain hs=some (t,order)):gE t.place/\t.dummies = #[]/\t.led=led/\t.plain=plain:=by
 unfold SetTable.laid at h;cases e:SetTable.layClean mask hs with
 |none=>rw[e]at h;cases h
 |some owner =>
  rw[e]at h;injection h with h
  injection h with h1 h2
  rw[<- h1];refine⟨?_,rfl,rfl,rfl⟩;apply XX
  rw[Eu,List.pairwise_filterMap];refine List.pairwise_lt_range.imp λ{a b} hab x hx y hy=>?_;cases ea:owner.getD a none with
  |none=>rw[ea]at hx;cases hx
  |some p =>
   cases eb:owner.getD b none with
   |none=>rw[eb]at hy;cases hy
   |some q =>
    rw[ea]at hx;rw[eb]at hy;cases hx;cases hy;exact hab
theorem Yq{t:SetTable}(hd:t.dummies = #[])(j:Nat):t.slot j = .empty/\t.place[SetTable.below t.place j]?≠some j\/∃i,t.slot j = .live i:=by
 unfold SetTable.slot;dsimp only
 by_cases e:(t.place[SetTable.below t.place j]?==some j)=true
 ·rw[az e]
  exact .inr ⟨_,rfl⟩
 ·rw[au e]
  refine .inl ⟨?_,λz=>e (by rw[z];simp)⟩;rw[hd];rfl
theorem Ht{t:SetTable}{h:Int}(hd:t.dummies = #[]):∀(fuel:Nat) (p:SetTable.Probe) (j:Nat) (d:Option Nat),p.dummy=none->SetTable.probe.go t (λ_=>h+1) h fuel p=some (.empty j d)->d=none/\t.place[SetTable.below t.place j]?≠some j
 |0,p,j,d,_,e=>by cases e
 |fuel+1,p,j,d,hp,e=>by
  unfold SetTable.probe.go at e
  rcases Yq hd p.j with⟨q,q'⟩|⟨i,q⟩
  ·rw[q]at e
   injection e with e
   injection e with e1 e2
   rw[<- e1,<- e2];exact⟨hp,q'⟩
  ·rw[q]at e
   dsimp only at e;have hne:((h+1)==h)=false:=by
    rw[lW];omega
   rw[hne]at e;refine Ht hd fuel _ j d ?_ e;unfold SetTable.advance
   split<;>exact hp
theorem Rc{t:SetTable}{h:Int}{s:Nat}{w:Bool}(hd:t.dummies = #[])(e:t.freeSlot h=some (s,w)):w=false/\t.place[SetTable.below t.place s]?≠some s:=by
 unfold SetTable.freeSlot SetTable.probe at e;generalize eg:SetTable.probe.go t (λ_=>h+1) h (10*SetTable.turns t.mask) (t.probeStart h)=g at e
 match g,e with
 |some (.empty j d),e =>
  obtain⟨rfl,q⟩:=Ht hd _ _ j d rfl eg;injection e with e
  injection e with e1 e2
  rw[<- e1,<- e2];exact⟨rfl,q⟩
structure TabOk (t:SetTable):Prop where
 nd:t.dummies = #[]
 rise:t.plain=true->gE t.place
theorem Y7(f m:Nat)(led:Bool):TabOk (SetTable.fresh f m led):=⟨rfl,λ_=>XT⟩
theorem vU{t:SetTable}(n:Nat):TabOk (t.standIn n)/\(t.standIn n).led=t.led:=⟨⟨rfl,λh=>by cases h⟩,rfl⟩
theorem Jt{t:SetTable}{es:Array (Int × Value)}{h:Int}{x:Value}(ok:TabOk t):TabOk (layNew t es h x).2.1/\(layNew t es h x).2.1.led=t.led/\(layNew t es h x).1.toList.Perm ((h,x)::es.toList)/\(layNew t es h x).2.2.1=false:=by
 unfold layNew;cases e:t.freeSlot h with
 |none =>
  refine⟨(vU _).1,rfl,?_,rfl⟩;dsimp only;rw[pF];exact(Ew _ _)
 |some q =>
  obtain⟨s,w⟩:=q;obtain⟨rfl,hs⟩:=Rc ok.nd e;dsimp only[SetTable.put];have hhas:SetTable.has t.dummies s=false:=by rw[ok.nd];rfl
  rw[hhas];simp only[rG,oE];refine⟨?_,?_,insertAt_perm _ _ _,True.intro⟩
  ·unfold SetTable.orStandIn
   by_cases hf:({t with place:=SetTable.insertAt t.place (SetTable.below t.place s) s}:SetTable).fits (SetTable.insertAt es (SetTable.below t.place s) (h,x)).size=true
   ·rw[az hf]
    exact⟨ok.nd,λhp=>XR (ok.rise hp) hs⟩
   ·rw[au hf]
    exact(vU _).1
  ·unfold SetTable.orStandIn
   by_cases hf:({t with place:=SetTable.insertAt t.place (SetTable.below t.place s) s}:SetTable).fits (SetTable.insertAt es (SetTable.below t.place s) (h,x)).size=true
   ·rw[az hf]
   ·rw[au hf]
    rfl
theorem K4{α:Type}:∀l:List α,(List.range l.length).filterMap (λi=>l[i]?)=l
 | []=>rfl
 |x::l=>by
  rw[dr,List.range_succ_eq_map,ny];simp only[Oo,List.filterMap_map]
  congr 1
  exact K4 l
theorem XQ{t:SetTable}{es:Array (Int × Value)}{n:Nat}(ok:TabOk t):TabOk (relayAll t es n).2.1/\(relayAll t es n).2.1.led=t.led/\(relayAll t es n).1.toList.Perm es.toList:=by
 unfold relayAll;cases e:t.relaid (es.map (·.1)) n with
 |none=>exact⟨(vU _).1,rfl,.refl _⟩
 |some q =>
  obtain⟨t',order⟩:=q;obtain⟨h1,h2,h3,h4⟩:=T6 e;dsimp only
  split
  ·rename_i hc
   rw[dB]at hc;refine⟨⟨h2,λ_=>h1⟩,h3,?_⟩;have hp:order.toList.Perm (List.range es.size):=List.isPerm_iff.mp hc.1;rw[Array.toList_filterMap];refine(hp.filterMap _).trans ?_;have:(List.range es.size).filterMap (λi=>es[i]?)=es.toList:=by
    have:=K4 es.toList;simpa using this
   rw[this]
  ·exact⟨(vU _).1,rfl,.refl _⟩
noncomputable def uI:Value->Int
 |.int k _=>k
 |_=>0
abbrev numsOf (es:Array (Int × Value)):List Int:=es.toList.map λe=>uI e.2
structure fW (prog:Program) (w:World) (es:Array (Int × Value)) (t:SetTable) (ks:List Int):Prop where
 el:ElemsOf (intKind prog w) es.toList
 fits:t.fits es.size=true
 tab:TabOk t
 led:t.led = !w.params.followText "set-order"
 perm:(numsOf es).Perm ks
 nd:ks.Nodup
noncomputable def eP(prog:Program)(w:World)(h:Heap)(a:Addr)(ks:List Int):Prop:=
 ∃o es ep t,h.get? a=some o/\o.ExactSet/\o.data = .set es ep t/\fW prog w es t ks
section
variable {prog:Program} {w:World} {A:Around} {E:Value->Shared->Prop} {s:Shared}
theorem G5{l:List (Int × Value)}(h:ElemsOf (intKind prog w) l){e:Int × Value}(he:e∈l):∃k t,e.2 = .int k t:=by
 obtain⟨⟨k,hk,_⟩,_⟩:=h e he;obtain⟨t,q⟩:=Fs hk;exact⟨k,t,q⟩
theorem fW.size{es:Array (Int × Value)}{t:SetTable}{ks:List Int}(h:fW prog w es t ks):es.size=ks.length:=by
 rw[<- h.perm.length_eq,aB,dq]
theorem fW.mem{es:Array (Int × Value)}{t:SetTable}{ks:List Int}(h:fW prog w es t ks){k:Int}:k∈ks ↔ ∃e∈es.toList,Value.isInt k e.2=true:=by
 rw[<- h.perm.mem_iff,cU]
 constructor
 ·rintro⟨e,he,q⟩
  obtain⟨k',t',q'⟩:=G5 h.el he;rw[q']at q;have:k'=k:=q;subst this;exact⟨e,he,by rw[q'];simp[Value.isInt]⟩
 ·rintro⟨e,he,q⟩
  obtain⟨t',q'⟩:=Fs q;exact⟨e,he,by rw[q'];rfl⟩
noncomputable def jZ(ks:List Int)(k:Int):List Int:=if k∈ks then ks else ks++[k]
theorem fW.lay{es:Array (Int × Value)}{t:SetTable}{ks:List Int}(h:fW prog w es t ks){k:Int}{tk:Tok}(hk:k ∉ ks):fW prog w (layNew t es (hashInt k) (.int k tk)).1 (layNew t es (hashInt k) (.int k tk)).2.1 (ks++[k]):=by
 obtain⟨h1,h2,h3,_⟩:=Jt (es:=es) (h:=hashInt k) (x:=Value.int k tk) h.tab;refine⟨λe he=>?_,layNew_fits _ _ _ _,h1,h2.trans h.led,?_,?_⟩
 ·rcases bu.mp (h3.mem_iff.mp he)with q|q
  ·rw[q]
   exact⟨⟨k,by simp[intKind,Value.isInt],rfl⟩,rfl⟩
  ·exact h.el e q
 ·refine(h3.map _).trans ?_
  rw[cI];exact((h.perm.cons _).trans (Ew _ _).symm)
 ·rw[List.nodup_append]
  refine⟨h.nd,by simp,λx hx y hy z=>hk ?_⟩;rw[<- (show y=k by simpa using hy),<- z];exact hx
theorem fW.XM{es:Array (Int × Value)}{t:SetTable}{ks:List Int}(h:fW prog w es t ks)(n:Nat):fW prog w (relayAll t es n).1 (relayAll t es n).2.1 ks:=by
 obtain⟨h1,h2,h3⟩:=XQ (es:=es) (n:=n) h.tab;exact⟨λe he=>h.el e (h3.mem_iff.mp he),relayAll_fits _ _ _,h1,h2.trans h.led,(h3.map _).trans h.perm,h.nd⟩
theorem stored{a:Addr}{o:Obj}{es es':Array (Int × Value)}{ep:Nat}{t t':SetTable}{ks:List Int}(ho:s.heap.get? a=some o)(hx:o.ExactSet)(hd:o.data = .set es ep t)(h:fW prog w es' t' ks):∃o' ep',(s.heap.update a (Obj.putSet es' t')).get? a=some o'/\o'.ExactSet/\o'.data = .set es' ep' t':=by
 refine⟨_,ep+1,iB _ ho (by rw[putSet_of es' t' hd]<;>rfl),?_,?_⟩
 ·rw[putSet_of es' t' hd];exact hx
 ·rw[putSet_of es' t' hd]
theorem FK{a:Addr}{o:Obj}{es es':Array (Int × Value)}{ep:Nat}{t t':SetTable}{ks:List Int}{g:Bool->Sem Unit}{wd:Bool}{R:Option Bool->Shared->Prop}(hg:∀(b:Bool) (s':Shared) (Q':Unit->Shared->Prop),Q' () s'->wpAny (model prog w) A (g b) Q' E s')
  (ho:s.heap.get? a=some o) (hx:o.ExactSet) (hd:o.data = .set es ep t) (H:fW prog w es' t' ks) (hb:ks.length<scanBound) (h:∀h',Heap.SameBut a s.heap h'->eP prog w h' a ks->R (some true) {s with heap:=h'}) :
  wpAny (model prog w) A (do
    storeSet a es' t'
    if(!wd&&t'.tooFull)=true then do
      g (relayAll t' es' (SetTable.grown es'.size)).2.2
      storeSet a (relayAll t' es' (SetTable.grown es'.size)).1 (relayAll t' es' (SetTable.grown es'.size)).2.1
      pure (some true)
     else pure (some true)) R E s:=by
 have z1:es'.size<scanBound:=by rw[H.size];exact hb
 obtain⟨o1,QK,p1,p2,p3⟩:=stored ho hx hd H;have b1:=wZ s.heap a (Obj.putSet es' t');refine ah (wpAny_storeSet_of ho hd ?_ (fits_of_scanBound z1))
 by_cases c:(!wd&&t'.tooFull)=true
 ·rw[az c]
  have H2:=H.XM (SetTable.grown es'.size);have z2:(relayAll t' es' (SetTable.grown es'.size)).1.size<scanBound:=by rw[H2.size];exact hb
  refine ah (hg _ _ _ (ah (wpAny_storeSet_of p1 p3 (aC ?_) (fits_of_scanBound z2))));obtain⟨o2,QL,r1,r2,r3⟩:=stored (s:={s with heap:=s.heap.update a (Obj.putSet es' t')}) p1 p2 p3 H2;exact h _ (b1.trans (wZ _ a _)) ⟨o2,_,QL,_,r1,r2,r3,H2⟩
 ·rw[au c]
  exact aC (h _ b1 ⟨o1,_,QK,_,p1,p2,p3,H⟩)
theorem add_num{a:Addr}{ks:List Int}{k:Int}{tk:Tok}{Q:Bool->Shared->Prop}(hG:eP prog w s.heap a ks)(hroom:ks.length+1<scanBound)
  (h:∀b h',Heap.SameBut a s.heap h'->eP prog w h' a (jZ ks k)->Q b {s with heap:=h'}):wpAny (model prog w) A (setAddHashed a (.int k tk) (hashInt k)) Q E s:=by
 obtain⟨o,es,ep,t,ho,hx,hd,H⟩:=id hG;have key:(intKind prog w).is k (Value.int k tk)=true:=intKind_is _ _ _ _;have zb:es.size<scanBound:=by rw[H.size];omega
 unfold setAddHashed setAddHashedIn;refine fV (ah (p_ ho hd H.fits ?_));dsimp only;rw[byScan_of (knd:=intKind prog w) (x:=Value.int k tk) rfl zb H.el];simp only[↓reduceIte];unfold setAddByScan;refine ah (ah (n_ (ah (wpAny_setScan_of (knd:=intKind prog w) key ho hd H.fits H.el ?_))))
 by_cases hk:k∈ks
 ·obtain⟨e,he,q⟩:=H.mem.mp hk
  cases hr:es.toList.findIdx? (λe=>(intKind prog w).is k e.2)with
  |none =>
   have:=Ol.mp hr e he;rw[show(intKind prog w).is k e.2=Value.isInt k e.2 from rfl,q]at this;cases this
  |some j =>
   refine aC (aC ?_);have e0:s = {s with heap:=s.heap}:=by cases s;rfl
   rw[e0];refine h false s.heap (Heap.SameBut.refl a s.heap) ?_;unfold jZ;rw[az hk];exact hG
 ·have hr:es.toList.findIdx? (λe=>(intKind prog w).is k e.2)=none:=by
   rw[Ol];intro e he;cases q:(intKind prog w).is k e.2 with
   |false=>rfl
   |true=>exact absurd (H.mem.mpr ⟨e,he,q⟩) hk
  rw[hr];dsimp only;have H1:=H.lay (tk:=tk) hk;have hw:=(Jt (es:=es) (h:=hashInt k) (x:=Value.int k tk) H.tab).2.2.2;have fin:∀h',Heap.SameBut a s.heap h'->eP prog w h' a (ks++[k])->Q true {s with heap:=h'}:=λh' b g=>h true h' b (by unfold jZ;rw[au hk];exact g);have hb':(ks++[k]).length<scanBound:=by rw[dD];exact hroom
  show wpAny _ _ ((match layNew t es (hashInt k) (Value.int k tk)with | (es,t,wasDummy,gave)=>_)>>=_) _ _ _;generalize layNew t es (hashInt k) (Value.int k tk)=N at H1 hw ⊢;obtain⟨es1,t1,wd,gave⟩:=N;dsimp only at H1 hw ⊢;refine ah ?_;have on:∀(b:Bool) (s':Shared) (Q':Unit->Shared->Prop),Q' () s'->wpAny (model prog w) A (match b with|true=>rule "set.scan.the-table-gave-way" |false=>pure ()) Q' E s':=λb s' Q' q=>by
   cases b
   ·exact aC q
   ·exact n_ q
  refine on gave s _ ?_
  by_cases hp:t1.plain=true
  ·rw[az hp]
   refine ah ?_;rw[hashByValue_scannable 8 (x:=Value.int k tk) rfl];refine aC ?_;simp only[plainKind,↓reduceIte];exact FK on ho hx hd H1 hb' λh' b g=>aC (fin h' b g)
  ·rw[au hp]
   refine ah (aC ?_);simp only[↓reduceIte];exact FK on ho hx hd H1 hb' λh' b g=>aC (fin h' b g)
end
noncomputable def numsTo(val:Nat->Int)(i:Nat):List Int:=((List.range i).map val).foldl jZ []
theorem numsTo_succ(val:Nat->Int)(i:Nat):numsTo val (i+1)=jZ (numsTo val i) (val i):=by
 unfold numsTo;rw[nB,gW,List.foldl_append];rfl
theorem Xn(ks:List Int)(k:Int):(jZ ks k).length<=ks.length+1:=by
 unfold jZ
 split
 ·omega
 ·rw[dD]
  exact aO _
theorem J1(val:Nat->Int):∀i,(numsTo val i).length<=i
 |0=>aO _
 |i+1=>by
  rw[numsTo_succ];have h1:=Xn (numsTo val i) (val i);have h2:=J1 val i;omega
theorem eP.moved{prog:Program}{w:World}{h h':Heap}{a:Addr}{ks:List Int}(hG:eP prog w h a ks)(k:∀o,h.get? a=some o->h'.get? a=some o):eP prog w h' a ks:=
 let⟨o,es,ep,t,ho,q⟩:=hG;⟨o,es,ep,t,k o ho,q⟩
section
variable {prog:Program} {w:World} {A:Around} {R:Result->Shared->Prop} {it:Addr} {fp wr:List Addr} {Gn:Array GenState->Array GenState->Prop} {n:Nat} {P:Nat->Value->Prop} {St:Nat->Shared->Prop}
theorem He(W:WalksS prog w A.in1 it fp wr Gn n P St)(a:Addr)(ha:a ∉ fp)(val:Nat->Int)(hv:∀i v,P i v->∃t,v = .int (val i) t)(hb:n+1<scanBound):∀(k i:Nat) (s:Shared),n - i=k->i<=n->St i s->eP prog w s.heap a (numsTo val i)->(∀s',PySem.Moved (a::wr) Gn s s'->eP prog w s'.heap a (numsTo val n)->R (.ok (.ret .none)) s') ->
   codeAny (model prog w) A (.builtin "set.update.loop" ⟨[.ref a,.ref it],[]⟩) R s
 |0,i,s,hk,hi,hst,hG,hR=>by
  have ei:i=n:=by omega
  subst ei;have haw:a ∉ wr:=λh=>ha (W.sub _ h);refine(p8 F.entry_set_update_loop ?_);rw[show _=_ from Ff Fe _];show wpAny _ A.in1 (pyNext (.ref it)>>=_) _ _ s;refine ah (W.done s _ _ hst λs1 hm=>aC (hR s1 (hm.mono λb hb=>bT _ hb) (hG.moved λo e=>hm.heap a o haw e)))
 |k+1,i,s,hk,hi,hst,hG,hR=>by
  have haw:a ∉ wr:=λh=>ha (W.sub _ h);have hlt:i<n:=by omega
  refine(p8 F.entry_set_update_loop ?_);rw[show _=_ from Ff Fe _];show wpAny _ A.in1 (pyNext (.ref it)>>=_) _ _ s;refine ah (W.item i s _ _ hlt hst λv s1 hP Sz hm=>?_);obtain⟨t,rfl⟩:=hv i v hP;have tQ:eP prog w s1.heap a (numsTo val i):=hG.moved λo e=>hm.heap a o haw e;have hl:=J1 val i;show wpAny _ A.in1 (holding [Value.int (val i) t] (setAdd a (.int (val i) t))>>=_) _ _ s1;refine ah (fV ?_);unfold setAdd;refine fV (ah ((intKind prog w).pyHash (k:=val i) (intKind_is _ _ _ _) ?_));refine add_num (s:={s1 with toks:=s1.toks+1}) tQ (by omega) λb h1 hsb hJ=>?_;refine aC ⟨w9 Fe _,He W a ha val hv hb k (i+1) _ (by omega) hlt (W.frame _ s1 _ _ Sz (nE _) λc hc o e=>?_) (by rw[numsTo_succ];exact hJ) λs2 hm2 tS=>?_⟩
  ·rw[hsb.2 c (λh=>ha (by rw[<- h];exact hc))]
   exact e
  ·refine hR s2 (PySem.Moved.trans W.gtrans ((hm.mono λb hb=>bT _ hb).then_heap (nE _) λc o hc e=>?_) hm2) tS
   rw[hsb.2 c (λh=>hc (by rw[h];exact cK))];exact e
end
section
variable {prog:Program} {w:World} {A:Around} {E:Value->Shared->Prop} {s:Shared}
abbrev iP (w:World):Obj:={cls:=.type "set", dict:=none,data:=.set #[] 0 (.fresh 0 0 (!w.params.followText "set-order"))}
theorem U1{h:Heap}{a:Addr}(e:h.get? a=some (iP w)):eP prog w h a []:=
 ⟨_,#[],0,_,e,⟨rfl,rfl,rfl⟩,rfl,λe he=>by simp at he,rfl,Y7 _ _ _,rfl,by simp,by simp⟩
theorem Yg(x:Value){Q1:Value->Shared->Prop}(h:Q1 (.ref s.heap.objs.size) {s with heap:=s.heap.push (iP w)}):
  codeAny (model prog w) A (.call (.builtin "set.__new__") ⟨[.type "set", x],[]⟩) (wants Q1 E) s:=by
 refine Fu (?_:wpAny _ A.in1 (do checkBuiltinCall "set.__new__" ⟨[.type "set", x],[]⟩;again (.builtin "set.__new__" ⟨[.type "set", x],[]⟩)) _ _ s);refine ah (xh (F.newCall_set_1 x) (aC ⟨w9 F.plain_set_new _,(p8 F.entry_set_new ?_)⟩));rw[show _=_ from Ff F.plain_set_new _];unfold Builtin.«set.__new__» Builtin.Frozenset.newClass;have hsub:=sub_set_self;obtain⟨hp,g,d,tk,os⟩:=s;dsimp only
 wp_walk
 refine Fx (aC ?_);dsimp only;simp only[newObj];exact ah (wpAny_alloc (aC (aC h)))
theorem Yh{l:Addr}{its:Array Value}{ns:List Int}{Q:Value->Shared->Prop}(hh:A.handled=none)(hL:s.heap.IsList l its)(hI:IntsAre its.toList ns)(hb:its.size+1<scanBound)
  (h:∀(h':Heap) (tk:Nat),eP prog w h' s.heap.objs.size (numsTo (λi=>ns.getD i 0) its.size)->(∀b o,b<s.heap.objs.size->s.heap.get? b=some o->h'.get? b=some o)->Q (.ref s.heap.objs.size) {s with heap:=h',toks:=tk}) :
  wpAny (model prog w) A (call (.type "set") [.ref l]) Q E s:=by
 obtain⟨c,tl,hmro⟩:=lP.mro;have hmade:=lP.made;have hsub:=lP.sub;refine ku (Fu (?_:wpAny _ _ (callAny (.type "set") _) _ _ _));refine aC ⟨wQ _ (by decide +kernel),(p8 F.entry_type_call ?_)⟩;rw[show _=_ from Around.under_plain (weight_type_call_type "set" [.ref l] []) rfl];have hnT:=lP.notType;have hcC:=lP.canCreate;have hct:=F.typeCall_set_1 (.ref l)
 repeat any_goals first|assumption|wp_step
 refine jL (Yg (.ref l) (E:=E) (Q1:=λobj s1=>obj = .ref s.heap.objs.size/\s1 = {s with heap:=s.heap.push (iP w)}) ⟨rfl,rfl⟩) λr s1 hr=>?_;cases r with
 |error e=>exact hr
 |ok fl =>
  cases fl with
  |ret obj =>
   obtain⟨rfl,rfl⟩:=hr;have gS:(s.heap.push (iP w)).get? s.heap.objs.size=some (iP w):=bR _ rfl;have hT:Shared.TypeIs {s with heap:=s.heap.push (iP w)} (.ref s.heap.objs.size) "set" :=⟨_,gS,rfl⟩;have hli:=lP.init.lookup;have hbi:=lP.init.bind (.ref s.heap.objs.size)
   repeat any_goals first|assumption|wp_step
   refine jL (w8 (R:=wants (λr s2=>r = .none/\∃h' tk,s2 = {s with heap:=h',toks:=tk}/\eP prog w h' s.heap.objs.size (numsTo (λi=>ns.getD i 0) its.size) /\
     (∀b o,b<s.heap.objs.size->s.heap.get? b=some o->h'.get? b=some o)) E) lP.init.plain F.entry_set_init (check_set_init_1 hT ?_)) λr2 s2 hr2=>?_
   ·obtain⟨⟨ocl,odi,oda,osl⟩,hol,hcl,nl,hdl⟩:=hL
    simp only at hcl hdl;subst hcl hdl;have hlS:l<s.heap.objs.size:=aV hol;have hol1:(s.heap.push (iP w)).get? l=some {cls:=.type "list", dict:=odi,data:=.seq its nl,slots:=osl}:=aM _ hol;have hL1:(s.heap.push (iP w)).IsList l its:=⟨_,hol1,rfl,nl,rfl⟩;have q1:=F.sub_list_set;have q2:=F.sub_list_frozenset;have q3:(Value.type "list" == Value.type "dict")=false:=by decide
    unfold Builtin.«set.__init__» noKeywords Builtin.Frozenset.updateFrom;generalize hPI:pyIter=PI
    wp_walk
    subst hPI;refine sG hL1 (ah (wpAny_runValue ?_));have h3:A.in1.in1.in1.handled=none:=by simp[hh]
    have l0:(s.heap.push (iP w)).objs.size=s.heap.objs.size+1:=eM ..;have nI:l≠(s.heap.push (iP w)).objs.size:=by rw[l0];exact bO (sd hlS)
    have nF:s.heap.objs.size ∉ [(s.heap.push (iP w)).objs.size,l]:=by
     rw[l0];intro z
     rcases bu.mp z with z|z
     ·exact absurd z (bO (pV _))
     ·exact absurd (bW.mp z) (gX hlS)
    refine He ((Walks.list h3 _ l nI its).toS) s.heap.objs.size nF (λi=>ns.getD i 0) (λi v hv=>IntsAre.int_at hI i v (by rw[pE];exact hv)) hb its.size 0 _ (by omega) (eK _) ⟨⟨_,bR _ rfl,rfl,rfl⟩,(hL1.push _)⟩ (U1 (aM _ gS)) ?_;intro s3 hm hG;obtain⟨h',g',d',tk',os'⟩:=s3;have eg:g'=s.gens:=hm.gens;have ed:d'=s.drawn:=hm.drawn;have eo:os'=s.os:=hm.os;subst eg ed eo;refine aC (?_:wpAny _ _ (ret Value.none) _ _ _);refine aC ⟨rfl,h',tk',rfl,hG,λb o hb e=>?_⟩;refine hm.heap b o (λz=>?_) (aM _ (aM _ e))
    rcases bu.mp z with z|z
    ·exact absurd z (bO hb)
    ·have:=bW.mp z
     rw[l0]at this;exact absurd this (bO (sd hb))
   ·cases r2 with
    |error e=>exact hr2
    |ok Q7 =>
     cases Q7 with
     |ret r =>
      obtain⟨rfl,h',tk,rfl,hG,hk⟩:=hr2
      repeat any_goals first|assumption|wp_step
      exact h _ _ hG hk
     |_=>exact hr2.elim
  |_=>exact hr.elim
end
theorem iU:Slot "set_iterator" "__next__" "set_iterator.__next__" :=.of (owner:= "set_iterator") (n:= "__next__") (by rw[typeLookup_type,builtinLookup_eq_fast];kernel_rfl) (by decide +kernel) (by decide +kernel) (by decide +kernel) (by first|exact .inl (by decide +kernel)|exact .inr (by decide +kernel)) (by rw[isSubtype_type];kernel_rfl)
theorem tI:entryFor table "set_iterator.__next__" = some Builtin.«set_iterator.__next__»:=entryFor_of_tree (by kernel_rfl)
theorem M7:Slot "set_iterator" "__iter__" "set_iterator.__iter__" :=.of (owner:= "set_iterator") (n:= "__iter__") (by rw[typeLookup_type,builtinLookup_eq_fast];kernel_rfl) (by decide +kernel) (by decide +kernel) (by decide +kernel) (by first|exact .inl (by decide +kernel)|exact .inr (by decide +kernel)) (by rw[isSubtype_type];kernel_rfl)
theorem QJ:entryFor table "set_iterator.__iter__" = some Builtin.«dict_keyiterator.__iter__»:=entryFor_alias (id':= "dict_keyiterator.__iter__") (by kernel_rfl) (by first|rfl|decide +kernel) (by decide +kernel) (by kernel_rfl)
theorem QH:entryFor table "set.__iter__" = some Builtin.«frozenset.__iter__»:=entryFor_alias (id':= "frozenset.__iter__") (by kernel_rfl) (by first|rfl|decide +kernel) (by decide +kernel) (by kernel_rfl)
theorem Ka:Manifest.owners.lookup (String.ofList ['r','o','t','a','r','e','t','i','_','t','e','s'].reverse)=some Manifest.sig_set_iterator:=by kernel_rfl
abbrev iE (h:Heap) (it:Addr) (f0:Value) (i:Nat) (a:Addr) (n ep:Nat):Prop:=
 h.get? it=some {cls:=.type "set_iterator", dict:=none,data:=.fields #[f0,rawInt i,.ref a,rawInt n,rawInt ep],slots:=#[]}
section
variable {prog:Program} {w:World} {A:Around} {E:Value->Shared->Prop} {s:Shared} {it a:Addr} {i n ep:Nat} {es:Array (Int × Value)} {t:SetTable} {o:Obj} {x:Value}
theorem sO (v:Value):argsOk "set_iterator.__next__" ⟨[v],[]⟩:=by
 unfold argsOk;rw[signature?_of (id:= "set_iterator.__next__") (n:=['_','_','t','x','e','n','_','_']) (o:=['r','o','t','a','r','e','t','i','_','t','e','s']) (by kernel_rfl) Ka]
 kernel_rfl
theorem Pr (v:Value):argsOk "set_iterator.__iter__" ⟨[v],[]⟩:=by
 unfold argsOk;rw[signature?_of (id:= "set_iterator.__iter__") (n:=['_','_','r','e','t','i','_','_']) (o:=['r','o','t','a','r','e','t','i','_','t','e','s']) (by kernel_rfl) Ka]
 kernel_rfl
theorem M3{sl nx:Nat}{Q:Option Value->Shared->Prop}(hit:iE s.heap it (rawInt sl) i a es.size ep)(ho:s.heap.get? a=some o)(hd:o.data = .set es ep t)(hf:t.fits es.size=true)(hn:∀{A':Around} {E':Value->Shared->Prop} {Q':Option (Value × Nat)->Shared->Prop},Q' (some (x,nx)) s->wpAny (model prog w) A' (setNext a sl i ep) Q' E' s)
  (hQ:∀h',iE h' it (rawInt nx) (i+1) a es.size ep->Heap.SameBut it s.heap h'->Q (some x) {s with heap:=h'}):wpAny (model prog w) A (pyNext (.ref it)) Q E s:=by
 have hT:s.TypeIs (.ref it) "set_iterator" :=⟨_,hit,rfl⟩;unfold pyNext;refine ah (kr (lT (name:=Str.ofString "__next__") hT iU (jg iU hT tI ?_ (sO _))));show wpAny _ _ (fieldsOf (.ref it)>>=_) _ _ s;refine ah (w_ hit rfl ?_);show wpAny _ _ (setEntries a>>=_) _ _ s;refine ah (sH ho hd hf ?_);dsimp only;rw[au (by simp)];show wpAny _ _ (setNext a (sl:Int).toNat (i:Int).toNat (ep:Int).toNat>>=_) _ _ s;rw[bJ,bJ,bJ];refine ah (hn ?_);dsimp only;refine ah (iD hit (by simp) λh1 hit1 e1=>ah (iD (s:={s with heap:=h1}) hit1 (by simp) λh2 hit2 e2=>?_));exact aC ⟨x,rfl,aC (hQ h2 hit2 (e1.trans e2))⟩
theorem Nk {B:Around} {Q:Fin->Shared->Prop} {E':Value->Shared->Prop} (hh:B.handled=none) (h:∀h' e,(∀b o,s.heap.get? b=some o->h'.get? b=some o)->(∃o,h'.get? e=some o/\o.cls = .type "StopIteration")->E' (.ref e) {s with heap:=h'}) :
  wpAny (model prog w) B (do let x <- newExc (.type "StopIteration") [];raiseNew x) Q E' s:=by
 refine ah ?_;simp only[newExc,newTuple];refine ah (nY ?_ (by size_fits));refine ah (m:=firstArgMember _ _) (xh (a:=Value.none) (by first|rfl | (simp only[firstArgMember];rfl)) ?_);refine nY ?_ (by size_fits);simp only[raiseNew];refine ah (wpAny_handled ?_);rw[hh];refine ah (aC (wpAny_throw ?_));exact h _ _ (λb o e=>aM _ (aM _ e)) ⟨_,bR _ rfl,rfl⟩
theorem M0{sl:Nat}{Q:Option Value->Shared->Prop}(hh:A.handled=none)(hit:iE s.heap it (rawInt sl) i a es.size ep)(ho:s.heap.get? a=some o)(hd:o.data = .set es ep t)(hf:t.fits es.size=true)(hn:∀{A':Around} {E':Value->Shared->Prop} {Q':Option (Value × Nat)->Shared->Prop},Q' none s->wpAny (model prog w) A' (setNext a sl i ep) Q' E' s)
  (hQ:∀h',(∀b o,b≠it->s.heap.get? b=some o->h'.get? b=some o)->Q none {s with heap:=h'}):wpAny (model prog w) A (pyNext (.ref it)) Q E s:=by
 have hT:s.TypeIs (.ref it) "set_iterator" :=⟨_,hit,rfl⟩;unfold pyNext;refine ah (kr (lT (name:=Str.ofString "__next__") hT iU (jg iU hT tI ?_ (sO _))));show wpAny _ _ (fieldsOf (.ref it)>>=_) _ _ s;refine ah (w_ hit rfl ?_);show wpAny _ _ (setEntries a>>=_) _ _ s;refine ah (sH ho hd hf ?_);dsimp only;rw[au (by simp)];show wpAny _ _ (setNext a (sl:Int).toNat (i:Int).toNat (ep:Int).toNat>>=_) _ _ s;rw[bJ,bJ,bJ];refine ah (hn ?_);dsimp only;refine ah (iD hit (by simp) λh1 _ e1=>Nk (s:={s with heap:=h1}) (by first|exact hh | (show A.handled=none;exact hh)) λh2 e k2 he=>?_);obtain⟨oe,hoe,hce⟩:=he;refine ah (xg (T:= "StopIteration") (b:=true) ⟨oe,hoe,hce⟩ isSubtype_stop (aC (hQ h2 λb o hb e'=>k2 b o (e1.extBut b o hb e'))))
end
theorem yy{α:Type}:∀(l:List α) (i:Nat) (h:i<l.length),(l[i]::l.eraseIdx i).Perm l
 |x::l,0,_=>.refl _
 |x::l,i+1,h=>by
  rw[Eh,List.getElem_cons_succ];exact(List.Perm.swap _ _ _).trans ((yy l i (by simpa using h)).cons x)
theorem Kx{α:Type}(f:Nat->Nat):∀(fuel k:Nat) (left:List α) (out:Array α),left.length<=fuel->(pickOrder.go f fuel k left out).toList.Perm (out.toList++left)
 |0,k,left,out,h=>by
  have:left = []:=Oj (by omega);subst this;unfold pickOrder.go;rw[rS]
 |fuel+1,k,left,out,h=>by
  unfold pickOrder.go;cases left with
  |nil=>simp
  |cons y r =>
   have hi:f k % (y::r).length<(y::r).length:=Nat.mod_lt _ (by simp);rw[aK hi];dsimp only;refine(Kx f fuel (k+1) _ _ (by rw[Ov hi];omega)).trans ?_;rw[pF,List.append_assoc];refine List.Perm.append_left _ ?_;exact yy _ _ hi
theorem Bb{α:Type}(f:Nat->Nat)(xs:Array α):(pickOrder f xs).toList.Perm xs.toList:=by
 unfold pickOrder;have:=Kx f xs.size 0 xs.toList #[] (by simp);simpa using this
section
variable {prog:Program} {w:World} {A:Around} {E:Value->Shared->Prop} {s:Shared} {it a:Addr} {i n ep:Nat} {es:Array (Int × Value)} {t:SetTable} {o:Obj} {x:Value}
theorem sU {Q:Bool->Shared->Prop} (h:Q (w.params.followText "set-order") s):wpAny (model prog w) A setsByText Q E s:=by
 unfold setsByText;exact ah (Fx (aC h))
theorem JN {sl:Nat} {Q:Option (Value × Nat)->Shared->Prop} (ho:s.heap.get? a=some o) (hd:o.data = .set es ep t) (hf:t.fits es.size=true) (hT:w.params.followText "set-order" = false) (hp:(!t.plain&&decide (es.size > 1))=false) (hl:t.led=true)
  (h:Q (match es[SetTable.below t.place sl]?,t.place[SetTable.below t.place sl]? with|some (_,x),some j=>some (x,j+1)|_,_=>none) s):wpAny (model prog w) A (setNext a sl i ep) Q E s:=by
 unfold setNext;refine ah (p_ ho hd hf (ah (sU ?_)));rw[hT];show wpAny _ _ (if(!t.plain&&decide (es.size > 1))=true then _ else _) _ _ _;rw[hp];show wpAny _ _ ((if(!t.led&&!es.isEmpty)=true then unsupported _ else pure ())>>=_) _ _ _;rw[hl];exact ah (aC (aC h))
theorem JQ {sl:Nat} {Q:Option (Value × Nat)->Shared->Prop} (ho:s.heap.get? a=some o) (hd:o.data = .set es ep t) (hf:t.fits es.size=true) (hT:w.params.followText "set-order" = true)
  (h:Q (((pickOrder (w.params.setOrder a ep) es)[i]?).map λe=>(e.2,sl)) s):wpAny (model prog w) A (setNext a sl i ep) Q E s:=by
 unfold setNext;refine ah (p_ ho hd hf (ah (sU ?_)));rw[hT];rw[az rfl];dsimp only;rw[au (by simp)];refine ah ?_;unfold setWalk;refine ah (p_ ho hd hf (ah (sU ?_)));rw[hT];show wpAny _ _ (do let y <- ask;pure (pickOrder (y.params.setOrder a ep) es)) _ _ _;exact ah (Fx (aC (aC h)))
theorem Pp{src:Source}{k:Nat}{Q:Nat->Shared->Prop}(hk:k≠0)(h:∀j d',j<k->Q j {s with drawn:=d'}):wpAny (model prog w) A (choose src k) Q E s:=λΓ p _=>by
 unfold choose;rw[Sem.wp_choose];exact⟨hk,h _ _ (Nat.mod_lt _ (Nat.pos_of_ne_zero hk))⟩
theorem GQ{α:Type}:∀(k:Nat) (xs:List α) (s:Shared) (Q:List α->Shared->Prop),k=xs.length->(∀ys d',ys.Perm xs->Q ys {s with drawn:=d'})->wpAny (model prog w) A (drawOrder k xs) Q E s
 |0,xs,s,Q,hk,h=>by
  have:xs = []:=Oj hk.symm;subst this;unfold drawOrder;have:=h [] s.drawn (.refl _);exact aC this
 |k+1,[],s,Q,hk,h=>by cases hk
 |k+1,y::r,s,Q,hk,h=>by
  unfold drawOrder;refine ah (Pp (by simp) λj d' hj=>?_);rw[aK hj];dsimp only;refine ah (GQ k _ _ _ (by rw[Ov hj,<- hk];rfl) λys d2 hp=>?_);exact aC (h _ d2 ((hp.cons _).trans (yy _ _ hj)))
theorem Ym {T:Addr} {items:Array Value} {p:Nat} {hx:Int} {Q:Option Value->Shared->Prop} (hit:iE s.heap it (.ref T) i a es.size ep) (hT':s.heap.get? T=some {cls:=.type "tuple", data:=.seq items}) (ho:s.heap.get? a=some o) (hd:o.data = .set es ep t) (hf:t.fits es.size=true) (h1:items[i]?=some (rawInt p)) (h2:es[p]?=some (hx,x))
  (hQ:∀h',iE h' it (.ref T) (i+1) a es.size ep->Heap.SameBut it s.heap h'->Q (some x) {s with heap:=h'}):wpAny (model prog w) A (pyNext (.ref it)) Q E s:=by
 have hT:s.TypeIs (.ref it) "set_iterator" :=⟨_,hit,rfl⟩;unfold pyNext;refine ah (kr (lT (name:=Str.ofString "__next__") hT iU (jg iU hT tI ?_ (sO _))));show wpAny _ _ (fieldsOf (.ref it)>>=_) _ _ s;refine ah (w_ hit rfl ?_);show wpAny _ _ (setEntries a>>=_) _ _ s;refine ah (sH ho hd hf ?_);dsimp only;rw[au (by simp)];show wpAny _ _ (seqItems? (.ref T)>>=_) _ _ s;refine ah (jM hT' rfl ?_);dsimp only;rw[bJ,h1];show wpAny _ _ (setNextDrawn a (p:Int).toNat (ep:Int).toNat>>=_) _ _ s;rw[bJ,bJ];refine ah ?_;unfold setNextDrawn;refine ah (p_ ho hd hf ?_);dsimp only;rw[au (by simp),h2];refine aC (ah (iD hit (by simp) λh1 hit1 e1=>?_));exact aC ⟨x,rfl,aC (hQ h1 hit1 e1)⟩
theorem Yl {T:Addr} {items:Array Value} {Q:Option Value->Shared->Prop} (hh:A.handled=none) (hit:iE s.heap it (.ref T) i a es.size ep) (hT':s.heap.get? T=some {cls:=.type "tuple", data:=.seq items}) (ho:s.heap.get? a=some o) (hd:o.data = .set es ep t) (hf:t.fits es.size=true) (h1:items[i]?=none)
  (hQ:∀h',(∀b o,b≠it->s.heap.get? b=some o->h'.get? b=some o)->Q none {s with heap:=h'}):wpAny (model prog w) A (pyNext (.ref it)) Q E s:=by
 have hT:s.TypeIs (.ref it) "set_iterator" :=⟨_,hit,rfl⟩;unfold pyNext;refine ah (kr (lT (name:=Str.ofString "__next__") hT iU (jg iU hT tI ?_ (sO _))));show wpAny _ _ (fieldsOf (.ref it)>>=_) _ _ s;refine ah (w_ hit rfl ?_);show wpAny _ _ (setEntries a>>=_) _ _ s;refine ah (sH ho hd hf ?_);dsimp only;rw[au (by simp)];show wpAny _ _ (seqItems? (.ref T)>>=_) _ _ s;refine ah (jM hT' rfl ?_);dsimp only;rw[bJ,h1];refine ah (iD hit (by simp) λg1 hit1 e1=>ah (iD (s:={s with heap:=g1}) hit1 (by simp) λg2 _ e2=>Nk (s:={s with heap:=g2}) (by first|exact hh | (show A.handled=none;exact hh)) λg3 e k3 he=>?_));obtain⟨oe,hoe,hce⟩:=he;refine ah (xg (T:= "StopIteration") (b:=true) ⟨oe,hoe,hce⟩ isSubtype_stop (aC (hQ g3 λb o hb e'=>k3 b o (e2.extBut b o hb (e1.extBut b o hb e')))))
end
inductive ky where
 |tab
 |text
 |draw (T:Addr) (ps:List Nat)
noncomputable def slotAt(ps:Array Nat):Nat->Nat
 |0=>0
 |i+1=>ps.getD i 0+1
noncomputable def xj(m:ky)(it a:Addr)(o:Obj)(es:Array (Int × Value))(ep:Nat)(t:SetTable)(i:Nat)(h:Heap):Prop:=h.get? a=some o/\match m with
 |.tab=>iE h it (rawInt (slotAt t.place i)) i a es.size ep
 |.text=>iE h it (rawInt (0:Nat)) i a es.size ep
 |.draw T ps=>iE h it (.ref T) i a es.size ep/\h.get? T=some {cls:=.type "tuple", data:=.seq (ps.map λp:Nat=>rawInt p).toArray}
noncomputable def sM(w:World)(m:ky)(a:Addr)(es:Array (Int × Value))(ep:Nat):List Value:=match m with
 |.tab=>es.toList.map (·.2)
 |.text=>(pickOrder (w.params.setOrder a ep) es).toList.map (·.2)
 |.draw _ ps=>ps.map λp=>(es.getD p (0,.none)).2
noncomputable def sJ(w:World)(m:ky)(es:Array (Int × Value))(t:SetTable):Prop:=match m with
 |.tab=>w.params.followText "set-order" = false/\(!t.plain&&decide (es.size > 1))=false/\t.led=true/\gE t.place
 |.text=>w.params.followText "set-order" = true
 |.draw _ ps=>ps.Perm (List.range es.size)
noncomputable def gO(m:ky)(it a:Addr):List Addr:=match m with
 |.draw T _=>[it,a,T]
 |_=>[it,a]
theorem Uo{es:Array (Int × Value)}:(List.range es.size).map (λp=>(es.getD p (0,Value.none)).2)=es.toList.map (·.2):=by
 apply ki
 ·simp
 ·intro i h1 h2
  have hi:i<es.size:=by simpa using h1
  simp[Array.getD,hi]
theorem Nr{w:World}{m:ky}{a:Addr}{es:Array (Int × Value)}{ep:Nat}{t:SetTable}(h:sJ w m es t):(sM w m a es ep).Perm (es.toList.map (·.2)):=by
 cases m with
 |tab=>exact .refl _
 |text=>exact(Bb _ es).map _
 |draw T ps =>
  have:=List.Perm.map (λp=>(es.getD p (0,Value.none)).2) h;rw[Uo]at this;exact this
theorem YB{w:World}{m:ky}{a:Addr}{es:Array (Int × Value)}{ep:Nat}{t:SetTable}(h:sJ w m es t):(sM w m a es ep).length=es.size:=by
 rw[(Nr h).length_eq,aB,dq]
section
variable {prog:Program} {w:World} {A:Around} {m:ky} {it a:Addr} {ep:Nat} {es:Array (Int × Value)} {t:SetTable} {o:Obj}
theorem M6(hr:gE t.place){i:Nat}(hi:i<=t.place.size):SetTable.below t.place (slotAt t.place i)=i:=by
 cases i with
 |zero=>exact Pz hr
 |succ i=>exact Py hr (by omega)
theorem Yi(hh:A.handled=none)(hd:o.data = .set es ep t)(hf:t.fits es.size=true)(ok:sJ w m es t)(hne:it≠a)(hT:∀T ps,m = .draw T ps->T≠it):Walks prog w A it (gO m it a) [it] es.size (λi v=>(sM w m a es ep)[i]?=some v) (xj m it a o es ep t) where
 sub:=λb hb=>by
  have:b=it:=bW.mp hb;subst this;cases m<;>simp[gO]
 frame:=λi h h' st k=>by
  obtain⟨h1,h2⟩:=st;cases m with
  |tab=>exact⟨k a (by simp[gO]) _ h1,k it (by simp[gO]) _ h2⟩
  |text=>exact⟨k a (by simp[gO]) _ h1,k it (by simp[gO]) _ h2⟩
  |draw T ps=>exact⟨k a (by simp[gO]) _ h1,k it (by simp[gO]) _ h2.1,k T (by simp[gO]) _ h2.2⟩
 item:=λi s Q E hi st hQ=>by
  have hps:t.place.size=es.size:=by
   unfold SetTable.fits at hf;rw[dB,gZ]at hf;exact hf.1
  obtain⟨h1,h2⟩:=st;have other:∀h',Heap.SameBut it s.heap h'->∀b o,b ∉ [it]->s.heap.get? b=some o->h'.get? b=some o:=λh' e b o hb q=>e.extBut b o (λz=>hb (by rw[z];simp)) q;have same:s = {s with toks:=s.toks}:=by cases s;rfl
  cases m with
  |tab =>
   obtain⟨o1,o2,o3,o4⟩:=ok;have eb:=M6 o4 (i:=i) (by omega);refine M3 (x:=es[i].2) (nx:=t.place.getD i 0+1) h2 h1 hd hf (λ{A' E' Q'} q=>JN h1 hd hf o1 o2 o3 ?_) λh' hit e=>hQ es[i].2 h' s.toks ?_ ⟨other h' e a _ (by simpa using λz=>hne z.symm) h1,hit⟩ (other h' e)
   ·rw[eb,fP hi,fP (by omega)]
    have e2:t.place.getD i 0=t.place[i]'(by omega):=by simp[Array.getD,show i<t.place.size by omega]
    rw[e2]at q;exact q
   ·show(es.toList.map (·.2))[i]?=_
    rw[dR,pE,fP hi];rfl
  |text =>
   have hl:i<(pickOrder (w.params.setOrder a ep) es).size:=by
    have:=(Bb (w.params.setOrder a ep) es).length_eq;rw[dq,dq]at this;omega
   refine M3 (x:=((pickOrder (w.params.setOrder a ep) es)[i]).2) (nx:=0) h2 h1 hd hf (λ{A' E' Q'} q=>JQ h1 hd hf ok ?_) λh' hit e=>hQ _ h' s.toks ?_ ⟨other h' e a _ (by simpa using λz=>hne z.symm) h1,hit⟩ (other h' e)
   ·rw[fP hl]
    exact q
   ·show((pickOrder (w.params.setOrder a ep) es).toList.map (·.2))[i]?=_
    rw[dR,pE,fP hl];rfl
  |draw T ps =>
   have hpl:ps.length=es.size:=by rw[List.Perm.length_eq ok,jG]
   have hp:ps[i]<es.size:=Es.mp (List.Perm.mem_iff ok |>.mp (ja (by omega)));refine Ym (p:=ps[i]) (hx:=es[ps[i]].1) (x:=es[ps[i]].2) h2.1 h2.2 h1 hd hf ?_ ?_ λh' hit e=>hQ _ h' s.toks ?_ ⟨other h' e a _ (by simpa using λz=>hne z.symm) h1,hit,other h' e T _ (by simpa using hT T ps rfl) h2.2⟩ (other h' e)
   ·simp[show i<ps.length by omega]
   ·rw[fP hp]
   ·show(ps.map λp=>(es.getD p (0,Value.none)).2)[i]?=_
    rw[dR,aK (by omega)];simp[Array.getD,hp]
 done:=λs Q E st hQ=>by
  have hps:t.place.size=es.size:=by
   unfold SetTable.fits at hf;rw[dB,gZ]at hf;exact hf.1
  obtain⟨h1,h2⟩:=st;have fin:∀h',(∀b o,b≠it->s.heap.get? b=some o->h'.get? b=some o)->Q none {s with heap:=h'}:=λh' k=>hQ h' s.toks λb o hb q=>k b o (λz=>hb (by rw[z];simp)) q;cases m with
  |tab =>
   obtain⟨o1,o2,o3,o4⟩:=ok;have eb:=M6 o4 (i:=es.size) (by omega);refine M0 hh h2 h1 hd hf (λ{A' E' Q'} q=>JN h1 hd hf o1 o2 o3 ?_) fin;rw[eb,DW (aO _)];exact q
  |text =>
   refine M0 hh h2 h1 hd hf (λ{A' E' Q'} q=>JQ h1 hd hf ok ?_) fin;have:=(Bb (w.params.setOrder a ep) es).length_eq;rw[dq,dq]at this;rw[DW (by omega)];exact q
  |draw T ps =>
   have hpl:ps.length=es.size:=by rw[List.Perm.length_eq ok,jG]
   refine Yl hh h2.1 h2.2 h1 hd hf ?_ fin;simp[hpl]
 self:=λi s Q E st hQ=>by
  have hit:∃f0,iE s.heap it f0 i a es.size ep:=by
   obtain⟨_,h2⟩:=st;cases m with
   |tab=>exact⟨_,h2⟩
   |text=>exact⟨_,h2⟩
   |draw T ps=>exact⟨_,h2.1⟩
  obtain⟨f0,hit⟩:=hit;have hT:s.TypeIs (.ref it) "set_iterator" :=⟨_,hit,rfl⟩;exact wpAny_pyIter_slot hT M7 (jg M7 hT QJ (show wpAny _ _ (ret (.ref it)) _ _ s from aC ⟨_,rfl,"set_iterator", _,hT,iU.lookup,hQ⟩) (Pr _))
end
section
variable {prog:Program} {w:World} {A:Around} {E:Value->Shared->Prop} {s:Shared} {a:Addr} {ep:Nat} {es:Array (Int × Value)} {t:SetTable} {o:Obj} {ks:List Int}
theorem TF{Q:Value->Shared->Prop}(ho:s.heap.get? a=some o)(hx:o.ExactSet)(hd:o.data = .set es ep t)(H:fW prog w es t ks)(hz:es.size<=1000)
  (hQ:∀(m:ky) (it:Addr) (h':Heap) d',sJ w m es t->xj m it a o es ep t 0 h'->it≠a->(∀T ps,m = .draw T ps->T≠it)->s.heap.objs.size<=it->(∀T ps,m = .draw T ps->s.heap.objs.size<=T)->(∀b o,s.heap.get? b=some o->h'.get? b=some o)->Q (.ref it) {s with heap:=h',drawn:=d'}) :
  wpAny (model prog w) A (pyIter (.ref a)) Q E s:=by
 have hT:s.TypeIs (.ref a) "set" :=⟨o,ho,hx.1⟩;refine wpAny_pyIter_slot hT F.slot_set_iter (jg F.slot_set_iter hT QH ?_ (F.args_set_iter_1 _));unfold Builtin.«frozenset.__iter__»;have hsz:∀{s1:Shared} {f0:Value} {Q1:Fin->Shared->Prop},s1.heap.get? a=some o->(Q1 (.done (.ret (.ref s1.heap.objs.size))) {s1 with heap:=s1.heap.push {cls:=.type "set_iterator", data:=.fields #[f0,rawInt (0:Nat),.ref a,rawInt es.size,rawInt ep]}})->wpAny (model prog w) A.in1 (do let e <- setEpoch a;let v <- newFields "set_iterator" [f0,rawInt 0,.ref a,rawInt es.size,rawInt e];ret v) Q1 E s1:=λ{s1 f0 Q1} h1 q=>by
  refine ah (wpAny_setEpoch_of h1 hd H.fits (ah ?_));simp only[newFields];refine nY ?_ (by size_fits);exact aC q
 show wpAny _ _ (Builtin.Frozenset.sizeOf a>>=_) _ _ s;unfold Builtin.Frozenset.sizeOf;refine ah (ah (sH ho hd H.fits (aC ?_)));refine ah ?_;unfold setDrawn;refine ah (p_ ho hd H.fits (ah (sU (aC ?_))));show wpAny _ _ (if(!w.params.followText "set-order" && (!t.plain&&decide (es.size > 1)))=true then _ else _) _ _ s;have hlt:a<s.heap.objs.size:=aV ho;have same:s = {s with drawn:=s.drawn}:=by cases s;rfl
 have HR:∀(f0:Value),iE (s.heap.push {cls:=.type "set_iterator", data:=.fields #[f0,rawInt (0:Nat),.ref a,rawInt es.size,rawInt ep]}) s.heap.objs.size f0 0 a es.size ep:=λf0=>bR _ rfl
 by_cases hc:(!w.params.followText "set-order" && (!t.plain&&decide (es.size > 1)))=true
 ·rw[az hc]
  have hsl:∀k,k<=1000->k<=sizeLine:=λk hk=>dS (lB hk);refine ah (GQ es.size (List.range es.size) s _ (by simp) λps d' hp=>ah (wpAny_newTuple ?_ (by rw[aB,hp.length_eq,jG];exact hsl _ hz)));refine hsz (s1:={s with drawn:=d',heap:=s.heap.push {cls:=.type "tuple", data:=.seq (ps.map λi:Nat=>rawInt i).toArray}}) (f0:=.ref s.heap.objs.size) (aM _ ho) ?_;refine⟨_,rfl,"set_iterator", _,⟨_,bR _ rfl,rfl⟩,iU.lookup,?_⟩;have e1:(s.heap.push {cls:=.type "tuple", data:=.seq (ps.map λi:Nat=>rawInt i).toArray}).objs.size=s.heap.objs.size+1:=eM ..;refine hQ (.draw s.heap.objs.size ps) _ _ d' hp ⟨aM _ (aM _ ho),bR _ rfl,aM _ (bR _ rfl)⟩ ?_ (λT ps' z=>?_) ?_ (λT ps' z=>?_) λb o' e=>aM _ (aM _ e)
  ·show(s.heap.push _).objs.size≠a
   rw[e1];exact gX (sd hlt)
  ·cases z
   show s.heap.objs.size≠(s.heap.push _).objs.size;rw[e1];exact bO (pV _)
  ·show s.heap.objs.size<=(s.heap.push _).objs.size
   rw[e1];exact nE _
  ·cases z
   exact aO _
 ·rw[au hc]
  refine ah (aC (hsz ho ?_));refine⟨_,rfl,"set_iterator", _,⟨_,bR _ rfl,rfl⟩,iU.lookup,?_⟩;have keep:∀b o',s.heap.get? b=some o'->(s.heap.push {cls:=.type "set_iterator", data:=.fields #[rawInt (0:Nat),rawInt (0:Nat),.ref a,rawInt es.size,rawInt ep]}).get? b=some o':=λb o' e=>aM _ e
  by_cases hT2:w.params.followText "set-order" = true
  ·exact hQ .text _ _ s.drawn hT2 ⟨keep a o ho,HR _⟩ (gX hlt) (λT ps z=>nomatch z) (aO _) (λT ps z=>nomatch z) keep
  ·have hT2:w.params.followText "set-order" = false:=by simpa using hT2
   rw[hT2]at hc;have hc:(!t.plain&&decide (es.size > 1))=false:=by simpa using hc
   have hps:t.place.size=es.size:=by
    have:=H.fits;unfold SetTable.fits at this;rw[dB,gZ]at this;exact this.1
   have hr:gE t.place:=by
    cases hp:t.plain with
    |true=>exact H.tab.rise hp
    |false =>
     rw[hp]at hc;have:¬ es.size > 1:=by simpa using hc
     intro i j hij hj;omega
   exact hQ .tab _ _ s.drawn ⟨hT2,hc,by rw[H.led,hT2];rfl,hr⟩ ⟨keep a o ho,HR _⟩ (gX hlt) (λT ps z=>nomatch z) (aO _) (λT ps z=>nomatch z) keep
theorem Sf{Q:Bool->Shared->Prop}(ho:s.heap.get? a=some o)(hx:o.ExactSet)(h:Q false s):wpAny (model prog w) A (Builtin.List.listLengthHint (.ref a)) Q E s:=by
 have hT:s.TypeIs (.ref a) "set" :=⟨o,ho,hx.1⟩;unfold Builtin.List.listLengthHint;refine ah (Fz hT F.slot_set_len.lookup ?_);generalize hid:("set.__len__" : String)=id0
 wp_delta
 rw[show splitId id0=some ("set","__len__")from by subst hid;decide +kernel];subst hid;refine ah (xg (T:= "set") (b:=true) hT sub_set_self ?_);refine Fy (λhq=>absurd hq (by decide)) (λ_=>Fy (λ_=>?_) (λhq=>absurd (by decide +kernel) hq));exact ah (wpAny_typeOf hT (aC h))
theorem Jd:∀vs:List Value,(∀v∈vs,∃k t,v = .int k t)->IntsAre vs (vs.map uI)
 | [],_=>.nil
 |v::vs,h=>by
  obtain⟨k,t,rfl⟩:=h v cK;exact .cons k t (Jd vs λv hv=>h v (bT _ hv))
theorem Qa{R:List Value->Shared->Prop}(hh:A.handled=none)(hG:eP prog w s.heap a ks)(hz:ks.length<=1000)
  (h:∀vs ns h' d' tk,IntsAre vs ns->ns.Perm ks->(∀b o,s.heap.get? b=some o->h'.get? b=some o)->s.toks<=tk->R vs {s with heap:=h',drawn:=d',toks:=tk}):wpAny (model prog w) A (collect (.ref a)) R E s:=by
 obtain⟨o,es,ep,t,ho,hx,hd,H⟩:=hG;have hT:s.TypeIs (.ref a) "set" :=⟨o,ho,hx.1⟩;have hes:es.size<=1000:=by rw[H.size];exact hz
 have hlt:a<s.heap.objs.size:=aV ho;unfold collect;refine ah (wpAny_runValue (p8 entry_proto_collect' ?_));show wpAny _ _ (newList []>>=λl=>again (.builtin "list.__iadd__" ⟨[l,.ref a],[]⟩)) _ _ s;have old:∀b o',s.heap.get? b=some o'->(s.heap.push (seqObj "list" #[] 0)).get? b=some o':=λb o' e=>aM _ e;have gL:(s.heap.push (seqObj "list" #[] 0)).get? s.heap.objs.size=some (seqObj "list" #[] 0):=bR _ rfl;have l0:(s.heap.push (seqObj "list" #[] 0)).objs.size=s.heap.objs.size+1:=eM ..;have haL:s.heap.objs.size≠a:=gX hlt;have add:codeAny (model prog w) A (.builtin "list.__iadd__" ⟨[.ref s.heap.objs.size,.ref a],[]⟩) (λr s'=>r = .ok (.ret (.ref s.heap.objs.size))/\∃h' d' tk acc c' ns,s' = {s with heap:=h',drawn:=d',toks:=tk}/\(∀b o,s.heap.get? b=some o->h'.get? b=some o) /\
   h'.get? s.heap.objs.size=some {cls:=.type "list", dict:=none,data:=.seq acc c',slots:=#[]}/\IntsAre acc.toList ns/\ns.Perm ks/\s.toks<=tk) {s with heap:=s.heap.push (seqObj "list" #[] 0)}:=by
  refine p8 entry_list_iadd' ?_;show wpAny _ A.in1 (Builtin.List.listExtendWith (.ref s.heap.objs.size) (.ref a) (.ref s.heap.objs.size)) _ _ _;unfold Builtin.List.listExtendWith;refine ah (wpAny_typeOf (T:= "set") ⟨o,old a o ho,hx.1⟩ ?_);have q1:Builtin.List.listSameRef (.ref s.heap.objs.size) (.ref a)=false:=by simp[Builtin.List.listSameRef,haL]
  have q2:(Value.type "set" == Value.type "list")=false:=by decide
  have q3:(Value.type "set" == Value.type "tuple")=false:=by decide
  simp only[q1,q2,q3,Ec,rG,oE];refine ah (TF (s:={s with heap:=s.heap.push (seqObj "list" #[] 0)}) (old a o ho) hx hd H hes λm it h1 d1 ok st Sg hTi hge HJ k1=>?_);refine ah (fV (Sf (s:={s with heap:=h1,drawn:=d1}) (k1 a o (old a o ho)) hx ?_));have hge:s.heap.objs.size+1<=it:=by rw[<- l0];exact hge
  have hLi:s.heap.objs.size≠it:=bO hge;have hLf:s.heap.objs.size ∉ gO m it a:=by
   cases m with
   |tab=>simp[gO,hLi,haL]
   |text=>simp[gO,hLi,haL]
   |draw T ps =>
    have:s.heap.objs.size+1<=T:=by rw[<- l0];exact HJ T ps rfl
    have:s.heap.objs.size≠T:=bO this;simp[gO,hLi,haL,this]
  have W:=(Yi (prog:=prog) (A:=A.in1) (by first|exact hh | (show A.handled=none;exact hh)) hd H.fits ok Sg hTi).toS;have key:∀(h2:Heap) (c:Nat),xj m it a o es ep t 0 h2->(∀b o,s.heap.get? b=some o->h2.get? b=some o)->h2.get? s.heap.objs.size=some {cls:=.type "list", data:=.seq #[] c} ->
    codeAny (model prog w) A (.builtin "list.extend.loop" ⟨[.ref s.heap.objs.size,.ref it,.ref s.heap.objs.size],[]⟩) (λr s'=>r = .ok (.ret (.ref s.heap.objs.size))/\∃h' d' tk acc c' ns,s' = {s with heap:=h',drawn:=d',toks:=tk}/\(∀b o,s.heap.get? b=some o->h'.get? b=some o) /\
     h'.get? s.heap.objs.size=some {cls:=.type "list", dict:=none,data:=.seq acc c',slots:=#[]}/\IntsAre acc.toList ns/\ns.Perm ks/\s.toks<=tk) {s with heap:=h2,drawn:=d1}:=λh2 c st2 k2 g2=>by
   refine codeAny_extend_loopS W (dS (lB hes)) s.heap.objs.size hLf (.ref s.heap.objs.size) es.size 0 _ #[] c rfl (eK _) st2 g2 (ItemsOf.nil _) λs' acc c' hm gS hacc=>?_;obtain⟨h',g',d',tk',os'⟩:=s';have eg:g'=s.gens:=hm.gens;have eo:os'=s.os:=hm.os;subst eg eo;have GZ:acc.toList=sM w m a es ep:=by
    apply List.ext_getElem?
    intro j;rw[pE]
    by_cases hj:j<acc.size
    ·have:=hacc.2 j acc[j] (fP hj)
     rw[this,fP hj]
    ·have hl:=YB (a:=a) (ep:=ep) ok
     have h0:=hacc.1;rw[DW (by omega),wA (by omega)]
   have hp:=Nr (a:=a) (ep:=ep) ok;refine⟨rfl,h',d',tk',acc,c',acc.toList.map uI,rfl,λb o' e=>?_,gS,Jd _ λv hv=>?_,?_,hm.toks⟩
   ·have hb:=aV e
    refine hm.heap b o' (λz=>?_) (k2 b o' e)
    rcases bu.mp z with z|z
    ·exact absurd z (bO hb)
    ·exact absurd (bW.mp z) (bO (cg (sd hb) hge))
   ·rw[GZ]at hv
    obtain⟨e,he,rfl⟩:=cU.mp (hp.mem_iff.mp hv);exact G5 H.el he
   ·rw[GZ]
    refine(hp.map uI).trans ?_;rw[iy];exact H.perm
  have k1':∀b o',s.heap.get? b=some o'->h1.get? b=some o':=λb o' e=>k1 b o' (old b o' e);have g1:h1.get? s.heap.objs.size=some {cls:=.type "list", data:=.seq #[] 0}:=k1 _ _ gL;refine Fy (λ_=>?_) (λ_=>aC ⟨w9 F.plain_extend_loop _,key h1 0 st k1' g1⟩);refine ah (n_ (ah ?_));show wpAny _ _ (updateSeq s.heap.objs.size (·.push .none)>>=λ_=>updateSeq s.heap.objs.size (·.pop)) _ _ _;refine ah (wpAny_updateSeq g1 rfl ?_);have g2:=iB (Obj.mapSeq (·.push Value.none)) g1 rfl;refine wpAny_updateSeq (hz:=by seq_fits) g2 rfl ?_;have g3:=iB (Obj.mapSeq (·.pop)) g2 rfl;have oth:∀b o',b≠s.heap.objs.size->h1.get? b=some o'->((h1.update s.heap.objs.size (Obj.mapSeq (·.push Value.none))).update s.heap.objs.size (Obj.mapSeq (·.pop))).get? b=some o':=λb o' hb e=>(jf _ _ (cE hb)).trans ((jf _ _ (cE hb)).trans e);refine aC ⟨w9 F.plain_extend_loop _,key _ _ ?_ (λb o' e=>oth b o' (bO (aV e)) (k1' b o' e)) g3⟩;obtain⟨st1,st2⟩:=st;cases m with
  |tab=>exact⟨oth _ _ (cE haL) st1,oth _ _ (cE hLi) st2⟩
  |text=>exact⟨oth _ _ (cE haL) st1,oth _ _ (cE hLi) st2⟩
  |draw T ps =>
   have R6:s.heap.objs.size+1<=T:=by rw[<- l0];exact HJ T ps rfl
   exact⟨oth _ _ (cE haL) st1,oth _ _ (cE hLi) st2.1,oth _ _ (gX R6) st2.2⟩
 refine ah (wpAny_newList (aC ⟨wQ _ (by decide +kernel),jL add λr s' hr=>?_⟩));obtain⟨rfl,h',d',tk,acc,c',ns,rfl,hk,hS,hi,hp,htk⟩:=hr;show wpAny _ A (load s.heap.objs.size>>=λo=>match o.data with | .seq xs _=>pure xs.toList|_=>unsupported "internal:collect") _ _ _;refine ah (wpAny_load hS ?_);exact aC (h _ ns h' d' tk hi hp hk htk)
end
section
variable {P:Program} {w:World} {H H':Hp} {h:Heap} {p:Addr} {qual:Str} {params:Arguments} {body:Expr} {scope:Scope} {cl:List (Str × Addr)}
end
section
variable {X:Cx} {c P:Addr} {params:Arguments} {body:Expr} {scope:Scope} {pos:Pos}
end
section
variable {P:Program} {w:World} {K:W.Frag} {mg:Str->Option Value} {base:Heap} {A:Around} {outer:List Env} {s:Shared} {H:Hp} {p c:Addr} {qual:Str} {params:Arguments} {body:Expr} {scope:Scope} {cl:List (Str × Addr)}
 {ps fr:List Str} {vs:List V} {us:List Value} {zs:St} {pm ctv:Value} {Q:VK} {t:TE}
end
section
variable {X:Cx} {pins:List (Addr × Obj)} {σ:St} {H:Hp} {s:Shared} {p:Addr} {qual:Str} {params:Arguments} {body:Expr} {scope:Scope} {ps:List Str} {fr:List (Str × Nat)} {A:Around} {t:TE} {Q:VK} {vs:List V} {us:List Value} {E:Value->Shared->Prop}
end
theorem Jc:∀{ns:List Int} {vs:List Value},Vals (ns.map V.int) vs->IntsAre vs ns
 | [],_,.nil=>.nil
 |n::ns,_,.cons r t=>by
  obtain⟨k,rfl⟩:=r;exact .cons n k (Jc t)
section
variable {prog:Program} {w:World} {A:Around} {E:Value->Shared->Prop} {s:Shared} {a kS:Addr} {e1:Nat} {keys:Array Value} {its:List Value} {kz:List Int}
end
section
variable {X:Cx} {pins:List (Addr × Obj)} {σ:St} {H:Hp} {s:Shared} {A:Around} {E:Value->Shared->Prop}
end
section
variable {X:Cx} {pins:List (Addr × Obj)} {σ:St} {G0:Hp} {s:Shared} {A:Around} {E:Value->Shared->Prop} {a kS p:Addr} {e1:Nat} {qual x:Str} {params:Arguments} {body:Expr} {scope:Scope} {fr:List (Str × Nat)} {tb:TE}
 {xs:List V} {its:List Value} {R:PySem.Fin->Shared->Prop} {Kp:Nat->V->Hp->Prop}
end
section
variable {X:Cx} {pins:List (Addr × Obj)} {σ:St} {H:Hp} {s:Shared} {qual x:Str} {params:Arguments} {body:Expr} {scope:Scope} {fr:List (Str × Nat)} {tb:TE} {p:Addr} {v:V} {u:Value} {xs:List V} {kz:List Int} {Q:VK} {E:Value->Shared->Prop}
end
section
variable {X:Cx} {x:Str} {params:Arguments} {body e:Expr} {scope:Scope} {fr:List (Str × Nat)} {tb ti:TE} {c P:Addr} {p0 aah kpos pos:Pos}
end
section
variable {X:Cx} {pins:List (Addr × Obj)} {σ:St} {H:Hp} {s:Shared} {scope:Scope} {v:Str} {fr:List (Str × Nat)} {own:List Str} {fp:List Addr}
end
section
variable {X:Cx} {elt tg iter:Expr} {ifs:List Expr} {scope:Scope} {pos:Pos} {v:Str} {own:List Str} {fr:List (Str × Nat)} {wi:TI} {g:TG} {tc:TT} {te:TE}
end
section
variable {P:Program} {w:World} {K:W.Frag} {mg:Str->Option Value} {base:Heap}
end
section
open PySem.SeqAt
open PySem.AutoSeq1 (wpAny_loadPart')
open PySem.MeetsSeq PySem.MeetsSeq2 PySem.MeetsSeq3
end
section
variable {prog:Program} {w:World} {A:Around} {E:Value->Shared->Prop} {s:Shared}
variable {a₀:Array Keyed}
end
section
variable {X:Cx}
end
noncomputable def Rf:Bool->Keyed->Array Keyed->Nat->Nat->Nat->StateT SortSt Sem (Option Nat):=sortPriv% PySem.Builtin.gallop
noncomputable def Ut:Array Keyed->Array Keyed->StateT SortSt Sem (Array Keyed):=sortPriv% PySem.Builtin.mergeLo
noncomputable def Us:Array Keyed->Array Keyed->StateT SortSt Sem (Array Keyed):=sortPriv% PySem.Builtin.mergeHi
section
variable {prog:Program} {w:World} {A:Around} {E:Value->Shared->Prop} {s:Shared} {κ:SortKind} {g:Keyed->Prop} {N:Nat} {pd:Array (Nat × Nat × Nat)}
structure Safe (κ:SortKind) (g:Keyed->Prop) (N:Nat) (pd:Array (Nat × Nat × Nat)) (st:SortSt):Prop where
 kind:kindOf st=κ
 failed:failedOf st=none
 size:(arrOf st).size=N
 all:∀p∈arrOf st,g p
 pend:pendingOf st=pd
noncomputable def jc(prog:Program)(w:World)(A:Around)(s:Shared)(κ:SortKind)(g:Keyed->Prop):Prop:=∀x y,g x->g y->∃b:Bool,∀{E:Value->Shared->Prop} (Q:Bool->Shared->Prop),Q b s->wpAny (model prog w) A (keyLt' κ x.1 y.1) Q E s
theorem m8{x y:Keyed}{st:SortSt}{Q:Option Bool->SortSt->Prop}(ok:jc prog w A s κ g)(S:Safe κ g N pd st)(gx:g x)(gy:g y)(h:∀b,Q (some b) st):wpS (model prog w) A E s ((sortPriv% PySem.Builtin.lt) x y) Q st:=by
 show wpS _ _ _ _ (lt' x y) _ _;obtain⟨b,hb⟩:=ok x y gx gy;rw[lt'_eq];refine ax (iA ?_);rw[S.kind];refine ax (wpS_lift (kr (hb _ ⟨rfl,?_⟩)));exact aL (h b)
theorem fO{arr:Array Keyed}{i:Nat}{st:SortSt}{Q:Keyed->SortSt->Prop}(ga:∀p∈arr,g p)(hi:i<arr.size)(h:∀p,g p->Q p st):wpS (model prog w) A E s ((sortPriv% PySem.Builtin.elem) arr i) Q st:=by
 show wpS _ _ _ _ (elem' arr i) _ _;rw[elem'_eq,tP arr i hi];exact aL (h _ (ga _ (DX hi)))
theorem iV{i j:Nat}{st:SortSt}{Q:Option Bool->SortSt->Prop}(ok:jc prog w A s κ g)(S:Safe κ g N pd st)(hi:i<N)(hj:j<N)(h:∀b,Q (some b) st):wpS (model prog w) A E s (ltAt' i j) Q st:=by
 rw[ltAt'_eq];refine ax (iA ?_);show wpS _ _ _ _ (do let x <- elem' (arrOf st) i;let y <- elem' (arrOf st) j;lt' x y) Q st;exact ax (fO S.all (by rw[S.size];exact hi) λx gx=>ax (fO S.all (by rw[S.size];exact hj) λy gy=>m8 ok S gx gy h))
theorem Safe.arr{st:SortSt}{xs:Array Keyed}(S:Safe κ g N pd st)(h:xs.Perm (arrOf st)):Safe κ g N pd (setArr st xs):=
 ⟨S.kind,S.failed,h.size_eq.trans S.size,λp hp=>S.all p (h.mem_iff.mp hp),S.pend⟩
theorem j8{i j:Nat}{st:SortSt}{Q:Unit->SortSt->Prop}(S:Safe κ g N pd st)(h:∀st',Safe κ g N pd st'->Q () st'):wpS (model prog w) A E s (reverseSlice' i j) Q st:=by
 rw[reverseSlice'_eq];exact jJ (h _ (S.arr (mirror_perm _ _ _ _)))
theorem ZD{i j:Nat}{st:SortSt}{Q:Unit->SortSt->Prop}(S:Safe κ g N pd st)(h:∀st',Safe κ g N pd st'->Q () st'):wpS (model prog w) A E s (moveDown' i j) Q st:=by
 rw[moveDown'_eq];exact jJ (h _ (S.arr (bubble_perm _ _ _)))
theorem m_{r:String}{st:SortSt}{Q:Unit->SortSt->Prop}(h:Q () st):wpS (model prog w) A E s (liftM (rule r):StateT SortSt Sem Unit) Q st:=wpS_lift (n_ ⟨rfl,h⟩)
theorem jA{left:Bool}{key:Keyed}{arr:Array Keyed}{base n hint:Nat}{st:SortSt}{Q:Option Nat->SortSt->Prop}(ok:jc prog w A s κ g)(S:Safe κ g N pd st)(gk:g key)(ga:∀p∈arr,g p)(h1:hint<n)(h2:base+n<=arr.size)(h:∀k,k<=n->Q (some k) st):wpS (model prog w) A E s ((sortPriv% PySem.Builtin.gallop) left key arr base n hint) Q st:=by
 show wpS _ _ _ _ (Rf left key arr base n hint) _ _;have B:∀i (Q:Option Bool->SortSt->Prop),i<n->(∀b,Q (some b) st)->wpS (model prog w) A E s (do
   let x <- elem' arr (base+i)
   if left=true then lt' x key
   else do
    let y <- lt' key x
    pure (Option.map (λx=>!x) y)) Q st:=by
  intro i Q hi hq;refine ax (fO ga (by omega) λx gx=>?_);cases left
  ·simp only[rG,oE]
   exact ax (m8 ok S gk gx λb=>aL (hq _))
  ·simp only[mE]
   exact m8 ok S gx gk hq
 refine ax (B _ _ h1 λright=>?_);dsimp only
 split
 ·refine ax (dj (di (I:=λ_ c st'=>st=st'/\∃l r,c=(none,l,r)) (Q:=λc st'=>st=st'/\∃l r,c=(none,l,r)) ?_ (λ_ _ z=>z) ⟨rfl,0,1,rfl⟩) ?_)
  ·rintro i c st' _ _ ⟨rfl,l,r,rfl⟩
   dsimp only
   split
   ·exact aL ⟨rfl,l,r,rfl⟩
   ·refine ax (B _ _ (by omega) λb=>?_)
    dsimp only
    split
    ·exact aL ⟨rfl,_,_,rfl⟩
    ·exact aL ⟨rfl,_,_,rfl⟩
  ·rintro c st' ⟨rfl,l,r,rfl⟩
   try dsimp only
   refine ax (dj (di (I:=λ_ c st'=>st=st'/\∃l r,c=(none,l,r)/\r<=n) (Q:=λc st'=>st=st'/\∃l r,c=(none,l,r)/\r<=n) ?_ (λ_ _ z=>z) ⟨rfl,_,_,rfl,by omega⟩) ?_)
   ·rintro i c st' _ _ ⟨rfl,l,r,rfl,hr⟩
    dsimp only
    split
    ·exact aL ⟨rfl,l,r,rfl,hr⟩
    ·refine ax (B _ _ (by omega) λb=>?_)
     dsimp only
     split
     ·exact aL ⟨rfl,_,_,rfl,hr⟩
     ·exact aL ⟨rfl,_,_,rfl,by omega⟩
   ·rintro c st' ⟨rfl,l,r,rfl,hr⟩
    exact aL (h r hr)
 ·refine ax (dj (di (I:=λ_ c st'=>st=st'/\∃l r,c=(none,l,r)) (Q:=λc st'=>st=st'/\∃l r,c=(none,l,r)) ?_ (λ_ _ z=>z) ⟨rfl,0,1,rfl⟩) ?_)
  ·rintro i c st' _ _ ⟨rfl,l,r,rfl⟩
   dsimp only
   split
   ·exact aL ⟨rfl,l,r,rfl⟩
   ·refine ax (B _ _ (by omega) λb=>?_)
    dsimp only
    split
    ·exact aL ⟨rfl,_,_,rfl⟩
    ·exact aL ⟨rfl,_,_,rfl⟩
  ·rintro c st' ⟨rfl,l,r,rfl⟩
   try dsimp only
   refine ax (dj (di (I:=λ_ c st'=>st=st'/\∃l r,c=(none,l,r)/\r<=n) (Q:=λc st'=>st=st'/\∃l r,c=(none,l,r)/\r<=n) ?_ (λ_ _ z=>z) ⟨rfl,_,_,rfl,by omega⟩) ?_)
   ·rintro i c st' _ _ ⟨rfl,l,r,rfl,hr⟩
    dsimp only
    split
    ·exact aL ⟨rfl,l,r,rfl,hr⟩
    ·refine ax (B _ _ (by omega) λb=>?_)
     dsimp only
     split
     ·exact aL ⟨rfl,_,_,rfl,hr⟩
     ·exact aL ⟨rfl,_,_,rfl,by omega⟩
   ·rintro c st' ⟨rfl,l,r,rfl,hr⟩
    exact aL (h r hr)
theorem Zy{lo nrem:Nat}{st:SortSt}{Q:Option Nat->SortSt->Prop}(ok:jc prog w A s κ g)(S:Safe κ g N pd st)(h1:1<=nrem)(h2:lo+nrem<=N)(h:∀k st',1<=k->k<=nrem->Safe κ g N pd st'->Q (some k) st'):wpS (model prog w) A E s (countRun' lo nrem) Q st:=by
 try dsimp only
 refine ax (dj (di (I:=λi c st'=>Safe κ g N pd st'/\∃m,c=(none,m)/\1<=m/\m<=i/\m<=nrem) (Q:=λc st'=>Safe κ g N pd st'/\∃m,c=(none,m)/\1<=m/\m<=nrem) ?_ (λ_ _ ⟨z,m,e,z1,_,z2⟩=>⟨z,m,e,z1,z2⟩) ⟨by assumption,_,rfl,by omega,by omega,by omega⟩) ?_)
 ·rintro i c st' _ hi ⟨S',m,rfl,z1,z2,z3⟩
  dsimp only;refine ax (iV ok S' (by omega) (by omega) λb=>?_);dsimp only
  split
  ·exact aL ⟨S',_,rfl,z1,z3⟩
  ·exact aL ⟨S',_,rfl,by omega,by omega,by omega⟩
 rintro c st2 ⟨S2,m,rfl,z1,z2⟩;clear S;dsimp only
 split
 ·exact aL (h _ _ z1 z2 S2)
 ·rename_i hne
  have hne':m≠nrem:=λe=>hne (by simp[e])
  split
  ·refine ax (iV ok S2 (by omega) (by omega) λb=>?_)
   dsimp only
   split
   ·exact aL (h _ _ z1 z2 S2)
   ·refine ax (j8 S2 λst3 S3=>?_)
    clear S2
    try dsimp only
    refine ax (m_ ?_);refine ax (dj (di (I:=λi c st'=>Safe κ g N pd st'/\∃m q,c=(none,m,q)/\1<=m/\m<=i/\m<=nrem) (Q:=λc st'=>Safe κ g N pd st'/\∃m q,c=(none,m,q)/\1<=m/\m<=nrem) ?_ (λ_ _ ⟨z,m,q,e,z1,_,z2⟩=>⟨z,m,q,e,z1,z2⟩) ⟨by assumption,_,_,rfl,by omega,by omega,by omega⟩) ?_)
    ·rintro i c st' _ hi ⟨S',m,q,rfl,z1,z2,z3⟩
     dsimp only;refine ax (iV ok S' (by omega) (by omega) λb=>?_);dsimp only
     split
     ·split
      ·exact ax (j8 S' λrq S8=>aL ⟨S8,_,_,rfl,by omega,by omega,by omega⟩)
      ·exact aL ⟨S',_,_,rfl,by omega,by omega,by omega⟩
     ·refine ax (iV ok S' (by omega) (by omega) λb2=>?_)
      dsimp only
      split
      ·exact aL ⟨S',_,_,rfl,by omega,by omega⟩
      ·exact aL ⟨S',_,_,rfl,by omega,by omega,by omega⟩
    ·rintro c Yx ⟨S7,m7,q7,rfl,x1,x2⟩
     dsimp only
     split
     ·refine ax (j8 S7 λYw S6=>?_)
      clear S7
      try dsimp only
      refine ax (j8 (by assumption) λrq S8=>?_)
      try dsimp only
      refine ax (dj (di (I:=λi c st'=>Safe κ g N pd st'/\∃m,c=(none,m)/\1<=m/\m<=i/\m<=nrem) (Q:=λc st'=>Safe κ g N pd st'/\∃m,c=(none,m)/\1<=m/\m<=nrem) ?_ (λ_ _ ⟨z,m,e,z1,_,z2⟩=>⟨z,m,e,z1,z2⟩) ⟨by assumption,_,rfl,by omega,by omega,by omega⟩) ?_)
      ·rintro i c st' _ hi ⟨S',m,rfl,z1,z2,z3⟩
       dsimp only;refine ax (iV ok S' (by omega) (by omega) λb=>?_);dsimp only
       split
       ·exact aL ⟨S',_,rfl,z1,z3⟩
       ·exact aL ⟨S',_,rfl,by omega,by omega,by omega⟩
      rintro c Dn ⟨S9,m9,rfl,y1,y2⟩;exact aL (h _ _ y1 y2 S9)
     ·try dsimp only
      refine ax (j8 (by assumption) λrq S8=>?_)
      try dsimp only
      refine ax (dj (di (I:=λi c st'=>Safe κ g N pd st'/\∃m,c=(none,m)/\1<=m/\m<=i/\m<=nrem) (Q:=λc st'=>Safe κ g N pd st'/\∃m,c=(none,m)/\1<=m/\m<=nrem) ?_ (λ_ _ ⟨z,m,e,z1,_,z2⟩=>⟨z,m,e,z1,z2⟩) ⟨by assumption,_,rfl,by omega,by omega,by omega⟩) ?_)
      ·rintro i c st' _ hi ⟨S',m,rfl,z1,z2,z3⟩
       dsimp only;refine ax (iV ok S' (by omega) (by omega) λb=>?_);dsimp only
       split
       ·exact aL ⟨S',_,rfl,z1,z3⟩
       ·exact aL ⟨S',_,rfl,by omega,by omega,by omega⟩
      rintro c Dn ⟨S9,m9,rfl,y1,y2⟩;exact aL (h _ _ y1 y2 S9)
  ·try dsimp only
   refine ax (m_ ?_);refine ax (dj (di (I:=λi c st'=>Safe κ g N pd st'/\∃m q,c=(none,m,q)/\1<=m/\m<=i/\m<=nrem) (Q:=λc st'=>Safe κ g N pd st'/\∃m q,c=(none,m,q)/\1<=m/\m<=nrem) ?_ (λ_ _ ⟨z,m,q,e,z1,_,z2⟩=>⟨z,m,q,e,z1,z2⟩) ⟨by assumption,_,_,rfl,by omega,by omega,by omega⟩) ?_)
   ·rintro i c st' _ hi ⟨S',m,q,rfl,z1,z2,z3⟩
    dsimp only;refine ax (iV ok S' (by omega) (by omega) λb=>?_);dsimp only
    split
    ·split
     ·exact ax (j8 S' λrq S8=>aL ⟨S8,_,_,rfl,by omega,by omega,by omega⟩)
     ·exact aL ⟨S',_,_,rfl,by omega,by omega,by omega⟩
    ·refine ax (iV ok S' (by omega) (by omega) λb2=>?_)
     dsimp only
     split
     ·exact aL ⟨S',_,_,rfl,by omega,by omega⟩
     ·exact aL ⟨S',_,_,rfl,by omega,by omega,by omega⟩
   ·rintro c Yx ⟨S7,m7,q7,rfl,x1,x2⟩
    dsimp only
    split
    ·refine ax (j8 S7 λYw S6=>?_)
     clear S7
     try dsimp only
     refine ax (j8 (by assumption) λrq S8=>?_)
     try dsimp only
     refine ax (dj (di (I:=λi c st'=>Safe κ g N pd st'/\∃m,c=(none,m)/\1<=m/\m<=i/\m<=nrem) (Q:=λc st'=>Safe κ g N pd st'/\∃m,c=(none,m)/\1<=m/\m<=nrem) ?_ (λ_ _ ⟨z,m,e,z1,_,z2⟩=>⟨z,m,e,z1,z2⟩) ⟨by assumption,_,rfl,by omega,by omega,by omega⟩) ?_)
     ·rintro i c st' _ hi ⟨S',m,rfl,z1,z2,z3⟩
      dsimp only;refine ax (iV ok S' (by omega) (by omega) λb=>?_);dsimp only
      split
      ·exact aL ⟨S',_,rfl,z1,z3⟩
      ·exact aL ⟨S',_,rfl,by omega,by omega,by omega⟩
     rintro c Dn ⟨S9,m9,rfl,y1,y2⟩;exact aL (h _ _ y1 y2 S9)
    ·try dsimp only
     refine ax (j8 (by assumption) λrq S8=>?_)
     try dsimp only
     refine ax (dj (di (I:=λi c st'=>Safe κ g N pd st'/\∃m,c=(none,m)/\1<=m/\m<=i/\m<=nrem) (Q:=λc st'=>Safe κ g N pd st'/\∃m,c=(none,m)/\1<=m/\m<=nrem) ?_ (λ_ _ ⟨z,m,e,z1,_,z2⟩=>⟨z,m,e,z1,z2⟩) ⟨by assumption,_,rfl,by omega,by omega,by omega⟩) ?_)
     ·rintro i c st' _ hi ⟨S',m,rfl,z1,z2,z3⟩
      dsimp only;refine ax (iV ok S' (by omega) (by omega) λb=>?_);dsimp only
      split
      ·exact aL ⟨S',_,rfl,z1,z3⟩
      ·exact aL ⟨S',_,rfl,by omega,by omega,by omega⟩
     rintro c Dn ⟨S9,m9,rfl,y1,y2⟩;exact aL (h _ _ y1 y2 S9)
theorem Zx{lo n k:Nat}{st:SortSt}{Q:Bool->SortSt->Prop}(ok:jc prog w A s κ g)(S:Safe κ g N pd st)(h2:lo+n<=N)(h:∀st',Safe κ g N pd st'->Q true st'):wpS (model prog w) A E s (binarySort' lo n k) Q st:=by
 refine ax (dj (di (I:=λ_ c st'=>Safe κ g N pd st'/\c=(none,())) (Q:=λc st'=>Safe κ g N pd st'/\c=(none,())) ?_ (λ_ _ z=>z) ⟨S,rfl⟩) ?_)
 ·rintro i c st' _ hi ⟨S',rfl⟩
  refine ax (dj (di (I:=λ_ c st'=>Safe κ g N pd st'/\∃l r,c=(none,l,r)/\r<=i) (Q:=λc st'=>Safe κ g N pd st'/\∃l r,c=(none,l,r)/\r<=i) ?_ (λ_ _ z=>z) ⟨S',_,_,rfl,aO _⟩) ?_)
  ·rintro i2 c st' _ _ ⟨S',l,r,rfl,hr⟩
   dsimp only
   split
   ·exact aL ⟨S',l,r,rfl,hr⟩
   ·refine ax (iV ok S' (by omega) (by omega) λb=>?_)
    dsimp only
    split
    ·exact aL ⟨S',_,_,rfl,by omega⟩
    ·exact aL ⟨S',_,_,rfl,hr⟩
  ·rintro c st2 ⟨S2,l,r,rfl,hr⟩
   exact ax (ZD S2 λst3 S3=>aL ⟨S3,rfl⟩)
 ·rintro c st' ⟨S',rfl⟩
  exact aL (h _ S')
theorem fB{M:Model}{σ α:Type}{c:Prop}[Decidable c]{x y:StateT σ Sem α}{Q:α->σ->Prop}{st:σ}(h1:c->wpS M A E s x Q st)(h2:¬c->wpS M A E s y Q st):wpS M A E s (if c then x else y) Q st:=by
 by_cases h:c
 ·rw[az h];exact h1 h
 ·rw[au h];exact h2 h
theorem il{M:Model}{σ α:Type}{i j:Nat}{x y:StateT σ Sem α}{Q:α->σ->Prop}{st:σ}(h1:i=j->wpS M A E s x Q st)(h2:i≠j->wpS M A E s y Q st):wpS M A E s (if(i==j)=true then x else y) Q st:=
 fB (λe=>h1 (by simpa using e)) λe=>h2 (by simpa using e)
noncomputable def GA(g:Keyed->Prop)(xs:Array Keyed):Prop:=∀p∈xs,g p
theorem GA.app{xs ys:Array Keyed}(h1:GA g xs)(h2:GA g ys):GA g (xs++ys):=λp hp=>(Array.mem_append.mp hp).elim (h1 p) (h2 p)
theorem GA.eI{xs:Array Keyed}{x:Keyed}(h1:GA g xs)(h2:g x):GA g (xs.push x):=λp hp=>(Array.mem_push.mp hp).elim (h1 p) λe=>e▸h2
theorem GA.ext{xs:Array Keyed}{i j:Nat}(h1:GA g xs):GA g (xs.extract i j):=λp hp=>h1 p (by
 obtain⟨k,hk,e⟩:=Oc.mp hp;rw[Array.getElem_extract]at e;exact e▸DX _)
theorem GA.rev{xs:Array Keyed}(h1:GA g xs):GA g xs.reverse:=λp hp=>h1 p (Array.mem_reverse.mp hp)
theorem GA.one{x:Keyed}(h:g x):GA g #[x]:=λp hp=>by
 rw[Array.mem_singleton]at hp;exact hp▸h
noncomputable def Ye:Nat->StateT SortSt Sem Unit:=sortPriv% PySem.Builtin.setMinGallop
theorem pD{k:Nat}{st:SortSt}{Q:Unit->SortSt->Prop}(S:Safe κ g N pd st)(h:∀st',Safe κ g N pd st'->Q () st'):wpS (model prog w) A E s ((sortPriv% PySem.Builtin.setMinGallop) k) Q st:=by
 show wpS _ _ _ _ (Ye k) _ _;exact jJ (h _ ⟨S.kind,S.failed,S.size,S.all,S.pend⟩)
theorem ZC{a b:Array Keyed}{st:SortSt}{Q:Array Keyed->SortSt->Prop}(ok:jc prog w A s κ g)(S:Safe κ g N pd st)(ga:∀p∈a,g p)(gb:∀p∈b,g p)(h1:1<=a.size)(h2:1<=b.size)(h:∀out st',GA g out->Safe κ g N pd st'->Q out st'):wpS (model prog w) A E s (Ut a b) Q st:=by
 have d5:GA g a:=ga;have d6:GA g b:=gb;refine ax (m_ ?_);refine ax (fO gb (by omega) λp gp=>?_);dsimp only;refine il (λq1=>?_) (λq1=>?_)
 ·exact aL (h _ _ (by(with_reducible repeat (first|assumption|exact GA.ext d5|exact GA.ext d6|exact GA.one (by assumption)|refine GA.app ?_ ?_|refine GA.eI ?_ ?_|refine GA.rev ?_))) S)
 ·refine il (λq2=>?_) (λq2=>?_)
  ·exact aL (h _ _ (by(with_reducible repeat (first|assumption|exact GA.ext d5|exact GA.ext d6|exact GA.one (by assumption)|refine GA.app ?_ ?_|refine GA.eI ?_ ?_|refine GA.rev ?_))) S)
  ·refine ax (iA ?_)
   refine ax (dj (di (I:=λi c st'=>Safe κ g N pd st'/\∃out ia ib r,c=(none,out,ia,ib,r)/\GA g out/\ia+1<a.size/\ib<b.size/\i+1<=ia+ib)
    (Q:=λc st'=>Safe κ g N pd st'/\∃r x,c=(some r,x)/\GA g r) ?_ ?_ ⟨S,_,_,_,_,rfl,by(with_reducible repeat (first|assumption|exact GA.ext d5|exact GA.ext d6|exact GA.one (by assumption)|refine GA.app ?_ ?_|refine GA.eI ?_ ?_|refine GA.rev ?_)),by omega,by omega,by omega⟩) ?_)
   ·rintro i c st1 _ hi ⟨S1,out,ia,ib,mg,rfl,go,z1,z2,z3⟩
    dsimp only;refine ax (dj (di (I:=λi c st'=>Safe κ g N pd st'/\∃out fJ fK r,c=(none,out,fJ,fK,r)/\GA g out/\fJ+1<a.size/\fK<b.size/\ia+ib+min i 1<=fJ+fK)
     (Q:=λc st'=>Safe κ g N pd st'/\((∃r x,c=(some r,x)/\GA g r)\/∃out fJ fK r,c=(none,out,fJ,fK,r)/\GA g out/\fJ+1<a.size/\fK<b.size/\ia+ib+1<=fJ+fK)) ?_ ?_ ⟨S1,_,_,_,_,rfl,go,z1,z2,by omega⟩) ?_)
    ·rintro i2 c st2 _ hi2 ⟨S2,jX,ug,uh,⟨ac,bc⟩,rfl,go2,y1,y2,y3⟩
     dsimp only
     repeat' (first
      |with_reducible refine il (λ_=>?_) (λ_=>?_)
      |with_reducible refine fB (λ_=>?_) (λ_=>?_)
      |with_reducible refine ax (fO ga (by omega) λ_ _=>?_)
      |with_reducible refine ax (fO gb (by omega) λ_ _=>?_)
      |with_reducible refine ax (m8 ok (by assumption) (by assumption) (by assumption) λ_=>?_)
      |with_reducible refine ax (pD (by assumption) λ_ _=>?_)
      |with_reducible refine ax (jA ok (by assumption) (by assumption) ga (by omega) (by omega) λ_ _=>?_)
      |with_reducible refine ax (jA ok (by assumption) (by assumption) gb (by omega) (by omega) λ_ _=>?_)
      |dsimp only
      | (refine aL ⟨by assumption,?_⟩;first
        |exact .inl ⟨_,_,rfl,by(with_reducible repeat (first|assumption|exact GA.ext d5|exact GA.ext d6|exact GA.one (by assumption)|refine GA.app ?_ ?_|refine GA.eI ?_ ?_|refine GA.rev ?_))⟩
        |exact .inr ⟨_,_,_,_,rfl,by(with_reducible repeat (first|assumption|exact GA.ext d5|exact GA.ext d6|exact GA.one (by assumption)|refine GA.app ?_ ?_|refine GA.eI ?_ ?_|refine GA.rev ?_)),by omega,by omega,by omega⟩
        |exact⟨_,_,_,_,rfl,by(with_reducible repeat (first|assumption|exact GA.ext d5|exact GA.ext d6|exact GA.one (by assumption)|refine GA.app ?_ ?_|refine GA.eI ?_ ?_|refine GA.rev ?_)),by omega,by omega,by omega⟩))
    ·rintro c st2 ⟨S2,jX,ug,uh,r,rfl,go2,y1,y2,y3⟩
     exact⟨S2,.inr ⟨_,_,_,_,rfl,go2,y1,y2,by omega⟩⟩
    ·rintro c st2 ⟨S2,⟨r,x,rfl,gr⟩|⟨jX,ug,uh,⟨ac,bc⟩,rfl,go2,y1,y2,y3⟩⟩
     ·exact aL ⟨S2,_,_,rfl,gr⟩
     ·dsimp only
      refine ax (m_ ?_);refine ax (dj (di (I:=λi c st'=>Safe κ g N pd st'/\∃out fJ fK r,c=(none,out,fJ,fK,r)/\GA g out/\fJ+1<a.size/\fK<b.size/\ia+ib+1<=fJ+fK)
       (Q:=λc st'=>Safe κ g N pd st'/\((∃r x,c=(some r,x)/\GA g r)\/∃out fJ fK r,c=(none,out,fJ,fK,r)/\GA g out/\fJ+1<a.size/\fK<b.size/\ia+ib+1<=fJ+fK)) ?_ ?_ ⟨S2,_,_,_,_,rfl,go2,y1,y2,y3⟩) ?_)
      ·rintro i3 c st3 _ HQ ⟨S3,Av,Te,Tf,⟨Ah,xo,xt⟩,rfl,qt,x1,x2,x3⟩
       dsimp only;clear S1 S2 S go go2
       repeat' (first
        |with_reducible refine il (λ_=>?_) (λ_=>?_)
        |with_reducible refine fB (λ_=>?_) (λ_=>?_)
        |with_reducible refine ax (fO ga (by omega) λ_ _=>?_)
        |with_reducible refine ax (fO gb (by omega) λ_ _=>?_)
        |with_reducible refine ax (m8 ok (by assumption) (by assumption) (by assumption) λ_=>?_)
        |with_reducible refine ax (pD (by assumption) λ_ _=>?_)
        |with_reducible refine ax (jA ok (by assumption) (by assumption) ga (by omega) (by omega) λ_ _=>?_)
        |with_reducible refine ax (jA ok (by assumption) (by assumption) gb (by omega) (by omega) λ_ _=>?_)
        |dsimp only
        | (refine aL ⟨by assumption,?_⟩;first
          |exact .inl ⟨_,_,rfl,by(with_reducible repeat (first|assumption|exact GA.ext d5|exact GA.ext d6|exact GA.one (by assumption)|refine GA.app ?_ ?_|refine GA.eI ?_ ?_|refine GA.rev ?_))⟩
          |exact .inr ⟨_,_,_,_,rfl,by(with_reducible repeat (first|assumption|exact GA.ext d5|exact GA.ext d6|exact GA.one (by assumption)|refine GA.app ?_ ?_|refine GA.eI ?_ ?_|refine GA.rev ?_)),by omega,by omega,by omega⟩
          |exact⟨_,_,_,_,rfl,by(with_reducible repeat (first|assumption|exact GA.ext d5|exact GA.ext d6|exact GA.one (by assumption)|refine GA.app ?_ ?_|refine GA.eI ?_ ?_|refine GA.rev ?_)),by omega,by omega,by omega⟩))
      ·rintro c st2 ⟨S2,jX,ug,uh,r,rfl,go2,y1,y2,y3⟩
       exact⟨S2,.inr ⟨_,_,_,_,rfl,go2,y1,y2,by omega⟩⟩
      ·rintro c st3 ⟨S3,⟨r,x,rfl,gr⟩|⟨Av,Te,Tf,⟨Ah,xo,xt⟩,rfl,qt,x1,x2,x3⟩⟩
       ·exact aL ⟨S3,_,_,rfl,gr⟩
       ·dsimp only
        exact ax (pD S3 λda S4=>aL ⟨S4,_,_,_,_,rfl,qt,x1,x2,by omega⟩)
   ·rintro c st2 ⟨S2,jX,ug,uh,r,rfl,go2,y1,y2,y3⟩
    exfalso
    omega
   ·rintro c st2 ⟨S2,r,x,rfl,gr⟩
    exact aL (h _ _ gr S2)
theorem N7{M:Model}{σ α:Type}{i:Nat}{x y:StateT σ Sem α}{Q:α->σ->Prop}{st:σ}(h1:i=0->wpS M A E s x Q st)(h2:1<=i->wpS M A E s y Q st):wpS M A E s (if(i==0)=true then x else y) Q st:=
 il h1 λe=>h2 (by omega)
theorem N8{M:Model}{σ α:Type}{i:Nat}{x y:StateT σ Sem α}{Q:α->σ->Prop}{st:σ}(h0:1<=i)(h1:i=1->wpS M A E s x Q st)(h2:2<=i->wpS M A E s y Q st):wpS M A E s (if(i==1)=true then x else y) Q st:=
 il h1 λe=>h2 (by omega)
theorem N9{M:Model}{σ α:Type}{i j:Nat}{x y:StateT σ Sem α}{Q:α->σ->Prop}{st:σ}(h1:j<i->wpS M A E s x Q st)(h2:i<=j->wpS M A E s y Q st):wpS M A E s (if i - j > 0 then x else y) Q st:=
 fB (λe=>h1 (by omega)) λe=>h2 (by omega)
theorem Zz{a b:Array Keyed}{st:SortSt}{Q:Array Keyed->SortSt->Prop}(ok:jc prog w A s κ g)(S:Safe κ g N pd st)(ga:∀p∈a,g p)(gb:∀p∈b,g p)(h1:1<=a.size)(h2:1<=b.size)(h:∀out st',GA g out->Safe κ g N pd st'->Q out st'):wpS (model prog w) A E s (Us a b) Q st:=by
 have d5:GA g a:=ga;have d6:GA g b:=gb;refine ax (m_ ?_);refine ax (fO ga (by omega) λp gp=>?_);dsimp only;refine il (λq1=>?_) (λq1=>?_)
 ·exact aL (h _ _ (by(with_reducible repeat (first|assumption|exact GA.ext d5|exact GA.ext d6|exact GA.one (by assumption)|refine GA.app ?_ ?_|refine GA.eI ?_ ?_|refine GA.rev ?_))) S)
 ·refine il (λq2=>?_) (λq2=>?_)
  ·exact aL (h _ _ (by(with_reducible repeat (first|assumption|exact GA.ext d5|exact GA.ext d6|exact GA.one (by assumption)|refine GA.app ?_ ?_|refine GA.eI ?_ ?_|refine GA.rev ?_))) S)
  ·refine ax (iA ?_)
   try dsimp only
   refine ax (dj (di (I:=λi c st'=>Safe κ g N pd st'/\∃c6 c7 out r,c=(none,c6,c7,out,r)/\GA g out/\1<=c6/\2<=c7/\c6<=a.size/\c7<=b.size/\c6+c7+i+1<=a.size+b.size)
    (Q:=λc st'=>Safe κ g N pd st'/\∃r x,c=(some r,x)/\GA g r) ?_ ?_ ⟨S,_,_,_,_,rfl,by(with_reducible repeat (first|assumption|exact GA.ext d5|exact GA.ext d6|exact GA.one (by assumption)|refine GA.app ?_ ?_|refine GA.eI ?_ ?_|refine GA.rev ?_)),by omega,by omega,by omega,by omega,by omega⟩) ?_)
   ·rintro i c st1 _ hi ⟨S1,na,nb,out,mg,rfl,go,z1,z2,z3,z4,z5⟩
    dsimp only;refine ax (dj (di (I:=λi c st'=>Safe κ g N pd st'/\∃c6 c7 out r,c=(none,c6,c7,out,r)/\GA g out/\1<=c6/\2<=c7/\c6<=a.size/\c7<=b.size/\c6+c7+min i 1<=na+nb)
     (Q:=λc st'=>Safe κ g N pd st'/\((∃r x,c=(some r,x)/\GA g r)\/∃c6 c7 out r,c=(none,c6,c7,out,r)/\GA g out/\1<=c6/\2<=c7/\c6<=a.size/\c7<=b.size/\c6+c7+1<=na+nb)) ?_ ?_ ⟨S1,_,_,_,_,rfl,go,z1,z2,z3,z4,by omega⟩) ?_)
    ·rintro i2 c st2 _ hi2 ⟨S2,mJ,mK,jX,⟨ac,bc⟩,rfl,go2,y1,y2,y3,y4,y5⟩
     dsimp only;clear S S1 go h1 h2 q1 q2 z1 z2 z3 z4 z5 hi hi2;obtain⟨mJ,rfl⟩:∃k,mJ=k+1:=⟨mJ - 1,by omega⟩;obtain⟨mK,rfl⟩:∃k,mK=k+1+1:=⟨mK - 2,by omega⟩;simp only[Nat.add_sub_cancel];clear y1 y2
     repeat' (first
      |with_reducible refine N7 (λ_=>?_) (λ_=>?_)
      |with_reducible refine N8 (by omega) (λ_=>?_) (λ_=>?_)
      |with_reducible refine il (λ_=>?_) (λ_=>?_)
      |with_reducible refine N9 (λ_=>?_) (λ_=>?_)
      |with_reducible refine fB (λ_=>?_) (λ_=>?_)
      |with_reducible refine ax (fO ga (by omega) λ_ _=>?_)
      |with_reducible refine ax (fO gb (by omega) λ_ _=>?_)
      |with_reducible refine ax (m8 ok (by assumption) (by assumption) (by assumption) λ_=>?_)
      |with_reducible refine ax (pD (by assumption) λ_ _=>?_)
      |with_reducible refine ax (jA ok (by assumption) (by assumption) ga (by omega) (by omega) λ_ _=>?_)
      |with_reducible refine ax (jA ok (by assumption) (by assumption) gb (by omega) (by omega) λ_ _=>?_)
      |dsimp only
      | (refine aL ⟨by assumption,?_⟩;first
        |exact .inl ⟨_,_,rfl,by(with_reducible repeat (first|assumption|exact GA.ext d5|exact GA.ext d6|exact GA.one (by assumption)|refine GA.app ?_ ?_|refine GA.eI ?_ ?_|refine GA.rev ?_))⟩
        |exact⟨_,_,_,_,rfl,by(with_reducible repeat (first|assumption|exact GA.ext d5|exact GA.ext d6|exact GA.one (by assumption)|refine GA.app ?_ ?_|refine GA.eI ?_ ?_|refine GA.rev ?_)),by omega,by omega,by omega,by omega,by omega⟩
        |exact .inr ⟨_,_,_,_,rfl,by(with_reducible repeat (first|assumption|exact GA.ext d5|exact GA.ext d6|exact GA.one (by assumption)|refine GA.app ?_ ?_|refine GA.eI ?_ ?_|refine GA.rev ?_)),by omega,by omega,by omega,by omega,by omega⟩))
    ·rintro c st2 ⟨S2,mJ,mK,jX,r,rfl,go2,y1,y2,y3,y4,y5⟩
     exact⟨S2,.inr ⟨_,_,_,_,rfl,go2,y1,y2,y3,y4,by omega⟩⟩
    ·rintro c st2 ⟨S2,⟨r,x,rfl,gr⟩|⟨mJ,mK,jX,⟨ac,bc⟩,rfl,go2,y1,y2,y3,y4,y5⟩⟩
     ·exact aL ⟨S2,_,_,rfl,gr⟩
     ·dsimp only
      refine ax (m_ ?_);refine ax (dj (di (I:=λi c st'=>Safe κ g N pd st'/\∃c6 c7 out r,c=(none,c6,c7,out,r)/\GA g out/\1<=c6/\2<=c7/\c6<=a.size/\c7<=b.size/\c6+c7+1<=na+nb)
       (Q:=λc st'=>Safe κ g N pd st'/\((∃r x,c=(some r,x)/\GA g r)\/∃c6 c7 out r,c=(none,c6,c7,out,r)/\GA g out/\1<=c6/\2<=c7/\c6<=a.size/\c7<=b.size/\c6+c7+1<=na+nb)) ?_ ?_ ⟨S2,_,_,_,_,rfl,go2,y1,y2,y3,y4,y5⟩) ?_)
      ·rintro i3 c st3 _ HQ ⟨S3,uA,uC,Av,⟨Ah,xo,xt⟩,rfl,qt,x1,x2,x3,x4,x5⟩
       dsimp only;clear S1 S2 S go go2 h1 h2 q1 q2 z1 z2 z3 z4 z5 y1 y2 y3 y4 y5 hi HQ;obtain⟨uA,rfl⟩:∃k,uA=k+1:=⟨uA - 1,by omega⟩;obtain⟨uC,rfl⟩:∃k,uC=k+1+1:=⟨uC - 2,by omega⟩;simp only[Nat.add_sub_cancel];clear x1 x2
       repeat' (first
        |with_reducible refine N7 (λ_=>?_) (λ_=>?_)
        |with_reducible refine N8 (by omega) (λ_=>?_) (λ_=>?_)
        |with_reducible refine il (λ_=>?_) (λ_=>?_)
        |with_reducible refine N9 (λ_=>?_) (λ_=>?_)
        |with_reducible refine fB (λ_=>?_) (λ_=>?_)
        |with_reducible refine ax (fO ga (by omega) λ_ _=>?_)
        |with_reducible refine ax (fO gb (by omega) λ_ _=>?_)
        |with_reducible refine ax (m8 ok (by assumption) (by assumption) (by assumption) λ_=>?_)
        |with_reducible refine ax (pD (by assumption) λ_ _=>?_)
        |with_reducible refine ax (jA ok (by assumption) (by assumption) ga (by omega) (by omega) λ_ _=>?_)
        |with_reducible refine ax (jA ok (by assumption) (by assumption) gb (by omega) (by omega) λ_ _=>?_)
        |dsimp only
        | (refine aL ⟨by assumption,?_⟩;first
          |exact .inl ⟨_,_,rfl,by(with_reducible repeat (first|assumption|exact GA.ext d5|exact GA.ext d6|exact GA.one (by assumption)|refine GA.app ?_ ?_|refine GA.eI ?_ ?_|refine GA.rev ?_))⟩
          |exact⟨_,_,_,_,rfl,by(with_reducible repeat (first|assumption|exact GA.ext d5|exact GA.ext d6|exact GA.one (by assumption)|refine GA.app ?_ ?_|refine GA.eI ?_ ?_|refine GA.rev ?_)),by omega,by omega,by omega,by omega,by omega⟩
          |exact .inr ⟨_,_,_,_,rfl,by(with_reducible repeat (first|assumption|exact GA.ext d5|exact GA.ext d6|exact GA.one (by assumption)|refine GA.app ?_ ?_|refine GA.eI ?_ ?_|refine GA.rev ?_)),by omega,by omega,by omega,by omega,by omega⟩))
      ·rintro c st2 ⟨S2,mJ,mK,jX,r,rfl,go2,y1,y2,y3,y4,y5⟩
       exact⟨S2,.inr ⟨_,_,_,_,rfl,go2,y1,y2,y3,y4,by omega⟩⟩
      ·rintro c st3 ⟨S3,⟨r,x,rfl,gr⟩|⟨uA,uC,Av,⟨Ah,xo,xt⟩,rfl,qt,x1,x2,x3,x4,x5⟩⟩
       ·exact aL ⟨S3,_,_,rfl,gr⟩
       ·dsimp only
        exact ax (pD S3 λda S4=>aL ⟨S4,_,_,_,_,rfl,qt,x1,x2,x3,x4,by omega⟩)
   ·rintro c st2 ⟨S2,mJ,mK,jX,r,rfl,go2,y1,y2,y3,y4,y5⟩
    exfalso
    omega
   ·rintro c st2 ⟨S2,r,x,rfl,gr⟩
    exact aL (h _ _ gr S2)
end
noncomputable def Runs:List (Nat × Nat × Nat)->Nat->Nat->Prop
 | [],a,b=>a=b
 | (s,n,_)::r,a,b=>s=a/\1<=n/\Runs r (a+n) b
theorem Runs.le:∀{l:List (Nat × Nat × Nat)} {a b:Nat},Runs l a b->a<=b
 | [],_,_,h=>wI h
 | (_,n,_)::r,a,b,h=>by
  have:=Runs.le h.2.2;omega
theorem Runs.app{s n p:Nat}:∀{l:List (Nat × Nat × Nat)} {a b:Nat},Runs l a b->1<=n->Runs (l++[(b,n,p)]) a (b+n)
 | [],_,_,rfl,hn=>⟨rfl,hn,rfl⟩
 | (_,_,_)::r,a,b,h,hn=>⟨h.1,h.2.1,Runs.app (s:=s) h.2.2 hn⟩
theorem Runs.at:∀{l:List (Nat × Nat × Nat)} {a b i s n p s2 n2 p2:Nat},Runs l a b->l[i]?=some (s,n,p)->l[i+1]?=some (s2,n2,p2)->s2=s+n/\1<=n/\1<=n2/\s2+n2<=b/\Runs ((l.set i (s,n+n2,p)).eraseIdx (i+1)) a b
 | [],_,_,i,_,_,_,_,_,_,_,h1,_=>by simp at h1
 | (s0,n0,p0)::r,a,b,0,s,n,p,s2,n2,p2,h,h1,h2=>by
  simp only[Oo,Fb,Fd]at h1;obtain⟨rfl,rfl,rfl⟩:=h1;cases r with
  |nil=>simp at h2
  |cons q r =>
   simp at h2;subst h2;obtain⟨e1,e2,e3,e4,e5⟩:=h;have:=e5.le;refine⟨by omega,e2,e4,by omega,?_⟩;refine⟨e1,by omega,?_⟩;rw[show a+(n0+n2)=a+n0+n2 by omega];exact e5
 | (s0,n0,p0)::r,a,b,i+1,s,n,p,s2,n2,p2,h,h1,h2=>by
  obtain⟨e1,e2,e3⟩:=h;have:=Runs.at (i:=i) e3 (by simpa using h1) (by simpa using h2);exact⟨this.1,this.2.1,this.2.2.1,this.2.2.2.1,e1,e2,this.2.2.2.2⟩
theorem Runs.mod(f:Nat × Nat × Nat->Nat × Nat × Nat)(hf:∀x,(f x).1=x.1/\(f x).2.1=x.2.1):∀{l:List (Nat × Nat × Nat)} {a b i:Nat},Runs l a b->Runs (l.modify i f) a b
 | [],_,_,i,h=>by simpa using h
 | (s0,n0,p0)::r,a,b,0,h=>by
  have:=hf (s0,n0,p0);rw[List.modify_zero_cons];generalize f (s0,n0,p0)=y at this;obtain⟨y1,y2,y3⟩:=y;obtain⟨rfl,rfl⟩:=this;exact h
 | (s0,n0,p0)::r,a,b,i+1,h=>⟨h.1,h.2.1,Runs.mod f hf h.2.2⟩
section
variable {prog:Program} {w:World} {A:Around} {E:Value->Shared->Prop} {s:Shared} {κ:SortKind} {g:Keyed->Prop} {N:Nat} {pd:Array (Nat × Nat × Nat)}
theorem ZF{M:Model}{σ:Type}{st':σ}{Q:PUnit->σ->Prop}{st:σ}(h:Q ⟨⟩ st'):wpS M A E s (set st':StateT σ Sem PUnit) Q st:=by
 unfold wpS;rw[StateT.run_set];exact aC ⟨rfl,h⟩
theorem GA.setB{xs:Array Keyed}{x:Keyed}{i:Nat}(h1:GA g xs)(h2:g x):GA g (xs.setIfInBounds i x):=λp hp=>by
 obtain⟨k,hk,e⟩:=Oc.mp hp;rw[Array.getElem_setIfInBounds]at e
 ·split at e
  ·exact e▸h2
  ·exact e▸h1 _ (DX _)
 ·simpa using hk
theorem GA.fold{sa:Nat}:∀{l:List (Keyed × Nat)} {xs:Array Keyed},GA g xs->(∀p∈l,g p.1)->GA g (l.foldl (λa x=>a.setIfInBounds (sa+x.2) x.1) xs)/\(l.foldl (λa x=>a.setIfInBounds (sa+x.2) x.1) xs).size=xs.size
 | [],xs,h,_=>⟨h,rfl⟩
 |p::l,xs,h,hl=>by
  have:=GA.fold (sa:=sa) (h.setB (i:=sa+p.2) (hl p (cK ..))) (λq hq=>hl q (bT _ hq));exact⟨this.1,this.2.trans (Array.size_setIfInBounds ..)⟩
theorem DT{i lo:Nat}{st:SortSt}{Q:Bool->SortSt->Prop}(ok:jc prog w A s κ g)(S:Safe κ g N pd st)(hR:Runs pd.toList 0 lo)(hlo:lo<=N)(hi:i+1<pd.size)(h:∀Ay st',Safe κ g N Ay st'->Runs Ay.toList 0 lo->1<=Ay.size->Q true st'):wpS (model prog w) A E s (mergeAt' i) Q st:=by
 refine ax (iA ?_);dsimp only;obtain⟨⟨sa,na,pw⟩,e1⟩:∃x,pd[i]?=some x:=⟨_,tP pd i (by omega)⟩;obtain⟨⟨sb,nb,pw2⟩,e2⟩:∃x,pd[i+1]?=some x:=⟨_,tP pd (i+1) (by omega)⟩;obtain⟨rfl,n1,n2,z1,R2⟩:=hR.at (i:=i) (by simpa using e1) (by simpa using e2);have hp:(sortPriv% PySem.Builtin.SortState.pending) st=pd:=S.pend;rw[hp,e1,e2];dsimp only;refine ax (ZF ?_);have S2:∀st':SortSt,kindOf st'=kindOf st->failedOf st'=none->GA g (arrOf st')->(arrOf st').size=N->pendingOf st'=(pd.setIfInBounds i (sa,na+nb,pw)).eraseIdxIfInBounds (i+1)->Safe κ g N ((pd.setIfInBounds i (sa,na+nb,pw)).eraseIdxIfInBounds (i+1)) st':=
  λst' a1 a2 a3 a4 a5=>⟨a1.trans S.kind,a2,a4,a3,a5⟩
 have R3:Runs ((pd.setIfInBounds i (sa,na+nb,pw)).eraseIdxIfInBounds (i+1)).toList 0 lo:=by
  have:((pd.setIfInBounds i (sa,na+nb,pw)).eraseIdxIfInBounds (i+1)).toList=(pd.toList.set i (sa,na+nb,pw)).eraseIdx (i+1):=by simp
  rw[this];exact R2
 have sz:1<=((pd.setIfInBounds i (sa,na+nb,pw)).eraseIdxIfInBounds (i+1)).size:=by
  rw[<- dq];generalize ((pd.setIfInBounds i (sa,na+nb,pw)).eraseIdxIfInBounds (i+1)).toList=l at R3;cases l with
  |nil =>
   have:0=lo:=R3;omega
  |cons=>simp
 have S3:=S2 (SortSt.mk' (kindOf st) (arrOf st) ((pd.setIfInBounds i (sa,na+nb,pw)).eraseIdxIfInBounds (i+1)) (gallopOf st) (failedOf st)) rfl S.failed S.all S.size rfl;have T:∀(k:Nat) (M:Array Keyed) (da:SortSt),GA g M->Safe κ g N ((pd.setIfInBounds i (sa,na+nb,pw)).eraseIdxIfInBounds (i+1)) da->wpS (model prog w) A E s (do
   modify λs=>setArr s (List.foldl (λa x=>a.setIfInBounds (sa+k+x.2) x.1) (arrOf s) M.toList.zipIdx)
   let y <- get
   pure (failedOf y).isNone) Q da:=by
  intro k M da gM S4;refine ax (jJ (ax (iA (aL ?_))));have q:=GA.fold (sa:=sa+k) (l:=M.toList.zipIdx) (xs:=arrOf da) S4.all (λp hp=>gM _ (by
   have:=List.mem_zipIdx hp;rw[this.2.2];simp))
  rw[show failedOf (setArr da _)=none from S4.failed];exact h _ _ ⟨S4.kind,S4.failed,q.2.trans S4.size,q.1,S4.pend⟩ R3 sz
 have hs:(arrOf st).size=N:=S.size;have hs':((sortPriv% PySem.Builtin.SortState.a) st).size=N:=S.size;refine ax (fO S.all (by omega) λp gp=>?_);refine ax (jA ok S3 gp S.all (by omega) (by omega) λk hk=>?_);dsimp only;refine il (λq1=>?_) (λq1=>?_)
 ·exact aL (h _ _ S3 R3 sz)
 ·refine ax (fO S.all (by omega) λp2 RD=>?_)
  refine ax (jA ok S3 RD S.all (by omega) (by omega) λk2 hk2=>?_);dsimp only;refine il (λq2=>?_) (λq2=>?_)
  ·exact aL (h _ _ S3 R3 sz)
  ·have e3:((arrOf st).extract (sa+k) (sa+na)).size=na - k:=by
    rw[Array.size_extract];omega
   have e4:((arrOf st).extract (sa+na) (sa+na+k2)).size=k2:=by
    rw[Array.size_extract];omega
   have e3':(((sortPriv% PySem.Builtin.SortState.a) st).extract (sa+k) (sa+na)).size=na - k:=e3;have e4':(((sortPriv% PySem.Builtin.SortState.a) st).extract (sa+na) (sa+na+k2)).size=k2:=e4;have g3:GA g ((arrOf st).extract (sa+k) (sa+na)):=GA.ext S.all;have g4:GA g ((arrOf st).extract (sa+na) (sa+na+k2)):=GA.ext S.all;refine fB (λ_=>?_) (λ_=>?_)
   ·exact ax (ZC ok S3 g3 g4 (by rw[e3];omega) (by rw[e4];omega) λM da gM S4=>T k M da gM S4)
   ·exact ax (Zz ok S3 g3 g4 (by rw[e3];omega) (by rw[e4];omega) λM da gM S4=>T k M da gM S4)
theorem ZG{st:SortSt}{Q:Unit->SortSt->Prop}(ok:jc prog w A s κ g)(S:Safe κ g N #[] st)(h:∀pd st',Safe κ g N pd st'->Q () st'):wpS (model prog w) A E s sortRuns' Q st:=by
 refine ax (iA ?_);have hs:((sortPriv% PySem.Builtin.SortState.a) st).size=N:=S.size;dsimp only;rw[hs];generalize (sortPriv% PySem.Builtin.minRun) N N 0=mr;refine ax (dj (di (I:=λx c st'=>∃lo pd,c=(none,lo)/\Safe κ g N pd st'/\Runs pd.toList 0 lo/\lo<=N/\x<=lo) (Q:=λc st'=>∃lo pd,c=(none,lo)/\Safe κ g N pd st'/\Runs pd.toList 0 lo/\lo<=N) ?step (λc st' ⟨lo,pd,e,z1,z2,z3,_⟩=>⟨lo,pd,e,z1,z2,z3⟩) ⟨0,#[],rfl,S,rfl,eK _,aO _⟩) ?post)
 case step =>
  rintro x c st1 _ hx ⟨lo,pd,rfl,S1,R1,hlo,Iy⟩;dsimp only;refine fB (λq=>?_) (λq=>?_)
  ·exact aL ⟨lo,pd,rfl,S1,R1,hlo⟩
  ·refine ax (Zy ok S1 (by omega) (by omega) λn st3 hn1 hn2 S3=>?_)
   dsimp only;refine fB (λq2=>?_) (λq2=>?_)
   ·refine ax (m_ ?_)
    refine ax (Zx ok S3 (by omega) λst3 S3=>?_);refine fB (λe=>by simp at e) (λ_=>?_);have kL:1<=min (N - lo) mr:=by omega
    have oz:lo+min (N - lo) mr<=N:=by omega
    generalize min (N - lo) mr=n at kL oz;refine ax (iA ?_);cases hb:((sortPriv% PySem.Builtin.SortState.pending) st3).back? with
    |none =>
     dsimp only;refine ax (jJ (aL ⟨_,_,rfl,⟨S3.kind,S3.failed,S3.size,S3.all,rfl⟩,?_,oz,by omega⟩));show Runs ((pendingOf st3).push (lo,n,0)).toList 0 (lo+n);rw[S3.pend,pF];exact R1.app (s:=0) kL
    |some y =>
     obtain⟨s1,n1,p1⟩:=y;dsimp only;refine ax (dj (di (I:=λ_ c st'=>∃pd,c=(none,())/\Safe κ g N pd st'/\Runs pd.toList 0 lo) (Q:=λc st'=>∃pd,c=(none,())/\Safe κ g N pd st'/\Runs pd.toList 0 lo) ?_ (λ_ _ z=>z) ⟨pd,rfl,S3,R1⟩) ?_)
     ·rintro _ c da _ _ ⟨d9,rfl,S4,R4⟩
      refine ax (iA ?_);have mz:(sortPriv% PySem.Builtin.SortState.pending) da=d9:=S4.pend
      try dsimp only
      rw[mz]
      by_cases q4:d9.size > 1
      ·rw[az q4]
       obtain⟨⟨y1,y2,y3⟩,ey⟩:∃y,d9[d9.size - 2]?=some y:=⟨_,tP _ _ (by omega)⟩;rw[ey];dsimp only;refine fB (λ_=>aL ⟨d9,rfl,S4,R4⟩) (λ_=>?_);refine ax (DT ok S4 R4 hlo (by omega) λqQ jw S5 R5 _=>?_);refine fB (λe=>by simp at e) λ_=>aL ⟨qQ,rfl,S5,R5⟩
      ·rw[au q4]
       exact aL ⟨d9,rfl,S4,R4⟩
     ·rintro c da ⟨d9,rfl,S4,R4⟩
      dsimp only;refine ax (jJ (ax (jJ (aL ⟨_,_,rfl,⟨S4.kind,S4.failed,S4.size,S4.all,rfl⟩,?_,oz,by omega⟩))));show Runs (((pendingOf da).modify ((pendingOf da).size - 1) _).push (lo,n,0)).toList 0 (lo+n);rw[S4.pend,pF,Array.toList_modify];refine Runs.app (s:=0) ?_ kL;refine Runs.mod _ ?_ R4;exact λx=>⟨rfl,rfl⟩
   ·have kL:1<=n:=hn1
    have oz:lo+n<=N:=by omega
    refine ax (iA ?_);cases hb:((sortPriv% PySem.Builtin.SortState.pending) st3).back? with
    |none =>
     dsimp only;refine ax (jJ (aL ⟨_,_,rfl,⟨S3.kind,S3.failed,S3.size,S3.all,rfl⟩,?_,oz,by omega⟩));show Runs ((pendingOf st3).push (lo,n,0)).toList 0 (lo+n);rw[S3.pend,pF];exact R1.app (s:=0) kL
    |some y =>
     obtain⟨s1,n1,p1⟩:=y;dsimp only;refine ax (dj (di (I:=λ_ c st'=>∃pd,c=(none,())/\Safe κ g N pd st'/\Runs pd.toList 0 lo) (Q:=λc st'=>∃pd,c=(none,())/\Safe κ g N pd st'/\Runs pd.toList 0 lo) ?_ (λ_ _ z=>z) ⟨pd,rfl,S3,R1⟩) ?_)
     ·rintro _ c da _ _ ⟨d9,rfl,S4,R4⟩
      refine ax (iA ?_);have mz:(sortPriv% PySem.Builtin.SortState.pending) da=d9:=S4.pend
      try dsimp only
      rw[mz]
      by_cases q4:d9.size > 1
      ·rw[az q4]
       obtain⟨⟨y1,y2,y3⟩,ey⟩:∃y,d9[d9.size - 2]?=some y:=⟨_,tP _ _ (by omega)⟩;rw[ey];dsimp only;refine fB (λ_=>aL ⟨d9,rfl,S4,R4⟩) (λ_=>?_);refine ax (DT ok S4 R4 hlo (by omega) λqQ jw S5 R5 _=>?_);refine fB (λe=>by simp at e) λ_=>aL ⟨qQ,rfl,S5,R5⟩
      ·rw[au q4]
       exact aL ⟨d9,rfl,S4,R4⟩
     ·rintro c da ⟨d9,rfl,S4,R4⟩
      dsimp only;refine ax (jJ (ax (jJ (aL ⟨_,_,rfl,⟨S4.kind,S4.failed,S4.size,S4.all,rfl⟩,?_,oz,by omega⟩))));show Runs (((pendingOf da).modify ((pendingOf da).size - 1) _).push (lo,n,0)).toList 0 (lo+n);rw[S4.pend,pF,Array.toList_modify];refine Runs.app (s:=0) ?_ kL;refine Runs.mod _ ?_ R4;exact λx=>⟨rfl,rfl⟩
 case post =>
  rintro c st2 ⟨lo,pd,rfl,S2,R2,hlo⟩;dsimp only;refine ax (dj (di (I:=λ_ c st'=>∃pd,c=(none,())/\Safe κ g N pd st'/\Runs pd.toList 0 lo) (Q:=λc st'=>∃pd,c=(none,())/\Safe κ g N pd st'/\Runs pd.toList 0 lo) ?_ (λ_ _ z=>z) ⟨pd,rfl,S2,R2⟩) ?_)
  ·rintro _ c da _ _ ⟨d9,rfl,S4,R4⟩
   refine ax (iA ?_);have mz:(sortPriv% PySem.Builtin.SortState.pending) da=d9:=S4.pend
   try dsimp only
   rw[mz];refine fB (λ_=>aL ⟨d9,rfl,S4,R4⟩) (λq4=>?_);refine ax (DT ok S4 R4 hlo ?_ λqQ jw S5 R5 _=>?_)
   ·(repeat' split)<;>omega
   ·refine fB (λe=>by simp at e) λ_=>aL ⟨qQ,rfl,S5,R5⟩
  ·rintro c da ⟨d9,rfl,S4,R4⟩
   exact aL (h _ _ S4)
theorem Ug:jc prog w A s oneType' λp=>(∃n t,p.1 = .int n t)/\∃n t,p.2 = .int n t:=by
 rintro⟨x1,x2⟩ ⟨y1,y2⟩ ⟨⟨n,t,rfl⟩,_⟩ ⟨⟨m,u,rfl⟩,_⟩;exact⟨decide (n<m),λQ h=>oneLt_int h⟩
theorem Ud {a:Addr} {vs:List Value} {ns:List Int} {n:Nat} {P:PySem.Fin->Shared->Prop} (ho:s.heap.get? a=some (seqObj "list" vs.toArray n))
  (hI:IntsAre vs ns) (h2:2<=vs.length) (hz:vs.length<=2000)
  (h:∀(out:Array Value) (ns':List Int),IntsAre out.toList ns'->ns'.length=ns.length->P (.done (.ret .none)) {s with heap:=sortedHeap s.heap a vs out}) :
  wpAny (model prog w) A (Builtin.«list.sort» ⟨[.ref a],[]⟩) P E s:=by
 rw[list_sort_plain];have ha:a<s.heap.objs.size:=aV ho;refine ah (listItems_at ho rfl ?_);refine ah (listUpdate_at ho rfl ?_);obtain⟨e1,ho1⟩:∃e1,(s.heap.update a (Obj.mapSeq λ_=>#[])).get? a=some (seqObj "list" #[] e1):=⟨_,get?_update_seq ho (λ_=>#[])⟩;refine ah (seqEpoch_at ho1 rfl ?_);refine ah (wpAny_newTuple ?_);refine ah (wpAny_newList ?_);refine fV ?_;have ho6:(((s.heap.update a (Obj.mapSeq λ_=>#[])).push (seqObj "tuple" vs.toArray 0)).push (seqObj "list" #[] 0)).get? a=some (seqObj "list" #[] e1):=
  aM _ (aM _ ho1)
 show wpAny (model prog w) A _ P E {s with heap:=((s.heap.update a (Obj.mapSeq λ_=>#[])).push (seqObj "tuple" vs.toArray 0)).push (seqObj "list" #[] 0)};dsimp only;have hsz:¬ vs.toArray.size<2:=by simp;omega
 rw[au hsz,au hsz];obtain⟨v₁,v₂,rest,rfl⟩:∃v₁ v₂ rest,vs=v₁::v₂::rest:=by
  match vs,h2 with
  |v₁::v₂::rest,_=>exact⟨v₁,v₂,rest,rfl⟩
 rw[keyKind_ints hI];refine ah (aC ?_);refine ah (dX (ZG (N:=(v₁::v₂::rest).length) (st:=SortSt.mk' oneType' ((v₁::v₂::rest).toArray.zip (v₁::v₂::rest).toArray) #[] 7 none)
  (Q:=λ_ st'=>∃pd,Safe oneType' (λp=>(∃n t,p.1 = .int n t)/\∃n t,p.2 = .int n t) (v₁::v₂::rest).length pd st') Ug
  ⟨rfl,rfl,pairsOf_size _,λp hp=>?_,rfl⟩ λpd st' z=>⟨pd,z⟩) ?_ λ_ _ e=>e)
 ·have hp2:p∈pairsOf (v₁::v₂::rest):=hp
  have hp':p∈(pairsOf (v₁::v₂::rest)).toList:=Array.mem_toList_iff.mpr hp2;rw[pairsOf_toList]at hp';have:=mem_zip_self hp';exact⟨hI.all _ this.2,this.1▸hI.all _ this.2⟩
 ·rintro⟨⟨⟩,st'⟩ s' ⟨rfl,pd,S⟩
  dsimp only;refine ah (seqEpoch_at ho6 rfl ?_);refine ah (listUpdate_at ho6 rfl ?_ (hsz2:=by refine bN (wI ((Array.size_map ..).trans S.size)) ?_;rw[lS];omega));rw[S.failed];simp only[bne_self_eq_false,rG,oE];have hall:=intsAre_map ((arrOf st').map (·.2)).toList (by
   intro v hv;simp only[Array.toList_map,cU]at hv;obtain⟨p,hp,rfl⟩:=hv;exact(S.all p (by simpa using hp)).2)
  refine aC (h _ _ hall ?_);rw[aB,dq,Array.size_map,S.size,hI.length]
theorem Uc {a:Addr} {vs:List Value} {ns:List Int} {n:Nat} {P:PySem.Fin->Shared->Prop} (ho:s.heap.get? a=some (seqObj "list" vs.toArray n))
  (hI:IntsAre vs ns) (hz:vs.length<=2000)
  (h:∀(out:Array Value) (ns':List Int),IntsAre out.toList ns'->ns'.length=ns.length->(ns.length<64->ns'.Perm ns/\ns'.Pairwise (·<=·))->P (.done (.ret .none)) {s with heap:=sortedHeap s.heap a vs out}) :
  wpAny (model prog w) A (Builtin.«list.sort» ⟨[.ref a],[]⟩) P E s:=by
 have hl:=hI.length
 by_cases h64:vs.length<64
 ·exact list_sort_tree ho hI h64 λout ns' x1 x2 x3=>h out ns' x1 x2.length_eq λ_=>⟨x2,x3⟩
 ·exact Ud ho hI (by omega) hz λout ns' x1 x2=>h out ns' x1 x2 λz=>absurd z (by omega)
end
theorem Gi:bootBuiltins "set" = some (.type "set"):=by decide +kernel
theorem Gg:bootBuiltins "sorted" = some (.builtin "sorted"):=by decide +kernel
noncomputable def lU(P:Program)(w:World)(p:Addr)(ks:List Int):HO:=.ext λh=>eP P w h p ks
theorem Yk{P:Program}{w:World}{H:Hp}{h:Heap}{p:Addr}{ks:List Int}(hG:eP P w h p ks):bG P w H h p (lU P w p ks):=
 ⟨hG,let⟨o,_,_,_,e,_⟩:=hG;⟨o,e⟩,λh1 h2 g k=>g.moved λo e=>k o e⟩
theorem Xo{ks:List Int}{k x:Int}:x∈jZ ks k ↔ x∈ks\/x=k:=by
 unfold jZ
 split
 ·rename_i h
  exact⟨.inl,λz=>z.elim id λe=>e▸h⟩
 ·simp
theorem J2(val:Nat->Int){x:Int}:∀i,x∈numsTo val i ↔ ∃j,j<i/\val j=x
 |0=>by simp[numsTo]
 |i+1=>by
  rw[numsTo_succ,Xo,J2 val i]
  constructor
  ·rintro(⟨j,h1,h2⟩|h)
   ·exact⟨j,by omega,h2⟩
   ·exact⟨i,by omega,h.symm⟩
  ·rintro⟨j,h1,h2⟩
   by_cases e:j=i
   ·exact .inr (by rw[<- h2,e])
   ·exact .inl ⟨j,by omega,h2⟩
section
variable {X:Cx} {K:W.Frag}
theorem Inv.Qp{pins:List (Addr × Obj)}{σ:St}{H:Hp}{s:Shared}{d':Drawn}(I:Inv X pins σ H s):Inv X pins σ H {s with drawn:=d'}:=
 ⟨I.ok,I.os,I.bare,I.base,I.loc,I.cell,I.free,I.dH,I.pin,I.hok,I.len⟩
noncomputable def XC(X:Cx)(K:W.Frag):List V->Hp->VK->Prop:=λxs H Q=>∃(l:Addr) (ns:List Int),xs = [.ref l]/\ai K H l (ns.map V.int)/\ns.length<=1000/\∀p ks,H p=none->ks.Nodup->(∀k,k∈ks ↔ k∈ns)->Q (.ref p) (upd H p (lU X.prog X.w p ks))
theorem Gm (h:X.K=K) (hr:bS 0 X.A):dP X (.type "set") (XC X K):=by
 subst h;intro pins s σ H vs us Q I rv h;obtain⟨l,ns,rfl,hl,hz,q⟩:=h;obtain⟨u,rfl,ru⟩:=rv.one;cases ru;obtain⟨its,r,pl,_⟩:=I.list hl;have hI:=Jc r;have hlen:its.length=ns.length:=by rw[<- r.length,aB]
 refine Yh hr.hd pl.isList (by simpa using hI) (by rw[cD,hlen];show ns.length+1<4096;omega) λh' tk hG hk=>?_;have kept:∀b o,s.heap.get? b=some o->h'.get? b=some o:=λb o e=>hk b o (aV e) e;refine⟨.ref s.heap.objs.size,_,I.laid (o:=lU X.prog X.w s.heap.objs.size _) kept (aO _) (Yk hG),rfl,q _ _ I.fresh ?_ λk=>?_⟩
 ·obtain⟨_,_,_,_,_,_,_,H⟩:=hG
  exact H.nd
 ·rw[J2,cD,hlen]
  constructor
  ·rintro⟨j,h1,h2⟩
   rw[<- h2,aZ,aK h1];exact ja h1
  ·intro hk
   obtain⟨j,h1,h2⟩:=lM hk;exact⟨j,h1,by rw[aZ,aK h1];exact h2⟩
noncomputable def XD(X:Cx):List V->Hp->VK->Prop:=λxs H Q=>∃(a:Addr) (ks:List Int),xs = [.ref a]/\H a=some (lU X.prog X.w a ks)/\ks.length<=1000/\∀(p:Addr) (ms:List Int),H p=none->ms.length=ks.length->(ks.length<64->ms.Perm ks/\ms.Pairwise (·<=·))->Q (.ref p) (upd H p (.lst (ms.map V.int)))
theorem Ys {h:Heap} {a:Addr} {vs:List Value} {out:Array Value} {n:Nat} (e:h.get? a=some (seqObj "list" vs.toArray n)):(∃c,(sortedHeap h a vs out).get? a=some (seqObj "list" out c))/\∀b o,b≠a->h.get? b=some o->(sortedHeap h a vs out).get? b=some o:=by
 unfold sortedHeap;obtain⟨e1,h1⟩:∃e1,(h.update a (Obj.mapSeq λ_=>(#[]:Array Value))).get? a=some (seqObj "list" #[] e1):=⟨_,get?_update_seq e λ_=>#[]⟩;refine⟨⟨_,get?_update_seq (aM _ (aM _ h1)) λ_=>out⟩,λb o hb q=>?_⟩;rw[w4 _ _ _ _ hb];refine aM _ (aM _ ?_);rw[w4 _ _ _ _ hb];exact q
theorem Gq (hr:bS 0 X.A):dP X (.builtin "sorted") (XD X):=by
 intro pins s σ H vs us Q I rv h;obtain⟨a,ks,rfl,ha,hz,q⟩:=h;obtain⟨u,rfl,ru⟩:=rv.one;cases ru;have hG:eP X.prog X.w s.heap a ks:=(show bG X.prog X.w H s.heap a (lU X.prog X.w a ks)from I.hok a _ ha).1;refine call_function_entry_kw kind_sorted plain_sorted entry_sorted (args_sorted1 (.ref a)) ?_;unfold Builtin.«sorted»;refine ah (m:=checkCount "sorted" 1 1 _) (aC (ah (Qa (A:=X.A.in1) hr.hd hG (by omega) λvs ns h1 d1 tk hI hp k1 _=>ah (wpAny_newList ?_ ?_))))
 ·have I1:Inv X pins σ H {s with heap:=h1,drawn:=d1,toks:=tk}:=(I.kept (t':=tk) k1).Qp
  have ea:(h1.push {cls:=.type "list", data:=.seq vs.toArray}).get? h1.objs.size=some (seqObj "list" vs.toArray 0):=bR _ rfl;refine ah (fV (wpAny_call_entry_kw slot_list_sort ⟨_,ea,rfl⟩ entry_list_sort ?_ (args_list_sort _)));show wpAny (model X.prog X.w) X.A.in1.in1 (Builtin.«list.sort» ⟨[.ref h1.objs.size],[]⟩) _ _ _;have hvl:vs.length<=1000:=by rw[hI.length,hp.length_eq];exact hz
  refine Uc (s:={s with heap:=h1.push {cls:=.type "list", data:=.seq vs.toArray},drawn:=d1,toks:=tk}) (vs:=vs) (n:=0) ea hI (bN hvl (by decide)) λout ns' hI' hp' hs'=>?_;obtain⟨⟨c,g1⟩,g2⟩:=Ys (out:=out) ea;have hol:out.toList.length<=sizeLine:=by rw[hI'.length,hp',<- hI.length];exact dS (lB (by omega))
  have I5:Inv X pins σ (upd H h1.objs.size (.lst (ns'.map V.int))) {s with heap:=sortedHeap (h1.push {cls:=.type "list", data:=.seq vs.toArray}) h1.objs.size vs out,drawn:=d1,toks:=tk}:=by
   refine I1.laid (t':=tk) (λb o e=>?_) (aO _) ⟨by rw[aB,<- hI'.length];exact hol,out.toList,c,DP hI',by simpa using g1⟩;exact g2 b o (bO (aV e)) (aM _ e)
  exact⟨_,rfl,aC ⟨_,rfl,.ref h1.objs.size,_,I5,rfl,q _ ns' I1.fresh (hp'.trans hp.length_eq) λz=>⟨(hs' (by rw[hp.length_eq];exact z)).1.trans hp,(hs' (by rw[hp.length_eq];exact z)).2⟩⟩⟩
 ·rw[hI.length,hp.length_eq]
  exact dS (lB (by omega))
end
end L2
namespace My
open PySem PySem.Spec PyProof.Rows L2
structure Fam (F:List Nat):Prop where
 nd:F.Nodup
 meet:∀x∈F,∀y∈F,x&&& y∈F
 top:∃t∈F,∀x∈F,Ev.Sub x t
theorem Fam.lat{F:List Nat}(h:Fam F)(hl:F.length<=24):Ev.kh F:=⟨h.nd,hl,h.meet,h.top⟩
theorem Pl(x y m:Nat):(x&&& m)&&& (y&&& m)=(x&&& y)&&& m:=by
 apply wH
 intro i;simp only[si];cases x.testBit i<;>cases y.testBit i<;>cases m.testBit i<;>rfl
theorem Pm(x y m:Nat):(x&&& m)&&& y=(x&&& y)&&& m:=by
 apply wH
 intro i;simp only[si];cases x.testBit i<;>cases y.testBit i<;>cases m.testBit i<;>rfl
theorem Fam.more{F G:List Nat}(h:Fam F)(m:Nat)(nd:G.Nodup)(hG:∀z,z∈G ↔ z∈F\/∃x∈F,z=x&&& m):Fam G:=by
 obtain⟨t,ht,htop⟩:=h.top;refine⟨nd,λx hx y hy=>?_,t,(hG t).mpr (.inl ht),λx hx=>?_⟩
 ·rw[hG]at hx hy ⊢
  rcases hx with hx|⟨a,ha,rfl⟩<;>rcases hy with hy|⟨b,hb,rfl⟩
  ·exact .inl (h.meet x hx y hy)
  ·exact .inr ⟨x&&& b,h.meet x hx b hb,by rw[wG]⟩
  ·exact .inr ⟨a&&& y,h.meet a ha y hy,Pm a y m⟩
  ·exact .inr ⟨a&&& b,h.meet a ha b hb,Pl a b m⟩
 ·rw[hG]at hx
  rcases hx with hx|⟨a,ha,rfl⟩
  ·exact htop x hx
  ·exact(Ev.Sub.and_left a m).trans (htop a ha)
theorem UL{ms:List Int}(h:∀k∈ms,0<=k):∃G:List Nat,ms=G.map λx:Nat=>(x:Int):=by
 refine⟨ms.map Int.toNat,?_⟩;rw[iy];have:ms=ms.map id:=(List.map_id ms).symm
 conv=>lhs;rw[this]
 exact pN λk hk=>(wu (h k hk)).symm
theorem Ap:∀{l1 l2:List Int},l1.Nodup->(∀x∈l1,x∈l2)->l1.length<=l2.length
 | [],_,_,_=>eK _
 |x::r,l2,nd,h=>by
  have nd':=jI.mp nd;have h1:=h x cK;have h2:=Ap (l1:=r) (l2:=l2.erase x) nd'.2 (λy hy=>(List.mem_erase_of_ne (λ(e:y=x)=>nd'.1 (e▸hy))).mpr (h y (bT _ hy)));rw[List.length_erase_of_mem h1]at h2;have h3:=Ow h1;rw[dr];omega
noncomputable def iH(G:List Nat)(m:Nat):List Int:=(G++G.map λx=>x&&& m).map λx:Nat=>(x:Int)
theorem tG(G:List Nat)(m:Nat):(iH G m).length=2*G.length:=by simp[iH];omega
theorem Gz(G:List Nat)(m:Nat):G.map nV++(List.range (G.map nV).length).map (λj=>nV (G.getD j 0&&& m))=(iH G m).map V.int:=by
 unfold iH;rw[iy,gW]
 congr 1
 rw[iy,aB];apply ki
 ·simp
 ·intro i h1 h2
  simp only[aB,jG]at h1;simp[aZ,aK h1]
theorem Fam.grown{G:List Nat}(h:Fam G){m:Nat}{ks ms:List Int}(nd:ks.Nodup)(hk:∀k,k∈ks ↔ k∈iH G m)(hp:ms.Perm ks):∃G':List Nat,ms.map V.int=G'.map nV/\Fam G'/\G'.length=ms.length/\∀x∈G',x∈G\/∃y∈G,x=y&&& m:=by
 have hm:∀k,k∈ms ↔ k∈iH G m:=λk=>hp.mem_iff.trans (hk k);obtain⟨G',rfl⟩:=UL (ms:=ms) λk hk'=>by
  obtain⟨x,_,rfl⟩:=cU.mp ((hm k).mp hk');omega
 have nd':G'.Nodup:=by
  have:=hp.nodup_iff.mpr nd;exact List.Pairwise.imp (λhne e=>hne (by rw[e])) (Eu.mp this)
 have hG:∀z,z∈G' ↔ z∈G\/∃x∈G,z=x&&& m:=λz=>by
  have:=hm (z:Int);unfold iH at this;have inj:∀l:List Nat,(z:Int)∈l.map (λx:Nat=>(x:Int)) ↔ z∈l:=λl=>by
   rw[cU];exact⟨λ⟨x,h1,h2⟩=>by rw[<- Int.natCast_inj.mp h2];exact h1,λh=>⟨z,h,rfl⟩⟩
  rw[inj,inj,fe,cU]at this;rw[this];exact or_congr Iff.rfl ⟨λ⟨x,h1,h2⟩=>⟨x,h1,h2.symm⟩,λ⟨x,h1,h2⟩=>⟨x,h1,h2.symm⟩⟩
 exact⟨G',by rw[iy];rfl,h.more m nd' hG,by simp,λx hx=>(hG x).mp hx⟩
theorem Same.none{H H':Hp}{a:Addr}(s:Same H H')(h:H' a = .none):H a = .none:=by
 cases e:H a with
 |none=>rfl
 |some o=>rw[s a o e]at h;cases h
theorem gH{M:List Nat}{a:Nat}(h:a<M.length):(M.map nV)[a]?=some (nV (M.getD a 0)):=by
 rw[dR,aK h,aZ,aK h];rfl
section
variable {P:Program} {w:World} {K:W.Frag} {mg:Str->Option Value} {base:Heap} {f:Addr} {fd:FuncData}
abbrev vz:Stmt:=top 48
theorem Md:bh ["_law_numbers","_law_wide","_law_most","_law_found","_law_number","_law_mask","_law_grown"] ["_law_numbers","_law_wide","_law_most"] (ay vz):=⟨rfl,rfl,rfl,by decide +kernel,rfl,by decide +kernel,by decide +kernel⟩
noncomputable def vM(K:W.Frag):Sp:=λvs H Q _=>∃(l wd most:Nat) (ns:List Int),vs = [.ref l,.int wd,.int most]/\ai K H l (ns.map V.int)/\(∀x∈ns,0<=x)/\wd<=8/\1<=most/\most<=24 /\
 ∀L F H',Same H H'->H L=none->H' L=some (.lst (F.map nV))->Fam F->F.length<=most->(∀x∈F,x<2 ^ wd)->Q (.ref L) H'
theorem V3 (F:aT K "_law_masks" "_law_masks" vz f fd) (T:Txt mg) (ow:mg "set" = none):aN P w K mg base bf 1 f fd ["_law_numbers","_law_wide","_law_most"] (vM K):=by
 refine F.ok Md (λvs H Q E h=>?_) (λcdv A outer s H vs Q E hr h=>?_)
 ·obtain⟨l,wd,most,ns,rfl,_⟩:=h
  rfl
 ·obtain⟨l,wd,most,ns,rfl,hl,hns,Iv,hm1,hm2,kk⟩:=h
  have nd:=Md.nd;have hr0:=hr.mono (eK 0);refine⟨_,(ao (aJ (i:=3) nd rfl (Or.inl rfl) (b9 (ae (av qL (av gw aj (pv 1)) aj) ag)))
   (ao (b_ cy rfl (dJ (K:=K) rfl (pv 0)) (aY (i:=4) nd rfl (Or.inl rfl))
   (ao (aJ (i:=5) nd rfl (Or.inr rfl) (av cq (pv 4) (av gw aj (pv 1))))
   (ao (aJ (i:=6) nd rfl (Or.inl rfl) (aR (Gq hr0) rfl T.sorted Gg (ae (dm (Gm (K:=K) rfl hr0) rfl ow Gi (ae (av gu (pv 3) (dg (own:=["_law_one"]) (fr:=[("_law_mask", 5)]) rfl (cM (ay vz) ["_law_numbers","_law_wide","_law_most","_law_found","_law_number","_law_mask","_law_grown"] rfl rfl (by decide +kernel)) (dJ (K:=K) rfl (pv 3)) (λ_ _ _ _=>⟨(aY (i:=0) (by decide +kernel:(["_law_one","_law_mask"]:List Str).Nodup) rfl (Or.inl rfl)),dz,(av gq (pv 0) (pv 1))⟩))) ag)) ag)))
   (aq (bq (aU uT (aR (cj (K:=K) rfl) rfl T.len cw (ae (pv 6) ag)) (pv 2) (aP _)) (aq (aJ (i:=3) nd rfl (Or.inl rfl) (pv 6))) bx)))))
   (aq (aS (pv 3))))),?_⟩
  have ew:((1:Int)*2 ^ ((wd:Int)).toNat)=((2 ^ wd:Nat):Int):=by rw[bJ,jE];norm_cast
  have hp0:0<2 ^ wd:=wM wd;have cp:rK 1 (wd:Int):=⟨by omega,by omega,by decide⟩;refine⟨_,rfl,_,_,rfl,rfl,cp,_,_,rfl,rfl,by show 1<=sizeLine;decide,λL hL=>?_⟩;have e1:((1:Int)*2 ^ ((wd:Int)).toNat) - 1=((2 ^ wd - 1:Nat):Int):=by rw[ew];omega
  have eL:HO.lst [V.int ((1:Int)*2 ^ ((wd:Int)).toNat - 1)] = .lst ([2 ^ wd - 1].map nV):=by rw[e1];rfl
  refine⟨_,rfl,l,rfl,⟨_,(Same.put hL).seq hl⟩,jn (K:=K) (a:=l) (xs:=ns.map V.int) (λi σ H2=>∃(v4 v5 v6:Option V) (L2:Addr) (G:List Nat),σ = [some (.ref l),some (.int wd),some (.int most),some (.ref L2),v4,v5,v6]/\Same H H2/\H L2=none/\H2 L2=some (.lst (G.map nV))/\Fam G/\G.length<=most/\∀x∈G,x<2 ^ wd)
   ⟨none,none,none,L,[2 ^ wd - 1],rfl,Same.put hL,hL,ak.trans (congrArg some eL),⟨by simp,by simp,_,bW.mpr rfl,by simp[Ev.Sub]⟩,hm1,by simp;omega⟩ (λi σ H2 _ ⟨_,_,_,_,_,_,s2,_⟩=>s2.seq hl) ?_ ?_⟩
  ·rintro i x σ H2 hx ⟨v4,v5,v6,L2,G,rfl,s2,hn2,hL2,hG,zF,my⟩
   obtain⟨z,hz,rfl⟩:=cU.mp (eh hx);have hz0:=hns z hz;obtain⟨m,hm⟩:∃m:Nat,z % ((1:Int)*2 ^ ((wd:Int)).toNat)=(m:Int):=⟨(z % ((1:Int)*2 ^ ((wd:Int)).toNat)).toNat,(wu (pL _ (by rw[ew];omega))).symm⟩;refine⟨_,rfl,_,rfl,_,_,rfl,rfl,cp,_,_,rfl,rfl,by rw[ew];omega,?_⟩;dsimp only;rw[hm];refine⟨_,rfl,_,rfl,L2,rfl,⟨_,ai.of hL2⟩,λD hD=>fF (λj=>nV (G.getD j 0&&& m)) (src_list (ai.of hL2)) hD (dM (by rw[aB];omega)) (λj H3 Kt hj hs kt=>?_) (λH3 hs3 hl3=>?_)⟩
   ·rw[aB]at hj
    refine⟨_,rfl,_,rfl,_,_,by rw[aZ,gH hj];rfl,rfl,?_⟩;dsimp only;rw[jP];exact kt _ (Same.refl _)
   ·have hLD:D≠L2:=λe=>by rw[e,hL2]at hD;cases hD
    refine⟨L2,D,_,_,rfl,rfl,hs3 _ _ hL2,hl3,dS (lB (by simp;omega)),λp hp=>?_⟩;rw[Gz];have s4:=Same.put (o:=.lst ((iH G m).map V.int)) hp;refine⟨p,iH G m,rfl,ai.of ak,by rw[tG];omega,λq ks hq hnd hks=>?_⟩;have hkl:ks.length<=2*G.length:=by
     rw[<- tG G m];exact Ap hnd λk hk=>(hks k).mp hk
    refine⟨q,ks,rfl,ak,by omega,λr ms hr _ hms=>?_⟩;obtain⟨hmp,_⟩:=hms (by omega);obtain⟨G',eG,hG',tT,RP⟩:=hG.grown hnd hks hmp;rw[eG];have s5:=Same.put (o:=lU P w q ks) hq;have s6:=Same.put (o:=.lst (G'.map nV)) hr;have sA:=((s2.trans hs3).trans s4).trans (s5.trans s6);have hr0:H r=none:=Same.none (((s2.trans hs3).trans s4).trans s5) hr;refine⟨_,rfl,r,_,rfl,.inl (ai.of ak),_,rfl,_,_,rfl,rfl,_,rfl,bB (λh=>?_) (λh=>?_)⟩
    ·refine⟨_,rfl,_,_,_,r,G',rfl,sA,hr0,ak,hG',?_,λx hx=>?_⟩
     ·have:=oN h
      rw[aB]at this;omega
     ·rcases RP x hx with h1|⟨y,hy,rfl⟩
      ·exact my x h1
      ·exact nG Nat.and_le_left (my y hy)
    ·exact⟨_,_,_,L2,G,rfl,sA,hn2,(hs3.trans (s4.trans (s5.trans s6))) _ _ hL2,hG,zF,my⟩
  ·rintro σ H2 ⟨v4,v5,v6,L2,G,rfl,s2,hn2,hL2,hG,zF,my⟩
   exact⟨_,rfl,kk L2 G H2 s2 hn2 hL2 hG zF my⟩
end
end My
namespace L2
open PySem PySem.Spec PyProof.Rows
section
variable {prog:Program} {w:World} {A:Around} {E:Value->Shared->Prop} {s:Shared} {l:Addr} {xs:Array (Int × Tok)}
end
theorem Ku{X:Cx}{K:W.Frag}{es:List Expr}{k:Nat}{t:kB}{n:Nat}{pos:Pos}(hK:X.K=K)(hc:X.calm=true)(h:pZ X es t)(hn:(assignEach es X.env).length=n:=by rfl)(hst:(assignEach es X.env).findIdx? (·.1)=none:=by rfl):PG X (.Tuple es k pos) (qq K n t):=hK▸Ks hc h hn hst
noncomputable def KQ:V->List V->Hp->VK->Prop:=λx vs H Q=>∃(l:Addr) (xs:List V) (i:Nat) (y:V),x = .ref l/\vs = [.int (i:Int),y]/\H l=some (.lst xs)/\i<=xs.length/\xs.length<sizeLine/\Q .non (upd H l (.lst (xs.take i++y::xs.drop i)))
theorem Vals.Y8{xs:List V}{us:List Value}(h:Vals xs us):∀k:Nat,Vals (xs.take k) (us.take k):=by
 induction h with
 |nil=>intro k;simp;exact .nil
 |cons r _ ih =>
  intro k;cases k with
  |zero=>exact .nil
  |succ k=>exact .cons r (ih k)
theorem Vals.Qq{xs:List V}{us:List Value}(h:Vals xs us):∀k:Nat,Vals (xs.drop k) (us.drop k):=by
 induction h with
 |nil=>intro k;simp;exact .nil
 |cons r t ih =>
  intro k;cases k with
  |zero=>exact .cons r t
  |succ k=>exact ih k
theorem Vals.Pq{xs ys:List V}{us ws:List Value}(h:Vals xs us)(h':Vals ys ws):Vals (xs++ys) (us++ws):=by
 induction h with
 |nil=>exact h'
 |cons r _ ih=>exact .cons r ih
theorem uy {X:Cx}:r9 X "list.insert" KQ:=by
 intro pins s σ H x vs v us Q I rx rv h;obtain⟨l,xs,i,y,rfl,rfl,hH,hi,hz,q⟩:=h;cases rx;obtain⟨u,u2,rfl,ru,X3⟩:∃u u2,us = [u,u2]/\RelV (.int (i:Int)) u/\RelV y u2:=by
  cases rv with
  |cons p q =>
   cases q with
   |cons p' q' =>
    cases q';exact⟨_,_,rfl,p,p'⟩
 obtain⟨t,rfl⟩:=ru;obtain⟨z,its,n,r,hl,e⟩:=I.mH hH;have hn:=oH;have hf:¬ (!Builtin.List.listFitsIndex (i:Int))=true:=by
  rw[fitsIndex_both (by omega) (by omega)];decide
 have hs1:its.toArray.size<=sizeLine:=by rw[cD];omega
 generalize hk:(i:Int)=k at hf ⊢;refine lR sr ⟨_,e,rfl⟩ F.entry_list_insert (F.args_list_insert_3 _ _ _)
  (AutoSeq1.list_insert_list_int_val_1 l its.toArray n k t u2 hf hs1) ⟨e,?_⟩
 subst hk;refine⟨.non,_,I.uv (its':=its.take i++u2::its.drop i) hH e ?_ ((Vals.Y8 r i).Pq (.cons X3 (Vals.Qq r i))) ?_,rfl,q⟩
 ·have hmin:(if(i:Int)<0 then((i:Int)+(its.toArray.size:Int)).toNat else min (i:Int).toNat its.toArray.size)=i:=by
   rw[au (by omega),cD,bJ];omega
  show(its.toArray.extract 0 (if(i:Int)<0 then((i:Int)+(its.toArray.size:Int)).toNat else min (i:Int).toNat its.toArray.size)).push u2++its.toArray.extract (if(i:Int)<0 then((i:Int)+(its.toArray.size:Int)).toNat else min (i:Int).toNat its.toArray.size)=_;rw[hmin];apply Array.toList_inj.mp
  simp;exact nD (by rw[nz];omega)
 ·simp only[dD,dr,gU,nz]
  omega
end L2
namespace My
open PySem PySem.Spec PyProof.Rows L2
noncomputable def dv(p:Nat->Bool):Nat->Nat
 |0=>0
 |j+1=>if p j=true then dv p j ||| 2 ^ j else dv p j
theorem sQ(p:Nat->Bool):∀j t,(dv p j).testBit t=(decide (t<j)&&p t)
 |0,t=>by simp[dv]
 |j+1,t=>by
  unfold dv
  by_cases h:p j=true
  ·rw[az h,lO,sQ p j t,E_]
   by_cases e:j=t
   ·subst e;simp[h]
   ·have:(t<j+1) ↔ t<j:=by omega
    simp[e,this]
  ·rw[au h,sQ p j t]
   by_cases e:t=j
   ·subst e
    have:p t=false:=by simpa using h
    simp[this]
   ·have:(t<j+1) ↔ t<j:=by omega
    simp[this]
theorem Gd(p:Nat->Bool)(j:Nat):dv p j<2 ^ j:=by
 apply Nat.lt_pow_two_of_testBit
 intro i hi;rw[sQ];have:¬ i<j:=by omega
 simp[this]
structure cL (n:Nat) (R:Nat->Nat->Bool) (us:List Nat):Prop where
 len:us.length=n
 bit:∀a b,a<n->b<n->(us.getD a 0).testBit b=R a b
 lt:∀a,a<n->us.getD a 0<2 ^ n
theorem cL.of(n:Nat)(R:Nat->Nat->Bool):cL n R ((List.range n).map λa=>dv (R a) n):=by
 have g:∀a,a<n->((List.range n).map λa=>dv (R a) n).getD a 0=dv (R a) n:=λa ha=>by
  rw[aZ,dR,pM ha];rfl
 refine⟨by simp,λa b ha hb=>?_,λa ha=>?_⟩
 ·rw[g a ha,sQ];simp[hb]
 ·rw[g a ha];exact Gd _ _
theorem qe(x b:Nat):decide (V.int (Builtin.bitAnd ((x:Int) / 2 ^ (0+(b:Int)).toNat) 1)=V.int 1)=x.testBit b:=by
 have e1:((x:Int) / 2 ^ (0+(b:Int)).toNat)=((x / 2 ^ b:Nat):Int):=by
  rw[fb,bJ];push_cast;rfl
 rw[e1,show(1:Int)=((1:Nat):Int)from rfl,jP,Nat.and_one_is_mod,Oz]
 congr 1
 apply propext
 constructor
 ·intro h
  have:((x / 2 ^ b % 2:Nat):Int)=((1:Nat):Int):=by injection h
  omega
 ·intro h
  rw[h]
theorem xA(x b:Nat):decide (V.int (Builtin.bitAnd ((x:Int) / 2 ^ ((b:Int)).toNat) 1)=V.int 1)=x.testBit b:=by
 rw[<- qe x b,fb]
theorem dk{ns:List Int}{i:Nat}(h:i<ns.length):(ns.map V.int)[i]?=some (.int (ns.getD i 0)):=by
 rw[dR,aK h,aZ,aK h];rfl
theorem gG(x:Int)(k:Nat)(hk:0<k):∃r:Nat,r<k/\x % (k:Int)=(r:Int):=
 ⟨(x % (k:Int)).toNat,by have h1:=pL x (show(k:Int)≠0 by omega);have h2:=wq x (show(0:Int)<k by omega);omega,by have h1:=pL x (show(k:Int)≠0 by omega);omega⟩
theorem ui{α:Type}(xs:List α)(r:Nat)(y:α):(xs.take r++y::xs.drop r).Perm (y::xs):=by
 have:=List.perm_middle (a:=y) (l₁:=xs.take r) (l₂:=xs.drop r);rw[Oy]at this;exact this
section
variable {P:Program} {w:World} {K:W.Frag} {mg:Str->Option Value} {base:Heap} {f:Addr} {fd:FuncData}
abbrev BJ:Stmt:=top 52
theorem Mq:bh ["_law_family_here","_law_numbers","_law_turn","_law_k","_law_found","_law_one","_law_bits"] ["_law_family_here","_law_numbers"] (ay BJ):=⟨rfl,rfl,rfl,by decide +kernel,rfl,by decide +kernel,by decide +kernel⟩
noncomputable def Di(K:W.Frag):Sp:=λvs H Q _=>∃(u d:Nat) (F:List Nat) (ns:List Int),vs = [.ref u,.ref d]/\ai K H u (F.map nV)/\ai K H d (ns.map V.int)/\F.length<=ns.length/\F.length<=24 /\
 ∀L us M H',Same H H'->H L=none->H' L=some (.lst (us.map nV))->M.Perm F->cL M.length (Ev.eB M) us->Q (.ref L) H'
theorem Wh (F:aT K "_law_ups" "_law_ups" BJ f fd) (T:Txt mg):aN P w K mg base bf 1 f fd ["_law_family_here","_law_numbers"] (Di K):=by
 refine F.ok Mq (λvs H Q E h=>?_) (λcdv A outer s H vs Q E hr h=>?_)
 ·obtain⟨u,d,F,ns,rfl,_⟩:=h
  rfl
 ·obtain⟨u,d,F,ns,rfl,hu,hd,hl,hn,kk⟩:=h
  have nd:=Mq.nd;refine⟨_,(ao (aJ (i:=2) nd rfl (Or.inl rfl) (b9 ag))
   (ao (b_ cy rfl (cS rfl T.range (ae (aR (cj (K:=K) rfl) rfl T.len cw (ae (pv 0) ag)) ag)) (aY (i:=3) nd rfl (Or.inl rfl))
   (aq (c9 (cR (K:=K) rfl fU sr wX uy (pv 2) (ae (av cq (aH (aX (K:=K) rfl) (pv 1) (pv 3) (λ_ _=>rfl)) (av dI (pv 3) aj)) (ae (aH (aX (K:=K) rfl) (pv 0) (pv 3) (λ_ _=>rfl)) ag))))))
   (ao (aJ (i:=4) nd rfl (Or.inl rfl) (b9 ag))
   (ao (b_ cy rfl (dJ (K:=K) rfl (pv 2)) (aY (i:=5) nd rfl (Or.inl rfl))
   (ao (aJ (i:=6) nd rfl (Or.inl rfl) aj)
   (ao (b_ cy rfl (cS rfl T.range (ae (aR (cj (K:=K) rfl) rfl T.len cw (ae (pv 2) ag)) ag)) (aY (i:=3) nd rfl (Or.inl rfl))
   (aq (bq (aU bQ (av gq (aH (aX (K:=K) rfl) (pv 2) (pv 3) (λ_ _=>rfl)) (pv 5)) (pv 5) (aP _)) (aq (aJ (i:=6) nd rfl (Or.inl rfl) (av qK (pv 6) (av gw aj (pv 3))))) bx)))
   (aq (c9 (cR (K:=K) rfl fU lQ nQ k_ (pv 4) (ae (pv 6) ag)))))))
   (aq (aS (pv 4))))))),?_⟩
  have en:(((F.map nV).length:Int)).toNat=F.length:=by rw[bJ,aB]
  refine⟨by show 0<=sizeLine;decide,λL hL=>?_⟩;refine⟨_,rfl,u,_,rfl,.inl ((Same.put hL).seq hu),_,rfl,by rw[aB];exact(bH (by omega)).1,by rw[aB];exact(bH (by omega)).2,dZ (lo:=0) (n:=(((F.map nV).length:Int)).toNat) (λi σ H2=>∃(v3:Option V) (G:List Nat),σ = [some (.ref u),some (.ref d),some (.ref L),v3,none,none,none]/\Same H H2/\H2 L=some (.lst (G.map nV))/\G.Perm (F.take i)) ⟨none,[],rfl,Same.put hL,ak,by simp⟩ ?_ ?_⟩
  ·rintro i σ H2 hi ⟨v3,G,rfl,s2,hl2,hG⟩
   rw[en]at hi;obtain⟨r,hr,er⟩:=gG (ns.getD i 0) (i+1) (by omega);have QQ:ns.getD i 0 % (0+(i:Int)+1)=(r:Int):=by rw[<- er];push_cast;rw[fb]
   have tT:G.length=i:=by rw[hG.length_eq,gU];omega
   refine⟨_,rfl,.inl ⟨rfl,_,ai.of hl2⟩,_,rfl,_,rfl,d,_,_,_,rfl,rfl,s2.seq hd,at0 (dk (i:=i) (by omega)),_,rfl,_,_,rfl,rfl,_,_,rfl,rfl,by omega,_,rfl,_,rfl,u,_,_,_,rfl,rfl,s2.seq hu,at0 (gH hi),L,_,r,_,rfl,by dsimp only;rw[QQ],hl2,by rw[aB];omega,lB (by rw[aB];omega),?_⟩;refine⟨_,G.take r++F.getD i 0::G.drop r,rfl,λb o e=>?_,by rw[ak,gW,cI,nA,pO],?_⟩
   ·rw[aA (cF e hL)]
    exact s2 _ _ e
   ·rw[wF hi]
    refine(ui G r _).trans ?_;rw[aZ,aK hi];refine List.Perm.trans (List.Perm.cons _ hG) ?_;exact(Ew _ _).symm
  ·rintro σ H2 ⟨v3,M,rfl,s2,hl2,hM⟩
   rw[en,pR]at hM;have RW:M.length<=24:=by rw[hM.length_eq];exact hn
   have em:(((M.map nV).length:Int)).toNat=M.length:=by rw[bJ,aB]
   refine⟨by show 0<=sizeLine;decide,λL2 hL2=>?_⟩;refine⟨_,rfl,L,rfl,⟨_,(Same.put hL2).seq (ai.of hl2)⟩,jn (K:=K) (a:=L) (xs:=M.map nV) (λi σ H3=>∃(v3 v5 v6:Option V),σ = [some (.ref u),some (.ref d),some (.ref L),v3,some (.ref L2),v5,v6]/\Same H2 H3/\H3 L2=some (.lst (((List.range i).map λa=>dv (Ev.eB M a) M.length).map nV))) ⟨_,none,none,rfl,Same.put hL2,ak⟩ (λi σ H3 _ ⟨_,_,_,_,s3,_⟩=>s3.seq (ai.of hl2)) ?_ ?_⟩
   ·rintro i x σ H3 hx ⟨v3,v5,v6,rfl,s3,hl3⟩
    have hi:i<M.length:=by have:=(cG.mp hx).1;rwa [aB]at this
    have ex:x=nV (M.getD i 0):=by rw[gH hi]at hx;exact(dU hx).symm
    subst ex;have fk:=s3.seq (ai.of (K:=K) hl2);refine⟨_,rfl,L,_,rfl,.inl fk,_,rfl,by rw[aB];exact(bH (by omega)).1,by rw[aB];exact(bH (by omega)).2,dZ (lo:=0) (n:=(((M.map nV).length:Int)).toNat) (λj σ H4=>H4=H3/\∃v3:Option V,σ = [some (.ref u),some (.ref d),some (.ref L),v3,some (.ref L2),some (nV (M.getD i 0)),some (nV (dv (Ev.eB M i) j))]) ⟨rfl,v3,rfl⟩ ?_ ?_⟩
    ·rintro j σ H4 hj ⟨rfl,v3,rfl⟩
     rw[em]at hj;refine⟨_,rfl,_,rfl,L,_,_,_,rfl,rfl,fk,at0 (gH hj),_,rfl,_,_,rfl,rfl,_,rfl,rfl,_,rfl,?_⟩;have ea:decide (V.int (Builtin.bitAnd ((M.getD j 0:Nat):Int) ((M.getD i 0:Nat):Int))=nV (M.getD i 0))=Ev.eB M i j:=by
      rw[jP,Ev.eB,Nat.and_comm]
      congr 1
      apply propext
      exact⟨λh=>Int.natCast_inj.mp (V.int.inj h),λh=>by rw[show M.getD i 0&&& M.getD j 0=M.getD i 0 from h]⟩
     refine bB (λh=>?_) (λh=>?_)
     ·have hle:Ev.eB M i j=true:=ea▸h
      have eo:Builtin.bitOr ((dv (Ev.eB M i) j:Nat):Int) (1*2 ^ ((0:Int)+(j:Int)).toNat)=((dv (Ev.eB M i) (j+1):Nat):Int):=by
       rw[show dv (Ev.eB M i) (j+1)=dv (Ev.eB M i) j ||| 2 ^ j by show(if _ then _ else _)=_;rw[az hle],fb,bJ,jE,show(2:Int) ^ j=((2 ^ j:Nat):Int)by norm_cast,qM]
      refine⟨_,rfl,_,rfl,_,_,rfl,rfl,⟨by omega,by omega,by decide⟩,_,_,rfl,rfl,rfl,some (.int (0+(j:Int))),?_⟩;dsimp only;rw[eo];rfl
     ·have hle:¬ Ev.eB M i j=true:=λz=>by rw[ea,z]at h;exact h rfl
      refine⟨rfl,some (.int (0+(j:Int))),?_⟩;rw[show dv (Ev.eB M i) (j+1)=dv (Ev.eB M i) j by show(if _ then _ else _)=_;rw[au hle]];rfl
    ·rintro σ H4 ⟨rfl,v3,rfl⟩
     rw[em];refine⟨_,rfl,.inl ⟨rfl,_,ai.of hl3⟩,_,rfl,L2,_,_,rfl,rfl,hl3,lB (by simp;omega),?_⟩;refine⟨_,_,_,rfl,λb o e=>?_,?_⟩
     ·rw[aA (cF e hL2)]
      exact s3 _ _ e
     ·rw[ak,nB,gW,gW];rfl
   ·rintro σ H3 ⟨v3,v5,v6,rfl,s3,hl3⟩
    rw[aB]at hl3;refine⟨_,rfl,kk L2 _ M H3 (s2.trans s3) (Same.none s2 hL2) hl3 hM (cL.of _ _)⟩
end
noncomputable def jD(c:Bool)(H:Hp)(a:Addr)(xs:List V):Prop:=match c with
 |true=>H a=some (.lst xs)
 |false=>H a=some (.tup xs)
theorem jD.sq{c:Bool}{K:W.Frag}{H:Hp}{a:Addr}{xs:List V}(h:jD c H a xs):Sq c K H a xs:=by
 cases c with
 |true=>exact ai.of h
 |false=>exact aQ.of h
theorem jD.same{c:Bool}{H H':Hp}{a:Addr}{xs:List V}(s:Same H H')(h:jD c H a xs):jD c H' a xs:=by
 cases c with
 |true=>exact s _ _ h
 |false=>exact s _ _ h
noncomputable def Leaf(x:V):Prop:=(∃i,x = .int i)\/x = .non\/(∃b,x = .bl b)\/∃t,x = .str t
noncomputable def Like(R:Hp->V->V->Prop)(H:Hp)(x y:V):Prop:=(Leaf x/\x=y)\/∃(c:Bool) (a b:Nat) (xs ys:List V),x = .ref a/\y = .ref b/\jD c H a xs/\jD c H b ys/\Paired (R H) xs ys/\xs.length<=1000
theorem Kg{α β γ:Type}{F:α->β->Prop}{G:α->γ->Prop}{R:β->γ->Prop}(h:∀p x y,F p x->G p y->R x y):∀{ps:List α} {xs:List β} {ys:List γ},Paired F ps xs->Paired G ps ys->Paired R xs ys
 |_,_,_,.nil,.nil=>.nil
 |_,_,_,.cons a t,.cons b u=>.cons (h _ _ _ a b) (Kg h t u)
noncomputable def rN:Hp->V->V->Prop:=λ_ _ _=>False
abbrev R1:=Like rN
abbrev sI:=Like R1
abbrev R3:=Like sI
theorem Like.mono{R:Hp->V->V->Prop}(mono:∀H H' x y,Same H H'->R H x y->R H' x y):∀H H' x y,Same H H'->Like R H x y->Like R H' x y:=by
 rintro H H' x y s (h|⟨c,a,b,xs,ys,e1,e2,h1,h2,h3,h4⟩)
 ·exact .inl h
 ·exact .inr ⟨c,a,b,xs,ys,e1,e2,h1.same s,h2.same s,Paired.c5 h3 λ_ _ q=>mono _ _ _ _ s q,h4⟩
theorem tL:∀H H' x y,Same H H'->rN H x y->rN H' x y:=λ_ _ _ _ _ h=>h
theorem WQ{H:Hp}{p:Nat × Nat}{x y:V}(h1:cY H p x)(h2:cY H p y):sI H x y:=by
 obtain⟨t,rfl,q⟩:=h1;obtain⟨u,rfl,r⟩:=h2;exact .inr ⟨false,t,u,_,_,rfl,rfl,q,r,.cons (.inl ⟨.inl ⟨_,rfl⟩,rfl⟩) (.cons (.inl ⟨.inl ⟨_,rfl⟩,rfl⟩) .nil),by show 2<=1000;decide⟩
theorem nL.same{C:Addr}{H H':Hp}{p n:Nat}{R:Nat->Nat->Bool}(s:Same H H')(h:nL C H p n R):nL C H' p n R:=by
 obtain⟨dx,vp,vr,vj,vm,a,b,c,d,e⟩:=h;exact⟨dx,vp,vr,vj,vm,s _ _ a,b.same s,c.same s,d.same s,e.same s⟩
theorem Q9 (n:Nat) (vp vr vj vm:V):(qo n vp vr vj vm).lookup ("count" : Str)=some (.int n):=by
 unfold qo;rw[iO,au (by decide +kernel),iO,au (by decide +kernel),iO,au (by decide +kernel),iO,au (by decide +kernel),iO,az rfl]
theorem Q_ (n:Nat) (vp vr vj vm:V):(qo n vp vr vj vm).lookup ("pairs" : Str)=some vp:=by
 unfold qo;rw[iO,au (by decide +kernel),iO,au (by decide +kernel),iO,au (by decide +kernel),iO,az rfl]
theorem WR{n:Nat}{R R':Nat->Nat->Bool}(h:∀a b,a<n->b<n->R a b=R' a b):eD n R=eD n R':=by
 unfold eD;have:∀l∈List.range n,(((List.range n).filter λh=>!decide (l=h)&&R l h).map λh=>(l,h))=(((List.range n).filter λh=>!decide (l=h)&&R' l h).map λh=>(l,h)):=by
  intro l hl
  congr 1
  apply List.filter_congr
  intro x hx;rw[h l x (by simpa using hl) (by simpa using hx)]
 rw[List.flatMap_def,List.flatMap_def,pN this]
theorem PJ(x b:Nat):decide (V.int (Builtin.bitAnd ((x:Int) / 2 ^ ((b:Int)).toNat) 1)=V.int 0) = !x.testBit b:=by
 have e1:((x:Int) / 2 ^ ((b:Int)).toNat)=((x / 2 ^ b:Nat):Int):=by
  rw[bJ];push_cast;rfl
 rw[e1,show(1:Int)=((1:Nat):Int)from rfl,jP,Nat.and_one_is_mod,Oz];have h2:x / 2 ^ b % 2=0\/x / 2 ^ b % 2=1:=by omega
 rcases h2 with h2|h2<;>rw[h2]<;>rfl
theorem cL.len'{n:Nat}{R:Nat->Nat->Bool}{us:List Nat}(h:cL n R us):(((us.map nV).length:Int)).toNat=n:=by rw[bJ,aB,h.len]
theorem cL.get{n:Nat}{R:Nat->Nat->Bool}{us:List Nat}(h:cL n R us){a:Nat}(ha:a<n):(us.map nV)[a]?=some (nV (us.getD a 0)):=gH (by rw[h.len];exact ha)
noncomputable def jx(n:Nat)(R:Nat->Nat->Bool)(a b:Nat):Bool:=!decide (a=b)&&R a b&&(((List.range n).filter λc=>R a c&&R c b).length==2)
section
variable {P:Program} {w:World} {K:W.Frag} {mg:Str->Option Value} {base:Heap} {f:Addr} {fd:FuncData}
abbrev vA:Stmt:=top 54
theorem Mg:bh ["_law_ups_here","_law_found","_law_a"] ["_law_ups_here"] (ay vA):=⟨rfl,rfl,rfl,by decide +kernel,rfl,by decide +kernel,by decide +kernel⟩
noncomputable def vN(K:W.Frag):Sp:=λvs H Q _=>∃(u n:Nat) (R:Nat->Nat->Bool) (us:List Nat),vs = [.ref u]/\ai K H u (us.map nV)/\cL n R us/\n<=24 /\
 ∀l ws H',Same H H'->H l=none->H' l=some (.lst ws)->ws.length<=576->Paired (cY H') (eD n R) ws->Q (.ref l) H'
theorem V6 (F:aT K "_law_pairs" "_law_pairs" vA f fd) (T:Txt mg):aN P w K mg base bf 1 f fd ["_law_ups_here"] (vN K):=by
 refine F.ok Mg (λvs H Q E h=>?_) (λcdv A outer s H vs Q E hr h=>?_)
 ·obtain⟨u,n,R,us,rfl,_⟩:=h
  rfl
 ·obtain⟨u,n,R,us,rfl,hu,hU,hn,kk⟩:=h
  have nd:=Mg.nd;have en:=hU.len';have b1:-(2 ^ 62)<=((us.map nV).length:Int)/\((us.map nV).length:Int)<2 ^ 62:=by rw[aB,hU.len];exact bH (by omega)
  refine⟨_,(ao (aJ (i:=1) nd rfl (Or.inl rfl) (b9 ag))
   (ao (b_ cy rfl (cS rfl T.range (ae (aR (cj (K:=K) rfl) rfl T.len cw (ae (pv 0) ag)) ag)) (aY (i:=2) nd rfl (Or.inr rfl))
   (aq (aJ (i:=1) nd rfl (Or.inl rfl) (av gu (pv 1) (dg (own:=["_law_b"]) (fr:=[("_law_a", 2),("_law_ups_here", 0)]) rfl (cM (ay vA) ["_law_ups_here","_law_found","_law_a"] rfl rfl (by decide +kernel)) (cS rfl T.range (ae (aR (cj (K:=K) rfl) rfl T.len cw (ae (pv 0) ag)) ag)) (λ_ _ _ _=>⟨(aY (i:=0) (by decide +kernel:(["_law_b","_law_a","_law_ups_here"]:List Str).Nodup) rfl (Or.inl rfl)),(oX (PW.pt (gK (aU jW (pv 1) (pv 0) (aP _)) (gN (aU bQ (av gq (av lb (aH (aX (K:=K) rfl) (pv 2) (pv 1) (λ_ _=>rfl)) (pv 0)) aj) aj (aP _)))))),(cZ (ae (pv 1) (ae (pv 0) ag)))⟩))))))
   (aq (aS (pv 1))))),?_⟩
  refine⟨by show 0<=sizeLine;decide,λL0 hL0=>?_⟩;refine⟨_,rfl,u,_,rfl,.inl ((Same.put hL0).seq hu),_,rfl,b1.1,b1.2,dZ (lo:=0) (n:=(((us.map nV).length:Int)).toNat) (λi σ H2=>∃(v2:Option V) (l:Addr) (ws:List V),σ = [some (.ref u),some (.ref l),v2]/\Same H H2/\H l=none/\H2 l=some (.lst ws)/\ws.length<=24*i /\
   Paired (cY H2) ((List.range i).flatMap λl=>((List.range n).filter λh=>!decide (l=h)&&R l h).map λh=>(l,h)) ws) ⟨none,L0,[],rfl,Same.put hL0,hL0,ak,by simp,.nil⟩ ?_ ?_⟩
  ·rintro i σ H2 hi ⟨v2,l,ws,rfl,s2,hl0,hl,hlen,hp⟩
   rw[en]at hi;refine⟨_,rfl,_,rfl,u,_,rfl,.inl (s2.seq hu),_,rfl,b1.1,b1.2,λD hD=>?_⟩;refine tE (λj=>!decide (i=j)&&R i j) (λj v H=>∃t,v = .ref t/\t≠D/\H t=some (.tup [.int i,.int (j:Int)])) src_range hD (by rw[en];exact dM hn) (λj v H H' s ⟨b,e,hb,q⟩=>⟨b,e,hb,s _ _ hb q⟩) (λj H3 Kt Kf hj hs hy hkt hkf=>?_) (λH3 ys hs hl3 hp3=>?_)
   ·rw[en]at hj
    obtain⟨zs,hz⟩:=hy;refine⟨_,rfl,_,rfl,rfl,_,rfl,?_⟩;have ed:(!decide (V.int (0+(i:Int))=V.int (0+(j:Int)))) = !decide (i=j):=by
     congr 1
     rw[fb];exact yr
    rw[ed];refine bB (λh=>?_) (λh=>?_)
    ·refine⟨_,rfl,_,rfl,u,_,_,_,rfl,rfl,hs.seq (s2.seq hu),at0 (hU.get hi),_,rfl,_,_,rfl,rfl,by omega,_,_,rfl,rfl,rfl,_,rfl,?_⟩
     rw[qe,hU.bit i j hi hj];refine bB (λh'=>?_) (λh'=>?_)
     ·refine⟨_,rfl,_,rfl,by show 2<=sizeLine;decide,λt ht=>?_⟩
      refine hkt _ _ (by rw[h,h',jB]) (Same.put ht) ⟨t,rfl,(λe=>by rw[e,hz]at ht;cases ht),?_⟩;rw[ak,fb,fb]
     ·exact hkf _ (by rw[h,jB];simpa using h') (Same.refl _)
    ·refine aI ?_
     have h2:(!decide (i=j))=false:=by simpa using h
     exact hkf _ (by rw[h2,j_]) (Same.refl _)
   ·rw[en]at hp3
    have HX:ys.length<=n:=by
     have h1:=cV hp3;have h2:=rY (λj=>!decide (i=j)&&R i j) (List.range n);rw[jG]at h2;omega
    refine⟨l,D,ws,ys,rfl,rfl,hs _ _ hl,hl3,by have:=@cP 100000 (by omega);omega,λq hq=>?_⟩;refine⟨_,q,ws++ys,rfl,(s2.trans hs).trans (Same.put hq),Same.none (s2.trans hs) hq,ak,by rw[dD];omega,?_⟩;rw[u9];refine gI.same (Same.put hq) (lh (gI.same hs hp) (qO ?_));exact Paired.c5 hp3 λj v ⟨t,e,_,q⟩=>⟨t,e,q⟩
  ·rintro σ H2 ⟨v2,l,ws,rfl,s2,hl0,hl,hlen,hp⟩
   rw[en]at hp hlen;exact⟨_,rfl,kk l ws H2 s2 hl0 hl (by omega) hp⟩
abbrev vy:Stmt:=top 55
theorem Ma:bh ["_law_ups_here","_law_a","_law_b"] ["_law_ups_here","_law_a","_law_b"] (ay vy):=⟨rfl,rfl,rfl,by decide +kernel,rfl,by decide +kernel,by decide +kernel⟩
noncomputable def Cw(K:W.Frag):Sp:=λvs H Q _=>∃(u a b n:Nat) (R:Nat->Nat->Bool) (us:List Nat),vs = [.ref u,.int a,.int b]/\ai K H u (us.map nV)/\cL n R us/\n<=24/\a<n/\b<n/\∀H',Same H H'->Q (.bl (jx n R a b)) H'
theorem VN (F:aT K "_law_is_step" "_law_is_step" vy f fd) (T:Txt mg):aN P w K mg base bf 1 f fd ["_law_ups_here","_law_a","_law_b"] (Cw K):=by
 refine F.ok Ma (λvs H Q E h=>?_) (λcdv A outer s H vs Q E hr h=>?_)
 ·obtain⟨u,a,b,n,R,us,rfl,_⟩:=h
  rfl
 ·obtain⟨u,a,b,n,R,us,rfl,hu,hU,hn,ha,hb,kk⟩:=h
  have nd:=Ma.nd;have en:=hU.len';have b1:-(2 ^ 62)<=((us.map nV).length:Int)/\((us.map nV).length:Int)<2 ^ 62:=by rw[aB,hU.len];exact bH (by omega)
  refine⟨_,(ao (bq (PW.pt (fN (aU bQ (pv 1) (pv 2) (aP _)) (gC (aU bQ (av gq (av lb (aH (aX (K:=K) rfl) (pv 0) (pv 1) (λ_ _=>rfl)) (pv 2)) aj) aj (aP _))))) (aq (aS iQ)) bx)
   (aq (aS (hZ bQ (aR (cj (K:=K) rfl) rfl T.len cw (ae (dg (own:=["_law_c"]) (fr:=[("_law_ups_here", 0),("_law_a", 1),("_law_b", 2)]) rfl (cM (ay vy) ["_law_ups_here","_law_a","_law_b"] rfl rfl (by decide +kernel)) (cS rfl T.range (ae (aR (cj (K:=K) rfl) rfl T.len cw (ae (pv 0) ag)) ag)) (λ_ _ _ _=>⟨(aY (i:=0) (by decide +kernel:(["_law_c","_law_ups_here","_law_a","_law_b"]:List Str).Nodup) rfl (Or.inl rfl)),(oX (PW.pt (gK (aU bQ (av gq (av lb (aH (aX (K:=K) rfl) (pv 1) (pv 2) (λ_ _=>rfl)) (pv 0)) aj) aj (aP _)) (gN (aU bQ (av gq (av lb (aH (aX (K:=K) rfl) (pv 1) (pv 0) (λ_ _=>rfl)) (pv 3)) aj) aj (aP _)))))),(pv 0)⟩)) ag)) aj (aP _))))),?_⟩
  refine⟨_,rfl,_,rfl,rfl,_,rfl,bB (λh=>?_) (λh=>?_)⟩
  ·have e:a=b:=by have:=V.int.inj (oN h);omega
   refine a_ ?_;have:=kk H (Same.refl _);rw[jx,bK e]at this;exact this
  ·have e:¬ a=b:=λe=>h (by rw[e];exact bK rfl)
   refine⟨_,rfl,_,rfl,u,_,_,_,rfl,rfl,hu,bp (hU.get ha),_,rfl,_,_,rfl,rfl,by omega,_,_,rfl,rfl,rfl,_,rfl,?_⟩;rw[PJ,hU.bit a b ha hb];refine bB (λh2=>?_) (λh2=>?_)
   ·have h3:R a b=false:=by simpa using h2
    have:=kk H (Same.refl _);rw[jx,h3,Eb,j_]at this;exact this
   ·have h3:R a b=true:=by simpa using h2
    refine⟨_,rfl,u,_,rfl,.inl hu,_,rfl,b1.1,b1.2,λD hD=>qi (λc=>R a c&&R c b) nV src_range hD (by rw[en];exact dM hn) (λj H3 Kt Kf hj hs hkt hkf=>?_) (λH3 hs3 hl3=>?_)⟩
    ·rw[en]at hj
     refine⟨_,rfl,_,rfl,u,_,_,_,rfl,rfl,hs.seq hu,bp (hU.get ha),_,rfl,_,_,rfl,rfl,by omega,_,_,rfl,rfl,rfl,_,rfl,?_⟩;rw[qe,hU.bit a j ha hj];refine bB (λh4=>?_) (λh4=>?_)
     ·refine⟨_,rfl,_,rfl,u,_,_,_,rfl,rfl,hs.seq hu,at0 (hU.get hj),_,rfl,_,_,rfl,rfl,by omega,_,_,rfl,rfl,rfl,_,rfl,?_⟩
      rw[xA,hU.bit j b hj hb];refine bB (λh5=>?_) (λh5=>?_)
      ·refine⟨_,rfl,?_⟩
       rw[fb];exact hkt _ (by rw[h4,h5];rfl) (Same.refl _)
      ·exact hkf _ (by rw[h4,jB];simpa using h5) (Same.refl _)
     ·have h5:R a j=false:=by simpa using h4
      exact aI (hkf _ (by rw[h5,j_]) (Same.refl _))
    ·refine⟨D,_,rfl,.inl (ai.of hl3),rfl,?_⟩
     have:=kk H3 hs3;rw[jx,bE e,h3,Bool.not_false,jB,jB]at this;rw[aB,en];have e2:decide (V.int ((((List.range n).filter λc=>R a c&&R c b).length:Nat):Int)=V.int 2)=(((List.range n).filter λc=>R a c&&R c b).length==2):=by
      rw[gQ,kH,gZ];exact⟨λh=>by have:=V.int.inj h;omega,λh=>by rw[h];rfl⟩
     rw[e2];exact this
end
theorem jv{t u:TS}{D:Ends}{σ:L2.St}{H:Hp}(C:L2.St->Hp->Prop)(main:∀D':Ends,D'.rt=D.rt->(∀σ' H',C σ' H'->D'.nx σ' H')->t D' σ H)(rest:∀σ' H',C σ' H'->u D σ' H'):bD t u D σ H:=
 main {D with nx:=λσ' H'=>u D σ' H'} rfl rest
section
variable {P:Program} {w:World} {K:W.Frag} {mg:Str->Option Value} {base:Heap} {f:Addr} {fd:FuncData}
abbrev Bw:Stmt:=top 49
theorem Mh:bh ["_law_number","_law_found"] ["_law_number"] (ay Bw):=⟨rfl,rfl,rfl,by decide +kernel,rfl,by decide +kernel,by decide +kernel⟩
noncomputable def CW:Sp:=λvs H Q _=>∃n:Nat,vs = [.int n]/\∀i:Int,Q (.int i) H
theorem V8 (F:aT K "_law_parity" "_law_parity" Bw f fd) (T:Txt mg):aN P w K mg base bf 1 f fd ["_law_number"] CW:=by
 refine F.ok Mh (λvs H Q E h=>?_) (λcdv A outer s H vs Q E hr h=>?_)
 ·obtain⟨n,rfl,_⟩:=h
  rfl
 ·obtain⟨n,rfl,kk⟩:=h
  have nd:=Mh.nd;refine⟨_,(ao (aJ (i:=1) nd rfl (Or.inl rfl) aj)
   (ao (KH cy (aU mM (pv 0) aj (aP _))
   (ao (aJ (i:=1) nd rfl (Or.inl rfl) (av cq (av dI (pv 1) (pv 0)) aj))
   (aq (aJ (i:=0) nd rfl (Or.inl rfl) (av oQ (pv 0) aj)))))
   (aq (aS (pv 1))))),?_⟩
  refine⟨λm σ H2=>H2=H/\∃i:Int,σ = [some (.int (m:Int)),some (.int i)],⟨n,rfl,0,rfl⟩,?_⟩;rintro m σ H2 ⟨rfl,i,rfl⟩;refine⟨_,rfl,_,_,rfl,rfl,_,rfl,bB (λh=>?_) (λh=>?_)⟩
  ·have hm:0<m:=by have:=oN h;omega
   refine⟨_,λσ' H' h=>h,?_⟩;refine⟨_,rfl,_,rfl,_,_,rfl,rfl,_,_,rfl,rfl,(by show(0:Int)<2;decide),_,rfl,_,_,rfl,rfl,⟨by decide,by decide⟩,m / 2,by omega,rfl,(i+(m:Int)) % 2,?_⟩;rw[Int.natCast_ediv];rfl
  ·exact⟨_,rfl,kk i⟩
abbrev Bx:Stmt:=top 50
theorem Mi:bh ["_law_wide","_law_found","_law_sign","_law_plane","_law_row"] ["_law_wide"] (ay Bx):=⟨rfl,rfl,rfl,by decide +kernel,rfl,by decide +kernel,by decide +kernel⟩
noncomputable def CZ(K:W.Frag):Sp:=λvs H Q _=>∃wd:Nat,vs = [.int wd]/\wd<=3 /\
 ∀L F H',Same H H'->H L=none->H' L=some (.lst (F.map nV))->Fam F->F.length<=24->(∀x∈F,x<256)->Q (.ref L) H'
theorem V9 (F:aT K "_law_planes" "_law_planes" Bx f fd) (T:Txt mg) (xX:aF P w K mg base "_law_parity" ["_law_number"] 1 CW) (om:aF P w K mg base "_law_masks" ["_law_numbers","_law_wide","_law_most"] 1 (vM K)):aN P w K mg base bf 2 f fd ["_law_wide"] (CZ K):=by
 refine F.ok Mi (λvs H Q E h=>?_) (λcdv A outer s H vs Q E hr h=>?_)
 ·obtain⟨wd,rfl,_⟩:=h
  rfl
 ·obtain⟨wd,rfl,Iv,kk⟩:=h
  have nd:=Mi.nd;refine⟨_,(ao (aJ (i:=1) nd rfl (Or.inl rfl) (b9 ag))
   (ao (b_ cy rfl (qR rfl T.range (ae aj (ae (av gw aj (pv 0)) ag))) (aY (i:=2) nd rfl (Or.inl rfl))
   (ao (aJ (i:=3) nd rfl (Or.inl rfl) aj)
   (ao (b_ cy rfl (cS rfl T.range (ae (av gw aj (pv 0)) ag)) (aY (i:=4) nd rfl (Or.inl rfl))
   (aq (bq (aU bQ (bj xX hr rfl (ae (av gq (pv 4) (pv 2)) ag)) aj (aP _)) (aq (aJ (i:=3) nd rfl (Or.inl rfl) (av qK (pv 3) (av gw aj (pv 4))))) bx)))
   (aq (c9 (cR (K:=K) rfl fU lQ nQ k_ (pv 1) (ae (pv 3) ag)))))))
   (aq (aS (bj om hr rfl (ae (pv 1) (ae (av gw aj (pv 0)) (ae aj ag (bw nofun)) (bw nofun)) (bw nofun))))))),?_⟩
  have hp1:2 ^ wd<=8:=jd (n:=2) (by decide) Iv;have hp0:0<2 ^ wd:=wM wd;have ew:((1:Int)*2 ^ ((wd:Int)).toNat)=((2 ^ wd:Nat):Int):=by rw[bJ,jE];norm_cast
  have cp:rK 1 (wd:Int):=⟨by omega,by omega,by decide⟩;refine⟨by show 0<=sizeLine;decide,λL hL=>?_⟩;have QS:((1:Int)*2 ^ ((wd:Int)).toNat - 1).toNat=2 ^ wd - 1:=by rw[ew];omega
  have QR:((1:Int)*2 ^ ((wd:Int)).toNat).toNat=2 ^ wd:=by rw[ew];omega
  refine⟨_,rfl,_,_,rfl,rfl,cp,_,_,rfl,⟨by decide,by decide,by rw[ew];omega,by rw[ew];omega⟩,dZ (lo:=1) (n:=((1:Int)*2 ^ ((wd:Int)).toNat - 1).toNat) (λi σ H2=>∃(v2 v3 v4:Option V) (xs:List Nat),σ = [some (.int wd),some (.ref L),v2,v3,v4]/\Same H H2/\H2 L=some (.lst (xs.map nV))/\xs.length=i) ⟨none,none,none,[],rfl,Same.put hL,ak,rfl⟩ ?_ ?_⟩
  ·rintro i σ H2 hi ⟨v2,v3,v4,xs,rfl,s2,hl2,hx⟩
   rw[QS]at hi;have es:(1:Int)+(i:Int)=((1+i:Nat):Int):=by omega
   refine⟨_,rfl,_,_,rfl,rfl,cp,_,rfl,by rw[ew];omega,by rw[ew];omega,dZ (lo:=0) (n:=((1:Int)*2 ^ ((wd:Int)).toNat).toNat) (λj σ H3=>H3=H2/\∃(x:Nat) (v4:Option V),σ = [some (.int wd),some (.ref L),some (.int (1+(i:Int))),some (nV x),v4]) ⟨rfl,0,v4,rfl⟩ ?_ ?_⟩
   ·rintro j σ H3 hj ⟨rfl,x,v4,rfl⟩
    rw[QR]at hj;have ej:(0:Int)+(j:Int)=(j:Int):=by omega
    have ea:Builtin.bitAnd (0+(j:Int)) (1+(i:Int))=((j&&& (1+i):Nat):Int):=by rw[es,ej,jP]
    refine⟨_,rfl,_,rfl,_,_,rfl,rfl,j&&& (1+i),by rw[<- ea];rfl,λy=>⟨rfl,_,rfl,bB (λh=>?_) (λh=>?_)⟩⟩
    ·have eo:Builtin.bitOr ((x:Nat):Int) (1*2 ^ ((0:Int)+(j:Int)).toNat)=((x ||| 2 ^ j:Nat):Int):=by
      rw[ej,bJ,jE,show(2:Int) ^ j=((2 ^ j:Nat):Int)by norm_cast,qM]
     refine⟨_,rfl,_,rfl,_,_,rfl,rfl,⟨by omega,by omega,by decide⟩,_,_,rfl,rfl,rfl,x ||| 2 ^ j,some (.int (0+(j:Int))),?_⟩;dsimp only;rw[eo];rfl
    ·exact⟨rfl,x,_,rfl⟩
   ·rintro σ H3 ⟨rfl,x,v4,rfl⟩
    refine⟨_,rfl,.inl ⟨rfl,_,ai.of hl2⟩,_,rfl,L,_,_,rfl,rfl,hl2,lB (by rw[aB];omega),?_⟩;refine⟨_,_,_,xs++[x],rfl,λb o e=>?_,by rw[ak,gW];rfl,by simp[hx]⟩;rw[aA (cF e hL)];exact s2 _ _ e
  ·rintro σ H2 ⟨v2,v3,v4,xs,rfl,s2,hl2,hx⟩
   refine⟨_,rfl,_,rfl,_,_,rfl,rfl,cp,L,2 ^ wd,24,xs.map λx:Nat=>(x:Int),by dsimp only;rw[ew];rfl,ai.of (by rw[iy];exact hl2),by simp,hp1,by decide,by decide,λL2 G H3 s3 kL hl3 hG tT my=>?_⟩;have h8:2 ^ 2 ^ wd<=256:=jd (n:=2) (by decide) hp1;exact kk L2 G H3 (s2.trans s3) (Same.none s2 kL) hl3 hG tT λx hx=>cg (my x hx) h8
end
theorem Kh{α β:Type}{G:α->β->Prop}:∀{l:List α} {m:List β} (k:Nat),Paired G l m->Paired G (l.drop k) (m.drop k)
 |_,_,0,h=>h
 |_,_,_+1,.nil=>.nil
 |_,_,k+1,.cons _ t=>Kh k t
theorem Aw{α β:Type}{G:α->β->Prop}:∀{l:List α} {m:List β} (k:Nat),Paired G l m->Paired G (l.take k) (m.take k)
 |_,_,0,_=>.nil
 |_,_,_+1,.nil=>.nil
 |_,_,k+1,.cons r t=>.cons r (Aw k t)
theorem qH{n:Nat}{R:Nat->Nat->Bool}{p:Nat × Nat}:p∈eD n R ↔ p.1<n/\p.2<n/\p.1≠p.2/\R p.1 p.2=true:=by
 unfold eD;rw[wC]
 constructor
 ·rintro⟨l,hl,h⟩
  obtain⟨k,hk,rfl⟩:=cU.mp h;obtain⟨h1,h2⟩:=rZ.mp hk;rw[dB]at h2;exact⟨by simpa using hl,by simpa using h1,by simpa using h2.1,h2.2⟩
 ·rintro⟨h1,h2,h3,h4⟩
  exact⟨p.1,by simpa using h1,cU.mpr ⟨p.2,rZ.mpr ⟨by simpa using h2,by rw[h4];simp[h3]⟩,rfl⟩⟩
structure rO (n:Nat) (R:Nat->Nat->Bool) (ps:List (Nat × Nat)):Prop where
 lt:∀p∈ps,p.1<n/\p.2<n
 le:∀p∈ps,R p.1 p.2=true
 all:∀a b,a<n->b<n->jx n R a b=true->(a,b)∈ps
theorem Kj(n:Nat)(R:Nat->Nat->Bool)(hn:n<=24):(eD n R).length<=24*24:=by
 have:∀k,((List.range k).flatMap λl=>((List.range n).filter λh=>!decide (l=h)&&R l h).map λh=>(l,h)).length<=24*k:=by
  intro k
  induction k with
  |zero=>simp
  |succ k ih =>
   rw[u9,dD,aB];have h2:=rY (λh=>!decide (k=h)&&R k h) (List.range n);rw[jG]at h2;omega
 have h:=this n;unfold eD;omega
noncomputable def Ef(H:Hp)(n:Nat)(R:Nat->Nat->Bool)(L lp:Addr)(wp:List V)(i:Nat)(H2:Hp):Prop:=∃(ws:List V) (qs:List (Nat × Nat)),Same H H2/\H2 L=some (.lst ws)/\H2 lp=some (.lst wp)/\ws.length<=i /\
   Paired (cY H2) (eD n R) wp/\Paired (cY H2) qs ws/\(∀q∈qs,q∈eD n R)/\∀j q,j<i->(eD n R)[j]?=some q->jx n R q.1 q.2=true->q∈qs
section
variable {P:Program} {w:World} {K:W.Frag} {mg:Str->Option Value} {base:Heap} {f:Addr} {fd:FuncData}
abbrev Bt:Stmt:=top 56
theorem L9:bh ["_law_ups_here","_law_numbers","_law_found","_law_more","_law_k","_law_number","_law_a","_law_b"] ["_law_ups_here","_law_numbers"] (ay Bt):=⟨rfl,rfl,rfl,by decide +kernel,rfl,by decide +kernel,by decide +kernel⟩
noncomputable def Cr(K:W.Frag):Sp:=λvs H Q _=>∃(u d n:Nat) (R:Nat->Nat->Bool) (us:List Nat) (ns:List Int),vs = [.ref u,.ref d]/\ai K H u (us.map nV)/\ai K H d (ns.map V.int)/\cL n R us/\0<n/\n<=24/\0<ns.length/\ns.length<=1000/\R 0 0=true /\
 ∀l ws ps H',Same H H'->H l=none->H' l=some (.lst ws)->ws.length<=600->Paired (cY H') ps ws->rO n R ps->Q (.ref l) H'
theorem VH (F:aT K "_law_handed" "_law_handed" Bt f fd) (T:Txt mg) (oq:aF P w K mg base "_law_pairs" ["_law_ups_here"] 1 (vN K)) (xU:aF P w K mg base "_law_is_step" ["_law_ups_here","_law_a","_law_b"] 1 (Cw K)) :
  aN P w K mg base bf 2 f fd ["_law_ups_here","_law_numbers"] (Cr K):=by
 refine F.ok L9 (λvs H Q E h=>?_) (λcdv A outer s H vs Q E hr h=>?_)
 ·obtain⟨u,d,n,R,us,ns,rfl,_⟩:=h
  rfl
 ·obtain⟨u,d,n,R,us,ns,rfl,hu,hd,hU,hpos,hn,Sj,aaf,Sx,kk⟩:=h
  have nd:=L9.nd;refine⟨_,(ao (aJ (i:=2) nd rfl (Or.inl rfl) (b9 ag))
   (ao (aJ (i:=3) nd rfl (Or.inl rfl) aj)
   (ao (b_ cy rfl (A_ (K:=K) true rfl rfl T.enumerate (ae (bj oq hr rfl (ae (pv 0) ag)) ag)) (Ku (K:=K) rfl rfl (oW (aY (i:=4) nd rfl (Or.inl rfl)) (oW (mQ (K:=K) (i:=6) (j:=7) rfl rfl nd rfl rfl rfl rfl) Az)))
   (ao (aJ (i:=5) nd rfl (Or.inl rfl) (av dI (aH (aX (K:=K) rfl) (pv 1) (av cq (pv 4) (aR (cj (K:=K) rfl) rfl T.len cw (ae (pv 1) ag))) (λ_ _=>rfl)) (av oS aj (pv 4))))
   (aq (bq (dh (bj xU hr rfl (ae (pv 0) (ae (pv 6) (ae (pv 7) ag (bw nofun)) (bw nofun)) (bw nofun)))) (aq (c9 (cR (K:=K) rfl fU sr wX uy (pv 2) (ae (av cq (av oQ (pv 5) aj) (av dI (aR (cj (K:=K) rfl) rfl T.len cw (ae (pv 2) ag)) aj)) (ae (cZ (ae (pv 6) (ae (pv 7) ag))) ag))))) (aq (bq (PW.pt (gK (aU bQ (av cq (pv 5) aj) aj (aP _)) (gN (aU la (pv 3) aj (aP _))))) (ao (c9 (cR (K:=K) rfl fU sr wX uy (pv 2) (ae (av cq (av oQ (pv 5) aj) (av dI (aR (cj (K:=K) rfl) rfl T.len cw (ae (pv 2) ag)) aj)) (ae (cZ (ae (pv 6) (ae (pv 7) ag))) ag))))
   (aq (aJ (i:=3) nd rfl (Or.inl rfl) (av dI (pv 3) aj)))) bx))))))
   (ao (bq (aU bQ (av cq (aH (aX (K:=K) rfl) (pv 1) aj (λ_ _=>rfl)) aj) aj (aP _)) (aq (aJ (i:=2) nd rfl (Or.inl rfl) (av gu (pv 2) (mP (mX (K:=K) rfl) (pv 2) Bc (h7 aj))))) bx)
   (ao (bq (aU bQ (av cq (aH (aX (K:=K) rfl) (pv 1) aj (λ_ _=>rfl)) aj) aj (aP _)) (aq (c9 (cR (K:=K) rfl fU lQ nQ k_ (pv 2) (ae (cZ (ae aj (ae aj ag))) ag)))) bx)
   (aq (aS (pv 2)))))))),?_⟩
  refine⟨by show 0<=sizeLine;decide,λL hL=>?_⟩;have sL:=Same.put hL (o:=.lst ([]:List V));dsimp only[aW];show bD _ _ _ [some (.ref u),some (.ref d),some (.ref L),some (.int 0),none,none,none,none] _;refine⟨_,rfl,u,n,R,us,rfl,sL.seq hu,hU,hn,λlp wp H1 s1 HW hlp hwp hpp=>?_⟩;have iT:=sL.trans s1;have hL1:H1 L=some (.lst []):=s1 _ _ ak;have hne:lp≠L:=λe=>by rw[e,ak]at HW;cases HW
  refine⟨lp,wp,rfl,ai.of hlp,zA (K:=K) (c:=true) (l:=lp) (xs:=wp) (λi σ H2=>∃(v4 v5 v6 v7:Option V) (m:Int) (ws:List V) (qs:List (Nat × Nat)),σ = [some (.ref u),some (.ref d),some (.ref L),some (.int m),v4,v5,v6,v7]/\Same H H2/\H2 L=some (.lst ws)/\H2 lp=some (.lst wp)/\ws.length<=i /\
   Paired (cY H2) (eD n R) wp/\Paired (cY H2) qs ws/\(∀q∈qs,q∈eD n R)/\∀j q,j<i->(eD n R)[j]?=some q->jx n R q.1 q.2=true->q∈qs)
   ⟨none,none,none,none,0,[],[],rfl,iT,hL1,hlp,eK _,hpp,.nil,(λq h=>nomatch h),λj q hj=>by omega⟩ (λi σ H2 ⟨_,_,_,_,_,_,_,_,_,_,h,_⟩=>ai.of h) ?_ ?_⟩
  ·rintro i x σ H2 Tt hx zJ ⟨v4,v5,v6,v7,m,ws,qs,rfl,s2,hl2,zL,hwl,mB,hpq,oA,hst⟩
   have hi:i<wp.length:=(cG.mp hx).1;obtain⟨q,hq,t,rfl,SN⟩:=jr mB hx;have sT:=Same.put zJ (o:=.tup [V.int (i:Int),.ref t]);refine⟨Tt,_,rfl,aQ.of ak,rfl,_,_,rfl,_,_,rfl,t,_,rfl,aQ.of (sT _ _ SN),rfl,_,_,rfl,_,_,rfl,rfl,rfl,?_⟩;dsimp only[aW];show bD _ _ _ [some (.ref u),some (.ref d),some (.ref L),some (.int m),some (.int (i:Int)),v5,some (.int (q.1:Int)),some (.int (q.2:Int))] _;obtain⟨hq1,hq2,t8,zN⟩:=qH.mp (eh hq);obtain⟨r,hr',er⟩:=gG (i:Int) ns.length Sj;have Bh:=s2.trans sT;refine⟨_,rfl,_,rfl,_,rfl,d,_,rfl,.inl (Bh.seq hd),_,_,rfl,rfl,by rw[aB];omega,d,_,_,_,rfl,rfl,Bh.seq hd,by rw[aB,er];exact bp (dk hr'),_,rfl,_,_,rfl,rfl,?_⟩;refine⟨.inl ⟨by decide,by decide⟩,_,_,rfl,rfl,?_⟩;dsimp only[aW];generalize hz:ns.getD r 0+7*(i:Int)=z;show rC _ _ _ _ [some (.ref u),some (.ref d),some (.ref L),some (.int m),some (.int (i:Int)),some (.int z),some (.int (q.1:Int)),some (.int (q.2:Int))] _;have key:∀(H3:Hp) (N:Hp->Prop),Same (upd H2 Tt (.tup [V.int (i:Int),.ref t])) H3->(∀H4,Ef H n R L lp wp (i+1) H4->N H4) ->
     Dr K "list" KQ (dO 2) (dA (ig (rI (λ_ j=>0<j) λi j=>V.int (i % j)) (ig (rI Ed λi j=>V.int (i / j)) (dO 5) (tC (V.int 3))) (ig (iS λi j=>V.int (i+j)) (mZ (o5 K) (dA (dO 2) fw)) (tC (V.int 1)))) (dA (vT (dA (dO 6) (dA (dO 7) fw))) fw))
      [some (.ref u),some (.ref d),some (.ref L),some (.int m),some (.int (i:Int)),some (.int z),some (.int (q.1:Int)),some (.int (q.2:Int))] H3 λ_ H'=>N H':=by
    intro H3 N s3 hN;have sA:=sT.trans s3;have hl3:=sA _ _ hl2;obtain⟨k,hk,ek⟩:=gG (z / 3) (ws.length+1) (by omega);refine⟨_,rfl,.inl ⟨rfl,_,ai.of hl3⟩,_,rfl,_,_,rfl,rfl,⟨by decide,by decide⟩,_,rfl,L,_,rfl,.inl (ai.of hl3),_,_,rfl,rfl,_,_,rfl,rfl,by omega,_,rfl,_,rfl,by show 2<=sizeLine;decide,λy hy=>?_⟩;have sY:=Same.put hy (o:=.tup [V.int (q.1:Int),.int (q.2:Int)]);refine⟨L,ws,k,.ref y,rfl,?_,sY _ _ hl3,by omega,cP (by have:=cV mB;have:(eD n R).length<=24*24:=Kj n R hn;omega),?_⟩
    ·dsimp only
     rw[show z / 3 % ((ws.length:Int)+1)=(k:Int)by rw[<- ek];push_cast;rfl]
    ·have sZ:=sA.trans sY
     have HS:=sY _ _ hl3;refine hN _ ⟨ws.take k++.ref y::ws.drop k,qs.take k++q::qs.drop k,λb o e=>?_,ak,?_,?_,qP HS (gI.same sZ mB),qP HS ?_,λp hp=>?_,λj p hj hp hsp=>?_⟩
     ·rw[aA (cF e hL)]
      exact sZ _ _ (s2 _ _ e)
     ·rw[aA hne]
      exact sZ _ _ zL
     ·rw[(ui ws k _).length_eq,dr];omega
     ·have Ia:=gI.same sZ hpq
      exact lh (Aw k Ia) (.cons ⟨y,rfl,ak⟩ (Kh k Ia))
     ·rcases bu.mp ((ui qs k q).mem_iff.mp hp)with rfl|hp
      ·exact eh hq
      ·exact oA p hp
     ·refine(ui qs k q).mem_iff.mpr ?_
      by_cases e:j=i
      ·subst e
       rw[hq]at hp;cases hp;exact cK
      ·exact bT _ (hst j p (by omega) hp hsp)
   have stay:∀H3,Same (upd H2 Tt (.tup [V.int (i:Int),.ref t])) H3->jx n R q.1 q.2=false->Ef H n R L lp wp (i+1) H3:=λH3 s3 zM=>by
    have sA:=sT.trans s3;refine⟨ws,qs,s2.trans sA,sA _ _ hl2,sA _ _ zL,by omega,gI.same sA mB,gI.same sA hpq,oA,λj p hj hp hsp=>?_⟩
    by_cases e:j=i
    ·subst e
     rw[hq]at hp;cases hp;rw[zM]at hsp;cases hsp
    ·exact hst j p (by omega) hp hsp
   refine⟨_,rfl,_,rfl,_,rfl,u,q.1,q.2,n,R,us,rfl,Bh.seq hu,hU,hn,hq1,hq2,λH3 s3=>⟨_,rfl,bB (λh=>?_) (λh=>?_)⟩⟩
   ·refine key H3 _ s3 λH4 hI=>?_
    obtain⟨ws',oZ,hI⟩:=hI;exact⟨_,_,_,_,m,ws',oZ,rfl,hI⟩
   ·have zM:jx n R q.1 q.2=false:=by simpa using h
    obtain⟨ws',oZ,hI⟩:=stay H3 s3 zM;refine⟨_,rfl,_,_,rfl,rfl,(by show(0:Int)<3;decide),rfl,_,rfl,bB (λh2=>?_) (λh2=>?_)⟩
    ·refine⟨_,rfl,_,_,rfl,rfl,_,rfl,bB (λh3=>?_) (λh3=>?_)⟩
     ·refine key H3 _ s3 λH4 hI=>?_
      obtain⟨ws',oZ,hI⟩:=hI;exact⟨_,rfl,_,_,rfl,rfl,_,_,_,_,m+1,ws',oZ,rfl,hI⟩
     ·exact⟨_,_,_,_,m,ws',oZ,rfl,hI⟩
    ·exact aI ⟨_,_,_,_,m,ws',oZ,rfl,hI⟩
  ·rintro σ H2 ⟨v4,v5,v6,v7,m,ws,qs,rfl,s2,hl2,zL,hwl,mB,hpq,oA,hst⟩
   have aag:ws.length<=576:=by
    have h1:=cV mB;have h2:=Kj n R hn;omega
   have hand:rO n R qs:=⟨λp hp=>⟨(qH.mp (oA p hp)).1,(qH.mp (oA p hp)).2.1⟩,λp hp=>(qH.mp (oA p hp)).2.2.2,λa b ha hb hs=>by
    have hm:(a,b)∈eD n R:=by
     unfold jx at hs;rw[dB,dB]at hs;exact qH.mpr ⟨ha,hb,by simpa using hs.1.1,hs.1.2⟩
    obtain⟨j,hj,e⟩:=lM hm;exact hst j (a,b) (by rw[<- cV mB];exact hj) (by rw[aK hj,e]) hs⟩
   dsimp only;show bD _ _ _ [some (.ref u),some (.ref d),some (.ref L),some (.int m),v4,v5,v6,v7] _;refine jv (λσ H3=>∃(L3:Addr) (nh:List V) (qV:List (Nat × Nat)),σ = [some (.ref u),some (.ref d),some (.ref L3),some (.int m),v4,v5,v6,v7]/\Same H H3/\H L3=none/\H3 L3=some (.lst nh)/\nh.length<=577/\Paired (cY H3) qV nh/\rO n R qV) (λD' hD' next=>?_) ?_
   ·refine⟨_,rfl,d,_,0,_,rfl,rfl,s2.seq hd,bp (dk (i:=0) (by omega)),_,_,rfl,rfl,(by show(0:Int)<4;decide),rfl,_,rfl,bB (λh=>?_) (λh=>next _ _ ⟨L,ws,qs,rfl,s2,hL,hl2,by omega,hpq,hand⟩)⟩
    refine⟨_,rfl,_,rfl,_,rfl,L,_,rfl,ai.of hl2,λp1 hp1=>?_⟩;have e1:dY ws none (some 1)=ws.take 1:=by
     unfold dY;rw[HT.Bi,show(1:Int)=((1:Nat):Int)from rfl,HT.rg,nu,wL]
     by_cases h:1<=ws.length
     ·rw[sf h]
     ·rw[wK (by omega),nD (by omega),nD (by omega)]
    rw[e1];have t1:=Same.put hp1 (o:=.lst (ws.take 1));refine⟨L,p1,_,_,rfl,rfl,t1 _ _ hl2,ak,by rw[gU];exact dS (cP (by omega)),λp2 hp2=>?_⟩;have t2:=Same.put hp2 (o:=.lst (ws++ws.take 1));refine next _ _ ⟨p2,ws++ws.take 1,qs++qs.take 1,rfl,s2.trans (t1.trans t2),Same.none (s2.trans t1) hp2,ak,by rw[dD,gU];omega,gI.same (t1.trans t2) (lh hpq (Aw 1 hpq)),?_⟩;have mem:∀p,p∈qs++qs.take 1->p∈qs:=λp hp=>(fe.mp hp).elim id r0;exact⟨λp hp=>hand.lt p (mem p hp),λp hp=>hand.le p (mem p hp),λa b ha hb hs=>pQ _ (hand.all a b ha hb hs)⟩
   ·rintro σ H3 ⟨L3,nh,qV,rfl,s3,fk,hl3,Iu,hp3,tX⟩
    show bD _ _ _ [some (.ref u),some (.ref d),some (.ref L3),some (.int m),v4,v5,v6,v7] _;refine⟨_,rfl,d,_,0,_,rfl,rfl,s3.seq hd,bp (dk (i:=0) (by omega)),_,_,rfl,rfl,(by show(0:Int)<4;decide),rfl,_,rfl,bB (λh=>?_) (λh=>?_)⟩
    ·refine⟨_,rfl,.inl ⟨rfl,_,ai.of hl3⟩,by show 2<=sizeLine;decide,λy hy=>?_⟩
     have sY:=Same.put hy (o:=.tup [V.int 0,.int 0]);refine⟨L3,nh,_,rfl,rfl,sY _ _ hl3,cP (by omega),_,rfl,kk L3 (nh++[.ref y]) (qV++[(0,0)]) _ (λb o e=>?_) fk ak (by rw[dD];simp;omega) (qP (sY _ _ hl3) (lh (gI.same sY hp3) (.cons ⟨y,rfl,ak⟩ .nil))) ?_⟩
     ·rw[aA (cF e fk)]
      exact sY _ _ (s3 _ _ e)
     ·refine⟨λp hp=>?_,λp hp=>?_,λa b ha hb hs=>pQ _ (tX.all a b ha hb hs)⟩
      ·rcases fe.mp hp with hp|hp
       ·exact tX.lt p hp
       ·simp at hp;subst hp;exact⟨hpos,hpos⟩
      ·rcases fe.mp hp with hp|hp
       ·exact tX.le p hp
       ·simp at hp;subst hp;exact Sx
    ·exact⟨_,rfl,kk L3 nh qV H3 s3 fk hl3 (by omega) hp3 tX⟩
end
end My
namespace L2
open PySem PySem.Spec PyProof.Rows
theorem Yu{K:W.Frag}{a:Addr}{us:List V}{xs ys:Nat->V}{ρ:St}{H1:Hp}(h:ai K H1 a us)(hp:∀i,i<us.length->∃t,us[i]?=some (.ref t)/\H1 t=some (.tup [xs i,ys i])):gY (kf K a) (qq K 2 (mq (aW 0) (mq (aW 1) tO))) (none::none::ρ) H1 us.length (λi=>some (xs i)::some (ys i)::ρ) where
 go:=λi H hi hs=>⟨us,us[i],hs.seq h,aK hi⟩
 stop:=λH hs=>⟨us,hs.seq h,aO _⟩
 step:=λi H x H' Kk hi hs hy hk=>by
  obtain⟨rfl,hx⟩:=hy;have e:=hx us (hs.seq h);obtain⟨t,e1,e2⟩:=hp i hi;rw[e1]at e;cases e;refine⟨t,[xs i,ys i],rfl,.inl (.inl (hs _ _ e2)),rfl,xs i,[ys i],rfl,ys i,[],rfl,rfl,?_⟩;exact⟨Wk.set (Wk.set (Wk.refl _) rfl) rfl,hk _ (Same.refl _)⟩
end L2
namespace My
open PySem PySem.Spec PyProof.Rows L2
abbrev nS (n:Nat):Str:=(toString ((n:Nat):Int):Str)
theorem jV{n:Nat}(h:n<100000):(nS n).length<=11:=by
 have h1:=W.KT.len_num (show(0:Int)<=(n:Int)by omega) (show(n:Int)<10 ^ 10 by omega);exact bN h1 (by decide)
theorem Kc {a b:Nat} (ha:a<100000) (hb:b<100000):(nS a ++ "<" ++ nS b).length<=23:=by
 have h1:=jV ha;have h2:=jV hb;rw[nW,nW];have h3:("<" : Str).length=1:=rfl;omega
noncomputable def pS (p:Nat × Nat):Str:=nS p.1 ++ "<" ++ nS p.2
noncomputable def ik(n:Nat)(ps:List (Nat × Nat)):List Str:=nS n::ps.map pS
noncomputable def textOf (n:Nat) (ps:List (Nat × Nat)):Str:=Txt.join " " (ik n ps)
theorem oM{n:Nat}(h:n<100000):((n:Int)).natAbs.log2<1920:=by
 rw[rP]
 by_cases h0:n=0
 ·rw[h0];decide
 ·exact(wJ h0).mpr (cg h (bN (by decide:100000<=2 ^ 17) (jd (by decide) (by decide))))
theorem WL(ps:List (Nat × Nat)):((List.range ps.length).map λi=>V.str (pS (ps.getD i (0,0))))=(ps.map pS).map V.str:=by
 rw[iy];apply List.ext_getElem?
 intro i;rw[dR,dR]
 by_cases h:i<ps.length
 ·rw[pM h,aK h,wN,wN,aZ,aK h]
  rfl
 ·rw[wA (by simp;omega),wA (by omega)]
  rfl
theorem sum_bound{α:Type}{g:α->Nat}{B:Nat}:∀(l:List α),(∀x∈l,g x<=B)->(l.map g).sum<=l.length*B
 | [],_=>by simp
 |x::l,h=>by
  have h1:=h x (cK ..);have h2:=sum_bound l λy hy=>h y (bT _ hy);rw[cI,jb,dr,Ez];omega
theorem Y9 {n:Nat} {ps:List (Nat × Nat)} (hn:n<=24) (hl:ps.length<=1000) (h:∀p∈ps,p.1<n/\p.2<n):((ik n ps).map λt=>t.length+(" " : Str).length).sum<=30000:=by
 have e:(" " : Str).length=1:=rfl;refine bN (sum_bound (B:=24) _ λt ht=>?_) ?_
 ·rw[e]
  rcases bu.mp ht with rfl|ht
  ·have:=jV (n:=n) (by omega)
   omega
  ·obtain⟨p,hp,rfl⟩:=cU.mp ht
   obtain⟨h1,h2⟩:=h p hp;have:=Kc (a:=p.1) (b:=p.2) (by omega) (by omega);show(nS p.1 ++ "<" ++ nS p.2).length+1<=24;omega
 ·show(nS n::ps.map pS).length*24<=30000
  rw[dr,aB];omega
theorem NC{n:Nat}{ps:List (Nat × Nat)}:∀t∈ik n ps,dC 32 t:=λt ht=>by
 rcases bu.mp ht with rfl|ht
 ·exact uJ (by omega)
 ·obtain⟨p,hp,rfl⟩:=cU.mp ht
  intro z;have z':32∈(nS p.1 ++ "<" ++ nS p.2).cps.toList:=z;rw[show(nS p.1 ++ "<" ++ nS p.2).cps=(nS p.1).cps++("<" : Str).cps++(nS p.2).cps from rfl,DY,DY,fe,fe]at z'
  rcases z' with(z'|z')|z'
  ·exact uJ (n:=p.1) (c:=32) (by omega) z'
  ·exact absurd z' (by decide)
  ·exact uJ (n:=p.2) (c:=32) (by omega) z'
theorem Yt (n:Nat) (ps:List (Nat × Nat)):Txt.split (textOf n ps) " " = ik n ps:=by
 rw[show(" " : Str)=⟨#[32]⟩from rfl];exact Nb (c:=32) (by unfold ik;simp) NC
section
variable {P:Program} {w:World} {K:W.Frag} {mg:Str->Option Value} {base:Heap} {f:Addr} {fd:FuncData}
abbrev vB:Stmt:=top 58
theorem Mm:bh ["_law_ups_here","_law_numbers"] ["_law_ups_here","_law_numbers"] (ay vB):=⟨rfl,rfl,rfl,by decide +kernel,rfl,by decide +kernel,by decide +kernel⟩
noncomputable def Cz(K:W.Frag):Sp:=λvs H Q _=>∃(u d n:Nat) (R:Nat->Nat->Bool) (us:List Nat) (ns:List Int),vs = [.ref u,.ref d]/\ai K H u (us.map nV)/\ai K H d (ns.map V.int)/\cL n R us/\0<n/\n<=24/\0<ns.length/\ns.length<=1000/\R 0 0=true /\
 ∀ps H',Same H H'->ps.length<=600->rO n R ps->Q (.str (textOf n ps)) H'
theorem V2 (F:aT K "_law_spread" "_law_spread" vB f fd) (T:Txt mg) (xS:aF P w K mg base "_law_handed" ["_law_ups_here","_law_numbers"] 2 (Cr K)):aN P w K mg base bf 3 f fd ["_law_ups_here","_law_numbers"] (Cz K):=by
 refine F.ok Mm (λvs H Q E h=>?_) (λcdv A outer s H vs Q E hr h=>?_)
 ·obtain⟨u,d,n,R,us,ns,rfl,_⟩:=h
  rfl
 ·obtain⟨u,d,n,R,us,ns,rfl,hu,hd,hU,hn0,hn,hs0,hs1,hr0,kk⟩:=h
  have nd:=Mm.nd;have el:(((us.map nV).length:Nat):Int)=(n:Int):=by rw[aB,hU.len]
  refine⟨_,(aq (aS (cR (K:=K) rfl je wU wY (uz (K:=K) rfl) bz (ae (av gu (b9 (ae (dm ou rfl T.str kD (ae (aR (cj (K:=K) rfl) rfl T.len cw (ae (pv 0) ag)) ag)) ag)) (dg (own:=["_law_a","_law_b"]) (fr:=[]) rfl (cM (ay vB) ["_law_ups_here","_law_numbers"] rfl rfl (by decide +kernel)) (dJ (K:=K) rfl (bj xS hr rfl (ae (pv 0) (ae (pv 1) ag)))) (λ_ _ _ _=>⟨(mQ (K:=K) (i:=0) (j:=1) rfl rfl (by decide +kernel:(["_law_a","_law_b"]:List Str).Nodup) rfl rfl rfl rfl),dz,(av uS (av uS (dm ou rfl T.str kD (ae (pv 0) ag)) bz) (dm ou rfl T.str kD (ae (pv 1) ag)))⟩))) ag)))),?_⟩;refine⟨rfl,_,rfl,u,_,rfl,.inl hu,_,rfl,by rw[el];exact oM (by omega),by show 1<=sizeLine;decide,λq hq=>?_⟩;rw[el];have s1:=Same.put hq (o:=.lst [.str (nS n)]);refine⟨_,rfl,_,rfl,u,d,n,R,us,ns,rfl,s1.seq hu,s1.seq hd,hU,hn0,hn,hs0,hs1,hr0,λl ws ps H2 s2 hl0 hl hwl hpp hand=>?_⟩;have hql:=cV hpp;refine⟨l,rfl,⟨_,ai.of hl⟩,λD hD=>fF (λi=>.str (pS (ps.getD i (0,0)))) (Yu (xs:=λi=>nV (ps.getD i (0,0)).1) (ys:=λi=>nV (ps.getD i (0,0)).2) (ai.of hl) (λi hi=>?_)) hD (cP (by omega)) (λi H3 Kt hi hs hk=>?_) (λH3 hs hl3=>?_)⟩
  ·obtain⟨c,hc,t,et,ht⟩:=jr hpp (aK hi)
   have e:ps.getD i (0,0)=c:=by rw[aZ,hc];rfl
   rw[e];exact⟨t,by rw[aK hi,et],ht⟩
  ·have hi':i<ps.length:=by omega
   obtain⟨g1,g2⟩:=hand.lt (ps.getD i (0,0)) (by rw[aZ,aK hi'];exact ja hi');have h1:=jV (n:=(ps.getD i (0,0)).1) (by omega);have h2:=jV (n:=(ps.getD i (0,0)).2) (by omega);have h3:=@cP 1000 (by omega);refine⟨_,rfl,_,rfl,oM (by omega),_,_,rfl,rfl,?_,_,rfl,_,rfl,oM (by omega),_,_,rfl,rfl,?_,hk _ (Same.refl _)⟩
   ·show(nS (ps.getD i (0,0)).1).length+1<=_
    omega
   ·show(nS (ps.getD i (0,0)).1 ++ "<").length+(nS (ps.getD i (0,0)).2).length<=_
    rw[nW];show(nS (ps.getD i (0,0)).1).length+1+_<=_;omega
  ·rw[<- hql,WL]at hl3
   refine⟨q,D,_,_,rfl,rfl,hs _ _ (s2 _ _ ak),hl3,?_,λL hL=>?_⟩
   ·rw[aB,aB]
    have:=@cP 100000 (by omega);show 1+_<=_;omega
   ·refine⟨" ", L,ik n ps,rfl,rfl,ai.of ak,?_,kk ps _ (s1.trans (s2.trans (hs.trans (Same.put hL)))) (by omega) hand⟩
    have:=Y9 hn (ps:=ps) (by omega) hand.lt;have h2:=@cP 100000 (by omega);omega
end
end My
namespace L2
open PySem PySem.Spec PyProof.Rows
theorem Ww{X:Cx}:bP X (binaryOp .Mult) (λx y H Q=>∃(i:Str) (j:Int),x = .str i/\y = .int j/\MulOk i j/\Q (.str (Txt.mul i j)) H):=by
 intro pins s σ H x y v u Q I rx ry h;obtain⟨i,j,rfl,rfl,hz,q⟩:=h;obtain⟨t,rfl⟩:=rx;obtain⟨t',rfl⟩:=ry;exact PySem.SB.mul hz λt' k=>⟨.str (Txt.mul i j),H,I.tok _,⟨_,rfl⟩,q⟩
section
variable {prog:Program} {w:World} {A:Around} {E:Value->Shared->Prop} {s:Shared} {c1 c2:Bool} {z TI TO i1 i2 l1 l2 T0:Addr} {k1 k2:Nat} {xs ys:Array Value} {x y:Value} {b:Bool} {o0:Obj}
end
section
variable {X:Cx} {pins:List (Addr × Obj)} {σ:St} {H H':Hp} {s:Shared} {h':Heap}
theorem W9{K:W.Frag}{e st:Expr}{te:TE}{NP:TO}{p2 pos:Pos}(hK:X.K=K)(he:PE X e te)(hst:PO X (some st) NP):PE X (.Subscript e (.Slice none none (some st) p2) pos) (λσ H Q=>te σ H λx H1=>NP σ H1 λk H2=>k=some (-1)/\∃a xs,x = .ref a/\ai K H2 a xs/\∀p,H2 p=none->Q (.ref p) (upd H2 p (.lst xs.reverse))):=by
 subst hK;intro pins s σ H Q I h;refine Subscript_ (aG (he pins s σ H _ I h) λv s1 ⟨x,H1,I1,r1,q1⟩=>?_);refine wpAny_Slice ?_;rw[evalPart_none];refine aC (aC ?_);refine aG (hst pins s1 σ H1 _ I1 q1) λvk s3 ⟨k,H3,I3,pk,ek,a,xs,ex,hx,q⟩=>?_;subst ek ex;cases r1;obtain⟨its,r,ht,hz⟩:=I3.list hx;have hlen:=r.length;have I4:Inv X pins σ H3 {s3 with heap:=s3.heap.push {cls:=.type "slice", data:=.fields #[.none,.none,vk]}}:=I3.kept (t':=s3.toks) λb ob q=>aM _ q;obtain⟨its',r',ht',hz'⟩:=I4.list hx;show wpAny (model X.prog X.w) X.A (subscriptTail e (.Slice none none (some st) p2) (.ref a) (.ref s3.heap.objs.size)) (EP X pins σ Q) X.xe {s3 with heap:=s3.heap.push {cls:=.type "slice", data:=.fields #[.none,.none,vk]}};refine tail_any (ops:=[.ref a,.ref s3.heap.objs.size]) ht'.isList.typeIs Fw.lookup ?_ (by with_unfolding_all rfl);have hlen':=r'.length;refine wpAny_getItem_list_slice ht'.isList (Heap.IsSliceOf.new ..) .none .none pk (by decide) ?_ (by rw[cD]<;>omega);rw[W.krv_pick];refine⟨.ref _,_,I4.laid (t':=s3.toks) (o:=.lst xs.reverse) (λb ob q=>aM _ q) (aO _) ?_,rfl,q _ (I4.hok.fresh (aO _))⟩;exact⟨by rw[List.length_reverse];exact hz,its'.reverse,0,r'.reverse,bR _ rfl⟩
end
noncomputable def KZ(K:W.Frag)(n:Nat):R2:=λx y H Q=>KN K true true n x y H Q\/∃a b xs ys,x = .ref a/\y = .ref b/\ai K H a xs/\ai K H b ys/\xs.length≠ys.length/\Q (.bl true) H
theorem J6{X:Cx}{K:W.Frag}(n:Nat)(h:X.K=K)(hu:X.A.units+1+n<cLine):bP X (compareOp .NotEq) (KZ K n):=by
 intro pins s σ H x y v u Q I rx ry hh
 rcases hh with hh|hh
 ·exact Wx true n h hu pins s σ H x y v u Q I rx ry hh
 ·subst h
  obtain⟨a,b,xs,ys,rfl,rfl,ha,hb,hl,q⟩:=hh;cases rx;cases ry;obtain⟨its,r,t1,_⟩:=I.list ha;obtain⟨its2,r',t2,_⟩:=I.list hb;have:(its.toArray.size != its2.toArray.size)=true:=by
   have:its.length≠its2.length:=by rw[<- r.length,<- r'.length];exact hl
   simpa using this
  have hh:=SeqAt.RcNeAt.lists_lengths (A:=X.A) (s:=s) t1.isList t2.isList this (by omega);exact hh _ _ _ _ ⟨.bl true,H,I,rfl,q⟩
structure Moved (fs ch:List Addr) (h h':Heap):Prop where
 keep:∀b o,h.get? b=some o->b ∉ fs->b ∉ ch->h'.get? b=some o
 slot:∀b o,h.get? b=some o->b∈fs->b ∉ ch->∃sl,h'.get? b=some {o with slots:=sl}
 there:∀b o,h.get? b=some o->∃o',h'.get? b=some o'
 size:h.objs.size<=h'.objs.size
theorem Moved.any{fs ch:List Addr}{h h':Heap}(m:Moved fs ch h h'){b:Addr}{o:Obj}(e:h.get? b=some o)(n:b ∉ ch):∃sl,h'.get? b=some {o with slots:=sl}:=by
 by_cases hb:b∈fs
 ·exact m.slot b o e hb n
 ·exact⟨o.slots,m.keep b o e hb n⟩
theorem Moved.trans{fs ch:List Addr}{h h1 h2:Heap}(a:Moved fs ch h h1)(b:Moved fs ch h1 h2):Moved fs ch h h2 where
 keep:=λc o e n1 n2=>b.keep c o (a.keep c o e n1 n2) n1 n2
 slot:=λc o e n1 n2=>by
  obtain⟨sl,e1⟩:=a.slot c o e n1 n2;obtain⟨sl',e2⟩:=b.slot c _ e1 n1 n2;exact⟨sl',e2⟩
 there:=λc o e=>by
  obtain⟨o',e1⟩:=a.there c o e;exact b.there c o' e1
 size:=bN a.size b.size
theorem Moved.mono{fs fs' ch Gs:List Addr}{h h':Heap}(a:Moved fs ch h h')(h1:∀b∈fs,b∈fs')(h2:∀b∈ch,b∈Gs):Moved fs' Gs h h' where
 keep:=λc o e n1 n2=>a.keep c o e (λz=>n1 (h1 c z)) λz=>n2 (h2 c z)
 slot:=λc o e _ n2=>a.any e λz=>n2 (h2 c z)
 there:=a.there
 size:=a.size
structure eQ (h:Heap) (e:Addr) (cls:Value) (dx:Option Addr) (T:Addr) (fl:Value):Prop where
 ex:∃oe vs,h.get? e=some oe/\oe.cls=cls/\oe.dict=dx/\oe.data = .fields vs/\vs[1]?=some (.ref T)
 ne:T≠e
 tb:∃oT ts,h.get? T=some oT/\oT.data = .fields ts/\ts[3]?=some fl
section
variable {M:Model} {A:Around} {E:Value->Shared->Prop} {s:Shared} {base:Heap} {env:Env} {outer:List Env} {L e T:Addr} {oe:Obj} {vs:Array Value} {cls head fl:Value} {dx:Option Addr} {Q:Unit->Shared->Prop}
theorem mn{h:Heap}{l:List Env}(hl:h.FunFrames base l)(he:h.get? e=some oe)(hd:oe.data = .fields vs):e ∉ frs l:=λhm=>by
 obtain⟨_,o,ho,hnf⟩:=hl.mem hm;rw[he]at ho;cases ho;exact hnf vs hd
theorem Uu(o:Obj)(f:Array Value->Array Value):(o.mapFields f).dict=o.dict:=by
 obtain⟨c,d,dt,sl⟩:=o;cases dt<;>rfl
theorem G8{hadNext:Bool}(hfr:A.frames=some (env::outer))(hl:s.heap.FunFrames base (env::outer))(hf:env.frame=some L)(he:s.heap.get? e=some oe)(hd:oe.data = .fields vs)(hsz:1<vs.size)
  (h:∀h' T,Moved (frs (env::outer)) [e] s.heap h'->s.heap.objs.size<=T->eQ h' e oe.cls oe.dict T (rawInt L)->Q () {s with heap:=h'}) :
  wpAny M A (do let a <- frameOf env;let pl <- entryPlaceOf L hadNext;let b <- EntryCells.newEntry head a .none (rawInt L) .none pl;setField (.ref e) 1 b) Q E s:=by
 have hene:=mn hl he hd;refine ah (wpAny_frameOf_fun hfr hl hf λh₁ hs₁=>?_);refine ah (wpAny_entryPlaceOf λpl hpl=>?_);unfold EntryCells.newEntry newFields;refine ah (nY ?_ (hpl.sizeOk5 _ _ _ _ _));have he₁:h₁.get? e=some oe:=(hs₁.2.1 e hene).trans he;generalize hob:({cls:=.type "traceback", dict:=none,data:=.fields ([head,.ref L,.none,rawInt L,.none]++(if pl.isEmpty then List.replicate 6 Value.none else pl)).toArray}:Obj)=ob;have he₂:=aM (h:=h₁) ob he₁;refine p9 he₂ hd hsz (h _ h₁.objs.size ?_ (by rw[hs₁.1];exact aO _) ?_)
 ·have keep:∀b o,b≠e->h₁.get? b=some o->((h₁.push ob).update e (Obj.mapFields (·.setIfInBounds 1 (Value.ref h₁.objs.size)))).get? b=some o:=λb o hbe hb=>by
   rw[jf _ _ (cE hbe)];exact aM _ hb
  have hd₃:=ko hd (·.setIfInBounds 1 (Value.ref h₁.objs.size));refine⟨λb o hb n1 n2=>keep b o (λz=>n2 (by simp[z])) ((hs₁.2.1 b n1).trans hb),λb o hb n1 n2=>?_,λb o hb=>?_,by rw[sv,eM,hs₁.1];exact nE _⟩
  ·obtain⟨sl,hs⟩:=hs₁.2.2 b o hb
   exact⟨sl,keep b _ (λz=>n2 (by simp[z])) hs⟩
  ·by_cases hbe:b=e
   ·subst hbe
    exact⟨_,iB (Obj.mapFields (·.setIfInBounds 1 (Value.ref h₁.objs.size))) he₂ (p7 hd₃)⟩
   ·obtain⟨sl,hs⟩:=hs₁.2.2 b o hb
    exact⟨_,keep b _ hbe hs⟩
 ·have hTe:h₁.objs.size≠e:=gX (aV he₁)
  have hd₃:=ko hd (·.setIfInBounds 1 (Value.ref h₁.objs.size));have he₃:=iB (Obj.mapFields (·.setIfInBounds 1 (Value.ref h₁.objs.size))) he₂ (p7 hd₃);have hT₃:=(jf (h₁.push ob) (Obj.mapFields (·.setIfInBounds 1 (Value.ref h₁.objs.size))) (cE hTe)).trans (bR h₁ (by rw[<- hob];rfl));refine⟨⟨_,_,he₃,Obj.cls_mapFields _ _,Uu _ _,hd₃,by simp[hsz]⟩,hTe,⟨_,_,hT₃,by rw[<- hob],?_⟩⟩
  first | (simp;done) | (rcases hpl with rfl|⟨_,_,_,_,_,_,_,rfl⟩<;>simp)
theorem JX(hfr:A.frames=some (env::outer))(hl:s.heap.FunFrames base (env::outer))(hf:env.frame=some L)(he:s.heap.get? e=some oe)(hd:oe.data = .fields vs)(h1:vs[1]?=some .none)
  (h:∀h' T,Moved (frs (env::outer)) [e] s.heap h'->s.heap.objs.size<=T->eQ h' e oe.cls oe.dict T (rawInt L)->Q () {s with heap:=h'}):wpAny M A (noteFrame (.ref e) env) Q E s:=by
 unfold noteFrame;simp only[hf];refine ah (dW he hd h1 ?_);rw[au (by decide)];exact G8 hfr hl hf he hd (nj.mp h1).1 h
theorem tN{h h':Heap}:∀{l:List Env},(∀b∈frs l,∀o,h.get? b=some o->∃sl,h'.get? b=some {o with slots:=sl})->h.FunFrames base l->h'.FunFrames base l
 | [],_,_=>trivial
 |env::r,k,⟨hk,⟨L,o,hf,hn,ho,hd⟩,hr⟩=>by
  have hL:L∈frs (env::r):=by unfold frs;rw[ny,hf];exact cK
  obtain⟨sl,e⟩:=k L hL o ho;exact⟨hk,⟨L,_,hf,hn,e,hd⟩,tN (λb hb=>k b (by unfold frs;rw[ny,hf];exact bT _ hb)) hr⟩
theorem Moved.dw{fs ch:List Addr}{h h':Heap}{l:List Env}(m:Moved fs ch h h')(hn:∀b∈frs l,b ∉ ch)(hl:h.FunFrames base l):h'.FunFrames base l:=
 tN (λb hb o e=>m.any e (hn b hb)) hl
theorem As(hfr:A.frames=some (env::outer))(hl:s.heap.FunFrames base (env::outer))(hf:env.frame=some L)(xr:eQ s.heap e cls dx T .none)
  (h:∀h' T',Moved (frs (env::outer)) [e,T] s.heap h'->s.heap.objs.size<=T'->eQ h' e cls dx T' (rawInt L)->Q () {s with heap:=h'}):wpAny M A (noteFrame (.ref e) env) Q E s:=by
 obtain⟨⟨oe,vs,he,hc,hdx,hd,h1⟩,hTe,oT,ts,hT,hdT,h3⟩:=xr;subst hc hdx;unfold noteFrame;simp only[hf];refine ah (dW he hd h1 ?_);rw[az (show(Value.ref T != Value.none)=true from by simp)];refine ah (dW hT hdT h3 ?_);rw[au (show ¬ ((Value.none==rawInt L)=true)from by simp[rawInt])];refine ah (p9 hT hdT (nj.mp h3).1 ?_);have mv:Moved (frs (env::outer)) [e,T] s.heap (s.heap.update T (Obj.mapFields (·.setIfInBounds 3 Value.none))):=by
  have other:∀b,b≠T->(s.heap.update T (Obj.mapFields (·.setIfInBounds 3 Value.none))).get? b=s.heap.get? b:=λb hb=>jf _ _ (cE hb);refine⟨λb o hb _ n=>(other b (λz=>n (by simp[z]))).trans hb,λb o hb _ n=>⟨o.slots,(other b (λz=>n (by simp[z]))).trans hb⟩,λb o hb=>?_,by rw[sv];exact aO _⟩
  by_cases hbT:b=T
  ·subst hbT
   exact⟨_,iB _ hT (p7 (ko hdT _))⟩
  ·exact⟨o,(other b hbT).trans hb⟩
 have hn1:=mn hl he hd;have hn2:=mn hl hT hdT;refine G8 (oe:=oe) (vs:=vs) hfr (mv.dw (λb hb z=>?_) hl) hf ((jf _ _ hTe).trans he) hd (nj.mp h1).1 λh' T' m hT' x=>?_
 ·rcases bu.mp z with z|z
  ·exact hn1 (z▸hb)
  ·exact hn2 ((bW.mp z)▸hb)
 ·exact h h' T' (mv.trans (m.mono (λ_ z=>z) λb z=>by simp at z;simp[z])) (by rw[sv]at hT';exact hT') x
theorem tM(xr:eQ s.heap e cls dx T fl)(h:∀h',Moved [] [T] s.heap h'->eQ h' e cls dx T .none->Q () {s with heap:=h'}):wpAny M A (setFlight (.ref e) none) Q E s:=by
 obtain⟨⟨oe,vs,he,hc,hdx,hd,h1⟩,hTe,oT,ts,hT,hdT,h3⟩:=xr;have hsz3:3<ts.size:=(nj.mp h3).1;unfold setFlight;refine ah (dW he hd h1 ?_);rw[az (show(Value.ref T != Value.none)=true from by simp)];refine p9 hT hdT hsz3 ?_;have other:∀b,b≠T->(s.heap.update T (Obj.mapFields (·.setIfInBounds 3 ((none:Option Addr).elim Value.none λf=>rawInt f)))).get? b=s.heap.get? b:=λb hb=>jf _ _ (cE hb);have hT':=iB (Obj.mapFields (·.setIfInBounds 3 ((none:Option Addr).elim Value.none λf=>rawInt f))) hT (p7 (ko hdT _));refine h _ ⟨λb o hb _ n=>(other b (λz=>n (by simp[z]))).trans hb,λb o hb _ n=>⟨o.slots,(other b (λz=>n (by simp[z]))).trans hb⟩,λb o hb=>?_,by rw[sv];exact aO _⟩ ?_
 ·by_cases hbT:b=T
  ·subst hbT;exact⟨_,hT'⟩
  ·exact⟨o,(other b hbT).trans hb⟩
 ·exact⟨⟨oe,vs,(other e (cE hTe)).trans he,hc,hdx,hd,h1⟩,hTe,_,_,hT',ko hdT _,by simp[hsz3]⟩
theorem Moved.fresh{fs ch:List Addr}{h h1 h2:Heap}(m:Moved fs ch h h1)(m2:Moved [] [T] h1 h2)(hT:h.objs.size<=T):Moved fs ch h h2:=by
 have ne:∀b o,h.get? b=some o->b ∉ [T]:=λb o e z=>by
  have:=aV e;rw[bW.mp z]at this;exact absurd (cg this hT) (fh _)
 refine⟨λb o hb n1 n2=>m2.keep b o (m.keep b o hb n1 n2) (λz=>nomatch z) (ne b o hb),λb o hb n1 n2=>?_,λb o hb=>?_,bN m.size m2.size⟩
 ·obtain⟨sl,e1⟩:=m.slot b o hb n1 n2
  exact⟨sl,m2.keep b _ e1 (λz=>nomatch z) (ne b o hb)⟩
 ·obtain⟨o',e1⟩:=m.there b o hb
  exact m2.there b o' e1
theorem T_(hfr:A.frames=some (env::outer))(hl:s.heap.FunFrames base (env::outer))(hf:env.frame=some L)(he:s.heap.get? e=some oe)(hd:oe.data = .fields vs)(h1:vs[1]?=some .none)
  (h:∀h' T,Moved (frs (env::outer)) [e] s.heap h'->s.heap.objs.size<=T->eQ h' e oe.cls oe.dict T .none->Q () {s with heap:=h'}):wpAny M A (leaving env (.ref e)) Q E s:=by
 unfold leaving;exact ah (JX hfr hl hf he hd h1 λh1 T m hT x=>tM x λh2 m2 x2=>h h2 T (m.fresh m2 hT) hT x2)
theorem Ua(hfr:A.frames=some (env::outer))(hl:s.heap.FunFrames base (env::outer))(hf:env.frame=some L)(xr:eQ s.heap e cls dx T .none)
  (h:∀h' T',Moved (frs (env::outer)) [e,T] s.heap h'->s.heap.objs.size<=T'->eQ h' e cls dx T' .none->Q () {s with heap:=h'}):wpAny M A (leaving env (.ref e)) Q E s:=by
 unfold leaving;exact ah (As hfr hl hf xr λh1 T m hT x=>tM x λh2 m2 x2=>h h2 T (m.fresh m2 hT) hT x2)
end
noncomputable def bA(P:Program)(w:World):fQ:=λouter H s E e s'=>∃ea C dx T H',e = .ref ea/\s'.os=s.os/\AllBare s'.gens/\Un (frs outer) [] H H' s.heap s'.heap/\bI P w H' s'.heap/\eQ s'.heap ea (.ref C) dx T .none /\
 H' ea=none/\H' T=none/\s.heap.get? ea=none/\s.heap.get? T=none/\E (.ref C) dx H'
theorem kM{P:Program}{w:World}{H:Hp}{h h':Heap}{fs ch:List Addr}(x:bI P w H h)(m:Moved fs ch h h')(nf:∀b∈fs,H b=none)(nc:∀b∈ch,H b=none):bI P w H h':=λb o e=>by
 have no:∀c u,H c=some u->c ∉ fs/\c ∉ ch:=λc u q=>⟨(λz=>by rw[nf c z]at q;cases q),(λz=>by rw[nc c z]at q;cases q)⟩;refine(x b o e).stay (λc u hc q=>?_) (λ_ q=>q) (λ_ _ q=>q) λ_ _ _ q=>q
 rcases hc with z|z
 ·subst z;exact m.keep c u q (no c _ e).1 (no c _ e).2
 ·exact m.keep c u q (no c _ z).1 (no c _ z).2
section
variable {P:Program} {w:World} {K:W.Frag} {mg:Str->Option Value} {base:Heap} {N:List Str} {qual:Str} {scope:Scope} {f:Addr} {cd:Value} {A:Around} {outer:List Env} {s:Shared} {H:Hp} {E:XK}
theorem N1{pins:List (Addr × Obj)}{σ:St}{H1 H2:Hp}{s1:Shared}{h2 h3:Heap}{ch:List Addr}(I:Inv (bU (bA P w) P w K mg base N qual scope f cd A outer s H E) pins σ H1 s1)(un:Un (frs (bU (bA P w) P w K mg base N qual scope f cd A outer s H E).stack) [] H1 H2 s1.heap h2)(m:Moved (frs (bU (bA P w) P w K mg base N qual scope f cd A outer s H E).stack) ch h2 h3)(hc:∀b∈ch,s1.heap.get? b=none):Un (frs outer) [] H H2 s.heap h3:=by
 have jk:Un (frs outer) [] H H1 s.heap s1.heap:=I.base;have sub:∀b o,s.heap.get? b=some o->b ∉ frs outer->b ∉ frs (bU (bA P w) P w K mg base N qual scope f cd A outer s H E).stack:=λb o e n z=>by
  rcases bu.mp (I.rA b z)with q|q
  ·have h1:s.heap.objs.size<=(bU (bA P w) P w K mg base N qual scope f cd A outer s H E).env.locals:=I.ok.above
   have h2:=aV e;rw[q]at h2;exact absurd (cg h2 h1) (fh _)
  ·exact n q
 have eW:∀b o,s1.heap.get? b=some o->b ∉ ch:=λb o e z=>by rw[hc b z]at e;cases e
 have nx:∀b:Addr,b ∉ ([]:List Addr):=λb z=>nomatch z;refine⟨λb o q n hb hx=>?_,λb o q n hb hx=>?_,λb o q n hx=>?_,λb o q hx=>?_,λb xs q=>un.tups b xs (jk.tups b xs q),λb o u q=>un.eS b o u (jk.eS b o u q),λb ps q=>?_⟩
 ·have e1:=jk.keep b o q n hb hx
  exact m.keep b o (un.keep b o e1 (jk.free b o q n hx) (sub b o q hb) (nx b)) (sub b o q hb) (eW b o e1)
 ·obtain⟨sl,e1⟩:=jk.slot b o q n hb hx
  obtain⟨sl2,e2⟩:=un.any e1 (jk.free b o q n hx) (nx b);obtain⟨mW,e3⟩:=m.any e2 (eW b _ e1);exact⟨mW,e3⟩
 ·obtain⟨o',e1⟩:=jk.there b o q hx
  exact un.free b o' e1 (jk.free b o q n hx) (nx b)
 ·obtain⟨o',e1⟩:=jk.there b o q hx
  obtain⟨o2,e2⟩:=un.there b o' e1 (nx b);exact m.there b o2 e2
 ·obtain⟨m1,e1⟩:=jk.fz b ps q
  obtain⟨m2,e2⟩:=un.fz b _ e1;exact⟨m1++m2,by rw[e2,Array.append_assoc]⟩
theorem oK{pins:List (Addr × Obj)}{σ:St}{H1:Hp}{s1:Shared}{b:Addr}(I:Inv (bU (bA P w) P w K mg base N qual scope f cd A outer s H E) pins σ H1 s1)(e:s1.heap.get? b=none):s.heap.get? b=none:=by
 cases q:s.heap.get? b with
 |none=>rfl
 |some o =>
  obtain⟨o',e1⟩:=I.base.there b o q (λz=>nomatch z);rw[e]at e1;cases e1
theorem uF{fs:List Addr}{H1 H2:Hp}{h1 h2:Heap}{b:Addr}(un:Un fs [] H1 H2 h1 h2)(e:h2.objs.size<=b):h1.get? b=none:=by
 cases q:h1.get? b with
 |none=>rfl
 |some o =>
  obtain⟨o',e1⟩:=un.there b o q (λz=>nomatch z);exact absurd (cg (aV e1) e) (fh _)
theorem Nj{pins:List (Addr × Obj)}{σ:St}{H1 H2:Hp}{s1:Shared}{h2:Heap}(I:Inv (bU (bA P w) P w K mg base N qual scope f cd A outer s H E) pins σ H1 s1)(un:Un (frs (bU (bA P w) P w K mg base N qual scope f cd A outer s H E).stack) [] H1 H2 s1.heap h2):h2.FunFrames base (bU (bA P w) P w K mg base N qual scope f cd A outer s H E).stack:=
 tN (λb hb o e=>un.any e (I.pq b hb) λz=>nomatch z) I.stack
theorem vP{pins:List (Addr × Obj)}{σ:St}{H1 H2:Hp}{s1:Shared}{h2:Heap}(I:Inv (bU (bA P w) P w K mg base N qual scope f cd A outer s H E) pins σ H1 s1)(un:Un (frs (bU (bA P w) P w K mg base N qual scope f cd A outer s H E).stack) [] H1 H2 s1.heap h2):∀b∈frs (bU (bA P w) P w K mg base N qual scope f cd A outer s H E).stack,H2 b=none:=λb hb=>by
 obtain⟨_,o,ho,_⟩:=I.stack.mem hb;exact un.free b o ho (I.pq b hb) λz=>nomatch z
theorem uV:Passes (bA P w) (bU (bA P w) P w K mg base N qual scope f cd A outer s H E) E:=by
 intro pins σ H1 s1 e s2 I h;obtain⟨ea,C,dx,T,H2,rfl,os,bare,un,hok,xr,n1,n2,f1,f2,hE⟩:=h;refine Ua (base:=base) (A:=(bU (bA P w) P w K mg base N qual scope f cd A outer s H E).A) I.ok.frames (Nj I un) rfl xr λh3 T' m hT x=>?_;have hc:∀b∈[ea,T],s1.heap.get? b=none:=λb z=>by
  rcases bu.mp z with z|z
  ·rw[z];exact f1
  ·rw[bW.mp z];exact f2
 refine⟨ea,C,dx,T',H2,rfl,os.trans I.os,bare,N1 I un m hc,kM hok m (vP I un) (λb z=>?_),x,n1,hok.fresh hT,oK I f1,oK I (uF un hT),hE⟩
 rcases bu.mp z with z|z
 ·rw[z];exact n1
 ·rw[bW.mp z];exact n2
noncomputable def Raises(X:Cx)(E:XK):Prop:=∀(pins:List (Addr × Obj)) (σ:St) (H:Hp) (s:Shared) (ea C:Addr) (oe:Obj) (vs:Array Value),Inv X pins σ H s->s.heap.get? ea=some oe->oe.cls = .ref C->oe.data = .fields vs->vs[1]?=some .none ->
 H ea=none->X.s₀.heap.get? ea=none->E (.ref C) oe.dict H->X.xe (.ref ea) s
theorem K3:Raises (bU (bA P w) P w K mg base N qual scope f cd A outer s H E) E:=by
 intro pins σ H1 s1 ea C oe vs I he hc hd h1 hH h0 hE;have un:Un (frs (bU (bA P w) P w K mg base N qual scope f cd A outer s H E).stack) [] H1 H1 s1.heap s1.heap:=Un.refl;refine T_ (base:=base) (A:=(bU (bA P w) P w K mg base N qual scope f cd A outer s H E).A) I.ok.frames I.stack rfl he hd h1 λh3 T' m hT x=>?_;rw[hc]at x;have base':Un (frs outer) [] H H1 s.heap s1.heap:=I.base;refine⟨ea,C,oe.dict,T',H1,rfl,I.os,I.bare,?_,kM I.hok m (vP I un) (λb z=>by rw[bW.mp z];exact hH),x,hH,I.hok.fresh hT,h0,oK I (su hT),hE⟩;have sub:∀b o,s.heap.get? b=some o->b ∉ frs outer->b ∉ frs (bU (bA P w) P w K mg base N qual scope f cd A outer s H E).stack:=λb o e n z=>by
  rcases bu.mp (I.rA b z)with q|q
  ·have h1:s.heap.objs.size<=(bU (bA P w) P w K mg base N qual scope f cd A outer s H E).env.locals:=I.ok.above
   have h2:=aV e;rw[q]at h2;exact absurd (cg h2 h1) (fh _)
  ·exact n q
 have eW:∀b o,s.heap.get? b=some o->b ∉ [ea]:=λb o e z=>by rw[bW.mp z]at e;have h0':s.heap.get? ea=none:=h0;rw[h0']at e;cases e
 refine⟨λb o q n hb hx=>m.keep b o (base'.keep b o q n hb hx) (sub b o q hb) (eW b o q),λb o q n hb hx=>?_,base'.free,λb o q hx=>?_,base'.tups,base'.eS,base'.fz⟩
 ·obtain⟨sl,e1⟩:=base'.slot b o q n hb hx
  obtain⟨mW,e3⟩:=m.any e1 (eW b _ q);exact⟨mW,e3⟩
 ·obtain⟨o',e1⟩:=base'.there b o q hx
  exact m.there b o' e1
end
end L2
namespace L2
open PySem PySem.Spec PyProof.Rows PySem.W
section
variable {prog:Program} {w:World} {A:Around} {E:Value->Shared->Prop} {h:Heap} {g:Array GenState} {d:Drawn} {t:Nat} {os:OsState} {K:Frag} {e D:Addr} {oe:Obj} {od:Option Obj} {name:Str} {g0 a0:Value}
theorem ZN{tk:Tok}{Q:Fin->Shared->Prop}(X:K.In h)(I:InstAt h e oe D od)(hf:findObj K D od name=some (.bind g0 a0))(hk:wpAny (model prog w) A (call g0 [a0,.ref e,.ref D]) (λv s'=>Q (.done (.ret v)) s') E ⟨h,g,d,t,os⟩):wpAny (model prog w) A (Builtin.«object.__getattribute__» ⟨[.ref e,.str name tk],[]⟩) Q E ⟨h,g,d,t,os⟩:=by
 have L0:=I.type (M:=model prog w);have L1:=looks_find (M:=model prog w) X I hf;unfold Builtin.«object.__getattribute__»;refine ah (aC (ah (aC (ah (L0.at (ah (L1.at ?_)))))));show wpAny _ _ (holding [a0] (call g0 [a0,.ref e,.ref D])>>=ret) _ _ _;exact ah (fV (dX hk (λv s' z=>aC z) λ_ _ z=>z))
theorem ZP{v:Value}{tk:Tok}{Q:Fin->Shared->Prop}(X:K.In h)(I:InstAt h e oe D od)(hf:findObj K D od name=some (.value v))(hk:Q (.done (.ret v)) ⟨h,g,d,t,os⟩):wpAny (model prog w) A (Builtin.«object.__getattribute__» ⟨[.ref e,.str name tk],[]⟩) Q E ⟨h,g,d,t,os⟩:=by
 have L0:=I.type (M:=model prog w);have L1:=looks_find (M:=model prog w) X I hf;unfold Builtin.«object.__getattribute__»;exact ah (aC (ah (aC (ah (L0.at (ah (L1.at (aC hk))))))))
theorem ZM {M:Model} {nameV:Value} {Q:Unit->Shared->Prop} (X:K.In h) (I:InstAt h e oe D od) (hb:mroIn K D (.type "BaseException")=some true) (hq:Q () ⟨h,g,d,t,os⟩) :
  wpAny M A (checkBuiltinCall "BaseException.__getattribute__" ⟨[.ref e,nameV],[]⟩) Q E ⟨h,g,d,t,os⟩:=by
 have hk:builtinKind "BaseException.__getattribute__" = some .slot:=by decide +kernel
 have hsplit:splitId "BaseException.__getattribute__" = some ("BaseException","__getattribute__"):=by decide +kernel
 have ha:=F.args_bexc_ga (.ref e) nameV;have L0:=I.type (M:=M);have L1:=looks_mroIn (M:=M) X hb;simp only[checkBuiltinCall,hk,hsplit];refine ah ?_;unfold isInstance;refine ah (L0.at (L1.at ?_))
 repeat (first|wp_step)
 exact hq
theorem N_ {v:Value} {tk:Tok} {fill expr:Bool} {Q:Value->Shared->Prop} (X:K.In h) (I:InstAt h e oe D od) (hga:findIn K (.ref D) "__getattribute__" = some (some (.builtin "BaseException.__getattribute__")))
  (hgt:findIn K (.ref D) "__getattr__" = some none) (hb:mroIn K D (.type "BaseException")=some true)
  (hk:∀A':Around,wpAny (model prog w) A' (Builtin.«object.__getattribute__» ⟨[.ref e,.str name tk],[]⟩) (λfin s'=>match fin with | .done (.ret v)=>wpAny (model prog w) A (handedOut v) Q E s'|_=>False) (λ_ _=>False) ⟨h,g,d,t,os⟩) :
  wpAny (model prog w) A (getAttrBy (.ref e) (.str name tk) fill expr) Q E ⟨h,g,d,t,os⟩:=by
 have L0:=I.type (M:=model prog w);have L1:=looks_findIn (M:=model prog w) X hga;have L2:=looks_findIn (M:=model prog w) X hgt;have f3:=F.attrBase_ValueError.ga.bind (.ref e);have hx0:(expr&&onTheHeap (Value.builtin "BaseException.__getattribute__"))=false:=by cases expr<;>rfl
 have hx2:(Value.builtin "BaseException.__getattribute__" == Value.builtin "object.__getattribute__")=false:=by decide +kernel
 have hx1:(onTheHeap (Value.ref D)&&Value.builtin "BaseException.__getattribute__" == Value.builtin "object.__getattribute__")=false:=by rw[hx2];rfl
 unfold getAttrBy;refine fV (ah (L0.at (ah (L1.at ?_))));dsimp only;rw[au (by rw[hx1];exact bY)];unfold getAttrByItsOwn hookBefore;rw[az (show onTheHeap (Value.ref D)=true from rfl)];refine ah (L2.at ?_);refine ah (kr (fV ?_));unfold callGetattribute;rw[au (by rw[hx0];exact bY)];unfold boundAndCalled;refine ah (xh f3 ?_);dsimp only;refine ku (w8 F.attrBase_ValueError.ga.plain F.entry_bexc_ga (ZM X I hb (dX (hk _) (λfin s' z=>?_) λ_ _ z=>z.elim)))
 rcases fin with(_|_|_|_)|_<;>first|exact z|exact z.elim
theorem ZL {s:Shared} {Q:Option Value->Shared->Prop} (X:K.In s.heap) (I:InstAt s.heap e oe D od) (hga:findIn K (.ref D) "__getattribute__" = some (some (.builtin "BaseException.__getattribute__")))
  (hgt:findIn K (.ref D) "__getattr__" = some none) (hb:mroIn K D (.type "BaseException")=some true) (hf:findObj K D od "__class__" = some (.bind (.builtin "getset_descriptor.__get__") (.builtin "object.__class__"))) (hm:mroIn K D (.type "object")=some true)
  (hq:Q (some (.ref D)) {s with toks:=s.toks+1}):wpAny (model prog w) A (getAttr? (.ref e) "__class__") Q E s:=by
 obtain⟨h,g,d,t,os⟩:=s;unfold getAttr? getAttrBy?;refine ah (wpAny_mkText (ah (kr ?_)));refine N_ (v:=.none) X I hga hgt hb λA'=>ZN X I hf ?_;exact ku (class_get X I hm (handed_on rfl (aC hq)))
end
noncomputable def eZ(e C:Addr)(dx:Option Addr):HO:=.ext λh=>∃oe vs,h.get? e=some oe/\oe.cls = .ref C/\oe.dict=dx/\oe.data = .fields vs
theorem QT{P:Program}{w:World}{H:Hp}{h:Heap}{e C:Addr}{dx:Option Addr}{oe:Obj}{vs:Array Value}(h1:h.get? e=some oe)(h2:oe.cls = .ref C)(h3:oe.dict=dx)(h4:oe.data = .fields vs):bG P w H h e (eZ e C dx):=
 ⟨⟨oe,vs,h1,h2,h3,h4⟩,⟨oe,h1⟩,λg1 g2 ⟨o,vs,a,b⟩ k=>⟨o,vs,k o a,b⟩⟩
theorem Ha{P:Program}{w:World}{H:Hp}{h:Heap}{e C:Addr}{dx:Option Addr}(ok:bI P w H h)(z:H e=some (eZ e C dx)):∃oe vs,h.get? e=some oe/\oe.cls = .ref C/\oe.dict=dx/\oe.data = .fields vs:=
 (show bG P w H h e (eZ e C dx)from ok e _ z).1
theorem Vh{P:Program}{w:World}{H:Hp}{h:Heap}{a:Addr}{o:HO}(x:bG P w H h a o):∃ob,h.get? a=some ob:=by
 cases o with
 |lst xs=>obtain⟨_,_,_,_,e⟩:=x;exact⟨_,e⟩
 |tup xs=>obtain⟨_,_,_,⟨ob,e,_⟩,_⟩:=x;exact⟨_,e⟩
 |dK kvs=>obtain⟨_,_,_,_,o,_,_,e,_⟩:=x;exact⟨_,e⟩
 |dT kvs=>obtain⟨_,_,_,_,o,_,_,e,_⟩:=x;exact⟨_,e⟩
 |set S n=>obtain⟨o,_,_,_,e,_⟩:=x;exact⟨_,e⟩
 |ins C dx fs=>obtain⟨_,_,_,e,_⟩:=x;exact⟨_,e⟩
 |own y=>obtain⟨_,e⟩:=x;exact⟨_,e⟩
 |xd fs=>obtain⟨_,⟨_,_,_,e,_⟩,_⟩:=x;exact⟨_,e⟩
 |rng lo hi=>obtain⟨_,_,_,e⟩:=x;exact⟨_,e⟩
 |d4 ob u=>obtain⟨e,_⟩:=x;exact⟨_,e⟩
 |lC ps=>exact⟨_,(show h.get? a=some _ from x)⟩
 |lam pos qual=>obtain⟨_,e,_⟩:=x;exact⟨_,e⟩
 |met f y=>exact⟨_,(show h.get? a=some _ from x)⟩
 |ext φ=>obtain⟨_,⟨_,e⟩,_⟩:=x;exact⟨_,e⟩
theorem Aq{P:Program}{w:World}{H:Hp}{h:Heap}{a:Addr}(ok:bI P w H h)(e:h.get? a=none):H a=none:=by
 cases q:H a with
 |none=>rfl
 |some o =>
  obtain⟨ob,z⟩:=Vh (ok a o q);rw[e]at z;cases z
structure gF (K:W.Frag) (C:Addr):Prop where
 ga:W.findIn K (.ref C) "__getattribute__" = some (some (.builtin "BaseException.__getattribute__"))
 gt:W.findIn K (.ref C) "__getattr__" = some none
 be:W.mroIn K C (.type "BaseException")=some true
 ob:W.mroIn K C (.type "object")=some true
 kl:W.findIn K (.ref C) "__class__" = some (some (.builtin "object.__class__"))
 gs:W.specialIn K (.builtin "object.__class__") "__get__" = some (some (.builtin "getset_descriptor.__get__"))
 tk:W.takesIn K (.builtin "object.__class__")=some true
theorem gF.zU{K:W.Frag}{C:Addr}(x:gF K C):∃cd,W.clsIn K C=some cd:=by
 obtain⟨cd,a,_⟩:=Option.bind_eq_some_iff.mp x.ob;exact⟨cd,a⟩
theorem gF.find {K:W.Frag} {C:Addr} (x:gF K C) (od:Option Obj):W.findObj K C od "__class__" = some (.bind (.builtin "getset_descriptor.__get__") (.builtin "object.__class__")):=by
 obtain⟨cd,hc⟩:=x.zU;unfold W.findObj;rw[hc,pW,x.kl,pW];simp[x.gs,x.tk]
theorem T4{K:W.Frag}{e C:Addr}(cl:gF K C):W.KitX K (.ref e) (.ref C) (λh=>∃oe od,W.InstAt h e oe C od) where
 ty:=λ_ _ _ ⟨_,_,I⟩=>I.type
 it:=λ_ _ X _=>by
  obtain⟨cdD,hcD⟩:=cl.zU;unfold W.clsIn at hcD
  split at hcD
  ·rename_i c' d' cd' sl' ho
   intro A' Q' E' s' k q;unfold isType loadHead;exact ah (wpAny_loadPart (k _ _ (X _ _ ho)) (aC q))
  ·cases hcD
 ne:=λh tp dd its n sl X htp=>by
  obtain⟨cdD,hcD⟩:=cl.zU;refine Bool.eq_false_iff.mpr λq=>?_;have e:C=tp:=Value.ref.inj (gZ.mp q);subst e;unfold W.clsIn at hcD
  split at hcD
  ·rename_i c' d' cd' sl' ho
   have z:=(X _ _ ho).symm.trans htp;cases z
  ·cases hcD
 ca:=λX ⟨_,od,I⟩ k=>ZL X I cl.ga cl.gt cl.be (cl.find od) cl.ob k
noncomputable def lV(H:Hp)(e C:Addr):Prop:=∃dx,H e=some (eZ e C dx)/\∀a,dx=some a->∃fs,H a=some (.xd fs)
theorem ZK{P:Program}{w:World}{H:Hp}{h:Heap}{e C:Addr}(ok:bI P w H h)(x:lV H e C):∃oe od,W.InstAt h e oe C od:=by
 obtain⟨dx,z,k⟩:=x;obtain⟨oe,vs,h1,h2,h3,h4⟩:=Ha ok z;have nc:W.notCls oe=true:=by unfold W.notCls;rw[h4]
 cases dx with
 |none=>exact⟨oe,none,h1,h2,nc,by rw[h3];trivial⟩
 |some a =>
  obtain⟨fs,q⟩:=k a rfl;obtain⟨_,⟨od,_,_,e1,_⟩,_⟩:=(show bG P w H h a (.xd fs)from ok a _ q);exact⟨oe,some od,h1,h2,nc,by rw[h3];exact e1⟩
noncomputable def Xw(K:W.Frag)(cv:V)(c:Value):List V->Hp->VK->Prop:=λxs H Q=>∃e C b,xs = [.ref e,cv]/\lV H e C/\gF K C/\W.kitOne K (.ref C) c=some b/\Q (.bl b) H
theorem eR {X:Cx} {K:W.Frag} (cv:V) (c:Value) (rc:∀u,RelV cv u->u=c) (hK:X.K=K):dP X (.builtin "isinstance") (Xw K cv c):=by
 subst hK;intro pins s σ H xs us Q I r h;obtain⟨e,C,b,rfl,x,cl,k,q⟩:=h;obtain⟨u,v,rfl,ru,rv⟩:=Vals.two r;cases(show u=Value.ref e from ru);cases rc v rv;exact W.kia_one (T4 cl) I.cn (ZK I.hok x) k (λz=>nomatch z) λtk=>⟨.bl b,H,I.tok _,rfl,q⟩
abbrev jz:List Value:=[.type "ValueError", .type "Exception", .type "BaseException", .type "object"]
theorem J_{K:W.Frag}{h:Heap}{mg:Str->Option Value}{x:Str}{C:Addr}{bmB:List Value}{newId:String}(X:K.In h)(e:mg x=some (.ref C))(q:W.excIn K C bmB newId=true):OwnCls x C bmB newId mg h:=by
 refine⟨e,?_⟩;unfold W.excIn at q
 split at q
 ·rename_i dd cd sl ho
  split at q
  ·rename_i C' bm k0 k1 k2 k3 n k5 hm hs
   simp only[dB,gZ,Bool.not_eq_true']at q;obtain⟨⟨⟨⟨⟨rfl,rfl⟩,hdel⟩,ht⟩,hok⟩,hni⟩:=q;obtain⟨nm,bs,mro,ns,qn,hd,sn,sub,ab,col,del⟩:=cd;dsimp only at hm hdel hok hni;subst hm hdel;have hsl:sl = #[k0,k1,k2,k3,some (.builtin n),k5]:=by
    obtain⟨l⟩:=sl;simp only at hs;rw[hs]
   subst hsl;exact⟨bm,ns,nm,qn,bs,hd,sn,sub,ab,col,dd,k0,k1,k2,k3,k5,_,X _ _ ho,.of_isNs (W.isNs_of_in X hok),W.nsMap_none_of_in X hok hni,W.tail_of_in X ht⟩
  ·cases q
 ·cases q
noncomputable def Y0(C:Addr)(E:XK)(ta:TA):TS:=λ_ σ H=>ta σ H λvs H1=>vs.length<=sizeLine/\E (.ref C) none H1
section
variable {X:Cx} {E:XK} {x:Str} {C:Addr} {bmB:List Value} {B newId initId:String} {np cpos pos:Pos} {e0:Expr} {es:List Expr} {ta:TA}
theorem Xi(R:Raises X E)(hm:X.mg x=some (.ref C))(q:W.excIn X.K C bmB newId=true)(FB:ExcBaseFacts B newId initId bmB)(calm:X.calm=true)(hex:X.ex = [])(hg:Gl X x)(ha:PA X (e0::es) ta)
  (he:starEach (e0::es) X.env=(false,eval e0 X.env)::starEach es X.env:=by rfl) (hplain:(backTo cpos (starEach es X.env)).any (·.1)=false:=by rfl) (hd:(x==("__debug__" : Str))=false:=by decide) :
  PS X (.Raise (some (.Call (.Name x np) (e0::es) [] cpos)) none pos) (Y0 C E ta):=by
 intro pins s σ H D I h;have O:OwnCls x C bmB newId X.mg X.base:=J_ I.mod.iN hm q;obtain⟨tl,N,nm,q,bs,hdct,sn,sub,ab,col,dd,k0,k1,k2,k3,k5,mN,hC,hN,hni,T⟩:=O.obj;refine wpAny_Raise_call_subT (C:=C) (nm:=nm) (q:=q) (N:=N) (bs:=bs) (bm:=tl) (hdct:=hdct) (sn:=sn) (sub:=sub) (ab:=ab) (col:=col) (dd:=dd) (k0:=k0) (k1:=k1) (k2:=k2) (k3:=k3) (k5:=k5)
  FB (mN:=mN) (T.hasType FB.hasBase) (I.ok.hd calm) (by rw[he];show(false||(backTo cpos (starEach es X.env)).any (·.1))=false;rw[hplain];rfl) hni (kY I hg O.bound ⟨rfl,?_⟩ hd)
 have h':=ha cpos pins s σ H _ I h;rw[he]at h' ⊢;refine sm (dX h' (λus s2 ⟨vs,H2,I2,r,hl,q2⟩=>?_) λ_ _ y=>y);refine⟨rfl,by rw[<- r.length];exact hl,I2.bk _ _ hC,hN.keeps I2.bk,T.keeps I2.bk,λh3 e hm=>?_⟩;obtain⟨t,ht,_,_⟩:=hm.there;have I3:Inv X pins σ H2 {s2 with heap:=h3}:=I2.kept (t':=s2.toks) hm.keeps;refine R pins σ H2 _ e C _ _ I3 ht rfl rfl rfl (Aq I2.hok hm.new) ?_ q2;cases z:X.s₀.heap.get? e with
 |none=>rfl
 |some o =>
  obtain⟨o',z'⟩:=I2.base.there e o z (by rw[hex];exact λz=>nomatch z);rw[hm.new]at z';cases z'
end
section
variable {X:Cx} {pins lj:List (Addr × Obj)} {σ:St} {H H1 H2:Hp} {s:Shared} {XE:XK}
abbrev Cx.oY (X:Cx) (pins:List (Addr × Obj)):Cx:={X with pn:=X.pn++pins}
theorem Inv.oY(I:Inv X pins σ H s):Inv (X.oY pins) [] σ H s:=
 ⟨⟨I.ok.mod,I.ok.kind,I.ok.glob,I.ok.blt,I.ok.above,I.ok.inj,I.ok.has,I.ok.cab,I.ok.hd,I.ok.frames,I.ok.stk,I.ok.mh,I.ok.bs,I.ok.f6,I.ok.jq,I.ok.jS,I.ok.dw,I.ok.iJ⟩,
  I.os,I.bare,I.base,I.loc,I.cell,I.free,I.dH,λp hp=>I.pin p (by simpa using hp),I.hok,I.len⟩
theorem Inv.rE(I:Inv (X.oY pins) lj σ H s):Inv X pins σ H s:=
 ⟨⟨I.ok.mod,I.ok.kind,I.ok.glob,I.ok.blt,I.ok.above,I.ok.inj,I.ok.has,I.ok.cab,I.ok.hd,I.ok.frames,I.ok.stk,I.ok.mh,I.ok.bs,I.ok.f6,I.ok.jq,I.ok.jS,I.ok.dw,I.ok.iJ⟩,
  I.os,I.bare,I.base,I.loc,I.cell,I.free,I.dH,λp hp=>I.pin p (pQ _ hp),I.hok,I.len⟩
abbrev Cx.marked (X:Cx) (e:Addr):Cx:={X with A:=X.A.mark (some (.ref e)),calm:=false,xe:=λ_ _=>False}
theorem Inv.marked{e:Addr}(I:Inv X pins σ H s):Inv (X.marked e) pins σ H s:=
 ⟨⟨I.ok.mod,I.ok.kind,I.ok.glob,I.ok.blt,I.ok.above,I.ok.inj,I.ok.has,I.ok.cab,(λz=>nomatch z),I.ok.frames,I.ok.stk,I.ok.mh,I.ok.bs,I.ok.f6,I.ok.jq,I.ok.jS,I.ok.dw,I.ok.iJ⟩,
  I.os,I.bare,I.base,I.loc,I.cell,I.free,I.dH,I.pin,I.hok,I.len⟩
theorem Inv.unmarked{e:Addr}(ok:X.Ok)(I:Inv (X.marked e) pins σ H s):Inv X pins σ H s:=
 ⟨ok,I.os,I.bare,I.base,I.loc,I.cell,I.free,I.dH,I.pin,I.hok,I.len⟩
theorem N2{fs ch:List Addr}{h1 h2 h3:Heap}(un:Un fs [] H1 H2 h1 h2)(m:Moved fs ch h2 h3)(hc:∀b∈ch,h1.get? b=none):Un fs [] H1 H2 h1 h3:=by
 have eW:∀b o,h1.get? b=some o->b ∉ ch:=λb o e z=>by rw[hc b z]at e;cases e
 have nx:∀b:Addr,b ∉ ([]:List Addr):=λb z=>nomatch z;refine⟨λb o q n hb hx=>m.keep b o (un.keep b o q n hb hx) hb (eW b o q),λb o q n hb hx=>?_,un.free,λb o q hx=>?_,un.tups,un.eS,un.fz⟩
 ·obtain⟨sl,e1⟩:=un.slot b o q n hb hx
  obtain⟨mW,e3⟩:=m.any e1 (eW b _ q);exact⟨mW,e3⟩
 ·obtain⟨o2,e2⟩:=un.there b o q hx
  exact m.there b o2 e2
theorem Inv.track{ea:Addr}{oe:Obj}{vs:Array Value}{o:HO}(I:Inv X pins σ H s)(he:s.heap.get? ea=some oe)(hd:oe.data = .fields vs)(hn:H ea=none)(h0:X.s₀.heap.get? ea=none)(hp:∀p∈X.pn++pins,p.1≠ea)(new:bG X.prog X.w (upd H ea o) s.heap ea o):Inv X pins σ (upd H ea o) s:=by
 have ne0:∀b ob,X.s₀.heap.get? b=some ob->b≠ea:=λb ob e z=>by rw[z,h0]at e;cases e
 have neT:∀b u,H b=some u->b≠ea:=λb u e z=>by rw[z,hn]at e;cases e
 refine⟨I.ok,I.os,I.bare,⟨I.base.keep,I.base.slot,λb ob e n hx=>?_,I.base.there,λb xs e=>?_,λb u xs e=>?_,λb ps e=>?_⟩,I.loc,I.cell,?_,λx c e=>?_,λp hpp=>?_,λb u e=>?_,I.len⟩
 ·rw[aA (ne0 b ob e)];exact I.base.free b ob e n hx
 ·have q:=I.base.tups b xs e
  rw[aA (neT b _ q)];exact q
 ·have q:=I.base.eS b u xs e
  rw[aA (neT b _ q)];exact q
 ·obtain⟨more,q⟩:=I.base.fz b ps e
  exact⟨more,by rw[aA (neT b _ q)];exact q⟩
 ·have ne:X.env.locals≠ea:=λz=>by
   obtain⟨m,⟨oL,es,ep,hL,hdL,_⟩,_⟩:=I.loc;rw[z,he]at hL;cases hL;rw[hd]at hdL;cases hdL
  rw[aA ne];exact I.free
 ·have ne:c≠ea:=λz=>by
   obtain⟨v,oc,hc,hdc⟩:=I.cell x c e;rw[z,he]at hc;cases hc;rw[hd]at hdc;cases hdc
  rw[aA ne];exact I.dH x c e
 ·obtain⟨a,b,c⟩:=I.pin p hpp
  exact⟨a,by rw[aA (hp p hpp)];exact b,c⟩
 ·by_cases z:b=ea
  ·subst z
   rw[ak]at e;cases e;exact new
  ·rw[aA z]at e
   exact(I.hok b u e).stay (λc v _ q=>q) (λc q=>by rw[aA (neT c _ q)];exact q) (λc xs q=>by rw[aA (neT c _ q)];exact q) λc ob u q=>by rw[aA (neT c _ q)];exact q
theorem Inv.gone{i:Nat}{n:Str}{h':Heap}{m':Str->Option Value}(I:Inv X pins σ H s)(hN:X.N.Nodup)(hi:X.N[i]?=some n)(hloc:X.env.scope.names.lookup n=some .local){m:Str->Option Value}(hm:s.heap.Ns X.env.locals m)
  (hn:h'.Ns X.env.locals m') (hm':∀x,x≠n->m' x=m x) (hs:Heap.SameBut X.env.locals s.heap h'):Inv X pins (σ.set i none) H {s with heap:=h',toks:=s.toks+1}:=by
 obtain⟨m0,hn0,hl⟩:=id I.loc;have em:m0=m:=by
  funext x
  obtain⟨o,es,ep,h1,h2,_,h3⟩:=hn0;obtain⟨o',es',ep',h1',h2',_,h3'⟩:=hm;rw[h1]at h1';cases h1';rw[h2]at h2';cases h2';rw[<- h3,<- h3']
 subst em;have hiσ:i<σ.length:=by rw[I.len];exact(cG.mp hi).1
 have iG:=I.iG;have oJ:∀b o,X.s₀.heap.get? b=some o->b≠X.env.locals:=λb o e=>bO (cg (aV e) I.ok.above);refine⟨I.ok,I.os,I.bare,⟨λb o e n hb hx=>?_,λb o e n hb hx=>?_,I.base.free,λb o e hx=>?_,I.base.tups,I.base.eS,I.base.fz⟩,⟨_,hn,λj y v' e1 e2 e3=>?_⟩,λy c e=>?_,I.free,I.dH,λp hp=>?_,λb ob e=>?_,by simpa using I.len⟩
 ·exact(hs.2 b (oJ b o e)).trans (I.base.keep b o e n hb hx)
 ·obtain⟨sl,e1⟩:=I.base.slot b o e n hb hx
  exact⟨sl,(hs.2 b (oJ b o e)).trans e1⟩
 ·obtain⟨o',e1⟩:=I.base.there b o e hx
  exact⟨o',(hs.2 b (oJ b o e)).trans e1⟩
 ·by_cases hj:j=i
  ·subst hj
   rw[wB hiσ]at e2;cases e2
  ·rw[rX (cE hj)]at e2
   obtain⟨u',r',q⟩:=hl j y v' e1 e2 e3;refine⟨u',r',?_⟩
   rcases q with⟨k,e⟩|⟨k,c,e,z⟩
   ·refine .inl ⟨k,?_⟩
    have:y≠n:=λe=>hj (Ao hN e1 (e▸hi));rw[hm' y this];exact e
   ·exact .inr ⟨k,c,e,z.sameBut hs (iG y c e)⟩
 ·obtain⟨w',z⟩:=I.cell y c e
  exact⟨w',z.sameBut hs (iG y c e)⟩
 ·obtain⟨e,n,ne,nf,d⟩:=I.pin p hp
  exact⟨(hs.2 p.1 ne).trans e,n,ne,nf,d⟩
 ·have hfree:=I.free
  refine(I.hok b ob e).stay (λc w' hc q=>(hs.2 c ?_).trans q) (λ_ q=>q) (λ_ _ q=>q) λ_ _ _ q=>q;rintro rfl
  rcases hc with rfl|hc
  ·rw[hfree]at e;cases e
  ·rw[hfree]at hc;cases hc
end
section
variable {X:Cx} {XE:XK} {body suite:List Stmt} {b0:Stmt} {c n:Str} {np hpos pos:Pos} {i:Nat} {Dc:Addr} {tb ts:TS}
end
structure fC (P:Program) (w:World) (K:W.Frag) (mg:Str->Option Value) (base:Heap) (x:Str) (ps:List Str) (k:Nat) (sp:Sp):Prop where
 ex:∃(f:Addr) (fd:FuncData),aN P w K mg base (bA P w) k f fd ps sp/\mg x=some (.ref f)/\W.keepIn K (.ref f)=true/\Binds K fd ps []
section
variable {X:Cx} {x:Str} {ps:List Str} {k k':Nat} {sp:Sp} {e:Expr} {es:List Expr} {t:TA} {p pos:Pos} {E:XK}
theorem oV (c:fC X.prog X.w X.K X.mg X.base x ps k sp) (px:Passes (bA X.prog X.w) X E) (hr:bS k' X.A) (hg:Gl X x) (ha:PA X (e::es) t) (hk:k<=k':=by decide) (hdb:(x==("__debug__" : Str))=false:=by decide)
  (he:starEach (e::es) X.env=(false,eval e X.env)::starEach es X.env:=by rfl) (hpl:(backTo pos (starEach es X.env)).any (·.1)=false:=by rfl):PE X (.Call (.Name x p) (e::es) [] pos) (pA sp [] E t):=by
 obtain⟨f,fd,F,hm,kp,b⟩:=c.ex;exact Kl F (hr.mono hk) hg hm kp b .nil px ha hdb he hpl
end
theorem aT.uO{P:Program}{w:World}{K:W.Frag}{mg:Str->Option Value}{base:Heap}{x qual:Str}{st:Stmt}{f:Addr}{fd:FuncData}{N ps:List Str}{k:Nat}{sp:Sp}(F:aT K x qual st f fd)(S:bh N ps (ay st))(len:∀vs H Q E,sp vs H Q E->vs.length=ps.length)(hbody:∀(cdv:Value) (A:Around) (outer:List Env) (s:Shared) (H:Hp) (vs:List V) (Q:VK) (E:XK),bS k (A.deeper (envOfC qual (ay st) s.heap.objs.size f cdv))->sp vs H Q E->∃t,dE (bU (bA P w) P w K mg base N qual (ay st) f cdv A outer s H E) (f9 st) t/\t {nx:=λ_ H'=>Q .non H',rt:=Q} (start N vs) H):aN P w K mg base (bA P w) (k+1) f fd ps sp:=by
 obtain⟨oc,od,kV,doc,pm,an,cdv,ct,osl,rfl,lk,hcd⟩:=F.ex;exact Hj lk hcd S len λA outer s H vs Q E hr hsp=>hbody cdv A outer s H vs Q E hr hsp
noncomputable def uj:Value->Bool
 |.bool b=>b
 |_=>false
theorem Gf:∀{bs:List Bool} {us:List Value},Vals (bs.map V.bl) us->us=bs.map Value.bool
 | [],_,h=>by cases h;rfl
 |b::bs,_,h=>by
  cases h with
  |cons h t=>rw[show _=Value.bool b from h,Gf t];rfl
noncomputable def Xu(K:W.Frag):V->List V->Hp->VK->Prop:=λx vs H Q=>∃(l:Addr) (bs:List Bool),x = .ref l/\vs = [.bl true]/\ai K H l (bs.map V.bl)/\true∈bs/\Q (.int (bs.idxOf true:Nat)) H
theorem Uy {X:Cx} {K:W.Frag} (hK:X.K=K):pT X "list.index" (Xu K):=by
 subst hK;intro pins s σ H x vs v us Q I rx rv h;obtain⟨l,bs,rfl,rfl,hq,hk,q⟩:=h;cases rx;obtain⟨u,rfl,ru⟩:=rv.one;cases(show u=Value.bool true from ru);obtain⟨its,r,⟨⟨cls,dd,data,sl⟩,n,ho,hc,hdd,hd⟩,hz⟩:=I.list hq;simp only at hc hdd hd;subst hc hdd hd;have hi:=Gf r;subst hi;have hj:bs.idxOf true<bs.length:=List.idxOf_lt_length_iff.mpr hk;have hb:sizeLine<2 ^ 62:=by decide
 rw[aB]at hz;refine lR O8 ⟨_,ho,rfl⟩ PySem.F.entry_list_index (PySem.F.args_list_index_2 _ _)
  (SeqAt.list_indexAt l (bs.map Value.bool).toArray n none sl (.bool true) uj (bs.idxOf true) (by simpa using hj) (by omega) ?_ ?_) ⟨ho,λy hy=>?_,?_⟩
 ·show uj ((bs.map Value.bool)[bs.idxOf true]'(by simpa using hj))=true
  rw[Ek,List.getElem_idxOf hj];rfl
 ·intro j hjs hlt
  have hj2:j<bs.length:=by simpa using hjs
  show uj ((bs.map Value.bool)[j]'(by simpa using hj2))=false;rw[Ek];show bs[j]=false;have:=List.not_of_lt_findIdx (p:=(· == true)) (xs:=bs) (i:=j) hlt;simpa using this
 ·obtain⟨b,_,rfl⟩:=cU.mp (show y∈bs.map Value.bool by simpa using hy)
  have e:uj (.bool b)=(b==true):=by cases b<;>rfl
  rw[e];exact w5 b true
 ·exact⟨.int (bs.idxOf true:Nat),H,I.tok _,⟨_,rfl⟩,q⟩
noncomputable def strOf:Expr->Option Str
 |.Constant (.str i) _ _=>some i
 |_=>none
noncomputable def strsOf:List Expr->Option (List Str)
 | []=>some []
 |e::r=>(strOf e).bind λi=>(strsOf r).map (i::·)
theorem Yy{e:Expr}{i:Str}(h:strOf e=some i):∃k p,e = .Constant (.str i) k p:=by
 cases e with
 |Constant c k p =>
  cases c with
  |str j=>cases h;exact⟨k,p,rfl⟩
  |_=>cases h
 |_=>cases h
theorem uU{X:Cx}:∀{es:List Expr} (is:List Str),strsOf es=some is->PA X es (λ_ H Q=>Q (is.map V.str) H):=by
 intro es
 induction es with
 |nil =>
  intro is h;cases h;exact ag
 |cons e r ih =>
  intro is h;have h':(strOf e).bind (λi=>(strsOf r).map (i::·))=some is:=h;cases q1:strOf e with
  |none=>rw[q1]at h';cases h'
  |some i =>
   obtain⟨k,p,rfl⟩:=Yy q1;rw[q1]at h';cases q:strsOf r with
   |none=>rw[pW,q]at h';cases h'
   |some l =>
    rw[pW,q]at h';cases h';exact ae bz (ih l q)
theorem PX:bootBuiltins "ValueError" = some (.type "ValueError"):=by decide +kernel
structure kb (mg:Str->Option Value) (a0 a1 a2 a3 a4 a5 a6 a7 a8 a9 a10 a11 a12 a13 a14 aE:Addr):Prop where
 NoChain:mg "NoChain" = some (.ref a0)
 NoClimb:mg "NoClimb" = some (.ref a1)
 NoCount:mg "NoCount" = some (.ref a2)
 NoEnds:mg "NoEnds" = some (.ref a3)
 NoExchange:mg "NoExchange" = some (.ref a4)
 NoJoin:mg "NoJoin" = some (.ref a5)
 NoLine:mg "NoLine" = some (.ref a6)
 NoName:mg "NoName" = some (.ref a7)
 NoNumber:mg "NoNumber" = some (.ref a8)
 NoOrder:mg "NoOrder" = some (.ref a9)
 NoPart:mg "NoPart" = some (.ref a10)
 NoText:mg "NoText" = some (.ref a11)
 NoThing:mg "NoThing" = some (.ref a12)
 NoWord:mg "NoWord" = some (.ref a13)
 NotEven:mg "NotEven" = some (.ref a14)
 ClimbError:mg "ClimbError" = some (.ref aE)
 ve:mg "ValueError" = none
structure rM (K:W.Frag) (a0 a1 a2 a3 a4 a5 a6 a7 a8 a9 a10 a11 a12 a13 a14 aE:Addr):Prop where
 NoChain:W.nsIn K mainGlobals "NoChain" = some (some (.ref a0))
 NoClimb:W.nsIn K mainGlobals "NoClimb" = some (some (.ref a1))
 NoCount:W.nsIn K mainGlobals "NoCount" = some (some (.ref a2))
 NoEnds:W.nsIn K mainGlobals "NoEnds" = some (some (.ref a3))
 NoExchange:W.nsIn K mainGlobals "NoExchange" = some (some (.ref a4))
 NoJoin:W.nsIn K mainGlobals "NoJoin" = some (some (.ref a5))
 NoLine:W.nsIn K mainGlobals "NoLine" = some (some (.ref a6))
 NoName:W.nsIn K mainGlobals "NoName" = some (some (.ref a7))
 NoNumber:W.nsIn K mainGlobals "NoNumber" = some (some (.ref a8))
 NoOrder:W.nsIn K mainGlobals "NoOrder" = some (some (.ref a9))
 NoPart:W.nsIn K mainGlobals "NoPart" = some (some (.ref a10))
 NoText:W.nsIn K mainGlobals "NoText" = some (some (.ref a11))
 NoThing:W.nsIn K mainGlobals "NoThing" = some (some (.ref a12))
 NoWord:W.nsIn K mainGlobals "NoWord" = some (some (.ref a13))
 NotEven:W.nsIn K mainGlobals "NotEven" = some (some (.ref a14))
 ClimbError:W.nsIn K mainGlobals "ClimbError" = some (some (.ref aE))
 ve:W.nsIn K mainGlobals "ValueError" = some none
theorem rM.errs{K:W.Frag}{mg:Str->Option Value}{h:Heap}{a0 a1 a2 a3 a4 a5 a6 a7 a8 a9 a10 a11 a12 a13 a14 aE:Addr}(A:rM K a0 a1 a2 a3 a4 a5 a6 a7 a8 a9 a10 a11 a12 a13 a14 aE)(X:K.In h)(G:h.Ns mainGlobals mg):kb mg a0 a1 a2 a3 a4 a5 a6 a7 a8 a9 a10 a11 a12 a13 a14 aE:=
 ⟨W.mg_of X G A.NoChain,W.mg_of X G A.NoClimb,W.mg_of X G A.NoCount,W.mg_of X G A.NoEnds,W.mg_of X G A.NoExchange,W.mg_of X G A.NoJoin,W.mg_of X G A.NoLine,W.mg_of X G A.NoName,W.mg_of X G A.NoNumber,W.mg_of X G A.NoOrder,W.mg_of X G A.NoPart,W.mg_of X G A.NoText,W.mg_of X G A.NoThing,W.mg_of X G A.NoWord,W.mg_of X G A.NotEven,W.mg_of X G A.ClimbError,W.mg_none_of X G A.ve⟩
structure df (K:W.Frag) (a0 a1 a2 a3 a4 a5 a6 a7 a8 a9 a10 a11 a12 a13 a14 aE C:Addr) (j:Nat):Prop where
 xc:gF K C
 QV:W.exmOne K (.ref C) (.ref aE)=some true
 ke:W.kitOne K (.ref C) (.ref aE)=some true
 kv:W.kitOne K (.ref C) (.type "ValueError")=some true
 k0:W.kitOne K (.ref C) (.ref a0)=some (decide (0=j))
 k1:W.kitOne K (.ref C) (.ref a1)=some (decide (1=j))
 k2:W.kitOne K (.ref C) (.ref a2)=some (decide (2=j))
 k3:W.kitOne K (.ref C) (.ref a3)=some (decide (3=j))
 k4:W.kitOne K (.ref C) (.ref a4)=some (decide (4=j))
 k5:W.kitOne K (.ref C) (.ref a5)=some (decide (5=j))
 k6:W.kitOne K (.ref C) (.ref a6)=some (decide (6=j))
 k7:W.kitOne K (.ref C) (.ref a7)=some (decide (7=j))
 k8:W.kitOne K (.ref C) (.ref a8)=some (decide (8=j))
 k9:W.kitOne K (.ref C) (.ref a9)=some (decide (9=j))
 k10:W.kitOne K (.ref C) (.ref a10)=some (decide (10=j))
 k11:W.kitOne K (.ref C) (.ref a11)=some (decide (11=j))
 k12:W.kitOne K (.ref C) (.ref a12)=some (decide (12=j))
 k13:W.kitOne K (.ref C) (.ref a13)=some (decide (13=j))
 k14:W.kitOne K (.ref C) (.ref a14)=some (decide (14=j))
theorem lV.same{H H':Hp}{e C:Addr}(x:lV H e C)(s:∀b o,H b=some o->H' b=some o):lV H' e C:=by
 obtain⟨dx,h1,h2⟩:=x;exact⟨dx,s _ _ h1,λa q=>let⟨fs,z⟩:=h2 a q;⟨fs,s _ _ z⟩⟩
end L2
namespace My
open PySem PySem.Spec PyProof.Rows L2
noncomputable def Wd(ws:List Str):Prop:=∀y∈ws,dC 32 y/\y.length<=40
theorem Wd.ins{ws:List Str}{y:Str}{i:Nat}(h:Wd ws)(hy:dC 32 y/\y.length<=40):Wd (ws.take i++y::ws.drop i):=λz hz=>by
 rcases fe.mp hz with hz|hz
 ·exact h z (r0 hz)
 ·rcases bu.mp hz with rfl|hz
  ·exact hy
  ·exact h z (Eo hz)
theorem Wd.set{ws:List Str}{y:Str}{i:Nat}(h:Wd ws)(hy:dC 32 y/\y.length<=40):Wd (ws.set i y):=λz hz=>by
 rcases Ep hz with hz|rfl
 ·exact h z hz
 ·exact hy
theorem Wd.erase{ws:List Str}{i:Nat}(h:Wd ws):Wd (ws.eraseIdx i):=λz hz=>h z (List.mem_of_mem_eraseIdx hz)
theorem Wd.get {ws:List Str} (h:Wd ws) {i:Nat} (hi:i<ws.length):dC 32 (ws.getD i "")/\(ws.getD i "").length<=40:=by
 rw[aZ,aK hi];exact h _ (ja hi)
theorem Wd.app{ws zs:List Str}(h:Wd ws)(h':Wd zs):Wd (ws++zs):=λz hz=>(fe.mp hz).elim (h z) (h' z)
theorem Wd.cons{z:Str}{zs:List Str}(h:dC 32 z/\z.length<=40)(h':Wd zs):Wd (z::zs):=λy hy=>(bu.mp hy).elim (λe=>e▸h) (h' y)
theorem Hl{a b:Str}(h:dC 32 a)(h':dC 32 b):dC 32 (a++b):=λz=>by
 have z':32∈(a++b).cps.toList:=z;rw[show(a++b).cps=a.cps++b.cps from rfl,DY,fe]at z';exact z'.elim h h'
theorem Hm{c:Nat}(hc:c≠32):∀{ps:List Str},(∀p∈ps,dC 32 p)->dC 32 (Str.join ⟨#[c]⟩ ps)
 | [],_=>λz=>nomatch (show 32∈([]:List Nat)from z)
 | [p],h=>h p (bW.mpr rfl)
 |p::q::r,h=>λz=>by
  have z':32∈(Str.join ⟨#[c]⟩ (p::q::r)).cps.toList:=z;rw[kU,fe,bu]at z'
  rcases z' with z'|z'|z'
  ·exact h p (cK ..) z'
  ·exact hc z'.symm
  ·exact Hm hc (λy hy=>h y (bT _ hy)) z'
theorem Hn{c:Nat}:∀{ps:List Str} {p:Str},dC 32 (Str.join ⟨#[c]⟩ ps)->p∈ps->dC 32 p
 | [q],p,h,hp=>by rw[bW.mp hp];exact h
 |q::r::ps,p,h,hp=>by
  have h':32 ∉ (Str.join ⟨#[c]⟩ (q::r::ps)).cps.toList:=h;rw[kU,fe,bu,not_or,not_or]at h'
  rcases bu.mp hp with rfl|hp
  ·exact h'.1
  ·exact Hn (c:=c) (ps:=r::ps) h'.2.2 hp
theorem uk{c:Nat}:∀{ps:List Str},ps≠[]->(Str.join ⟨#[c]⟩ ps).length+1=(ps.map λp=>p.length+1).sum
 | [],h=>absurd rfl h
 | [q],_=>by simp[Str.join]
 |q::r::ps,_=>by
  have e:=congrArg List.length (kU c q r ps);rw[dD,dr,dq,dq,dq]at e;have e:(Str.join ⟨#[c]⟩ (q::r::ps)).length=q.length+((Str.join ⟨#[c]⟩ (r::ps)).length+1):=e;have:=uk (c:=c) (ps:=r::ps) (by simp);rw[cI,jb];omega
noncomputable def rD (y:Str):Str:=Txt.join "<" (Txt.split y "<").reverse
theorem NR (y:Str):((Txt.split y "<").reverse.map λt=>t.length+("<" : Str).length).sum=y.length+1:=by
 have h0:Txt.split y "<" ≠ []:=λe=>by
  have:=split_pos y "<";rw[e]at this;exact absurd this (by decide)
 have h1:=uk (c:=60) h0;rw[show(⟨#[60]⟩:Str) = "<" from rfl,sx]at h1;rw[h1,List.map_reverse,List.sum_reverse];rfl
theorem Zc{y:Str}(h:dC 32 y/\y.length<=40):dC 32 (rD y)/\(rD y).length<=40:=by
 have h0:Txt.split y "<" ≠ []:=λe=>by
  have:=split_pos y "<";rw[e]at this;exact absurd this (by decide)
 have e:rD y=Str.join ⟨#[60]⟩ (Txt.split y "<").reverse:=Fq _ _;have hs:Str.join ⟨#[60]⟩ (Txt.split y "<")=y:=sx y "<";rw[e];refine⟨Hm (by decide) λp hp=>Hn (c:=60) (ps:=Txt.split y "<") (by rw[hs];exact h.1) (List.mem_reverse.mp hp),?_⟩;have h1:=uk (c:=60) (ps:=(Txt.split y "<").reverse) (by rw[ne_eq,List.reverse_eq_nil_iff];exact h0);have h2:=NR y;have h3:((Txt.split y "<").reverse.map λt=>t.length+("<" : Str).length).sum=((Txt.split y "<").reverse.map λp=>p.length+1).sum:=rfl;have:=h.2;omega
noncomputable def uK:List Str:=["","a<b","1<","<2","0<1<2","01<2","1-2","+1<2","x","1","0<0","1>0"]
noncomputable def uL:List Str:=["99<0","1<0","1_0","1_0<2","0<1_1","-0<1","0<-0"]
noncomputable def uM (n:Nat):List Str:=uK++(("0<" ++ nS n)::uL)
theorem Vi:Wd uK:=by
 show ∀y∈uK,32 ∉ y.cps.toList/\y.length<=40;decide +kernel
theorem Vj:Wd uL:=by
 show ∀y∈uL,32 ∉ y.cps.toList/\y.length<=40;decide +kernel
theorem Ak{n:Nat}(h:n<=100):dC 32 (nS n)/\(nS n).length<=11:=⟨uJ (by omega),jV (by omega)⟩
theorem Vk{n:Nat}(h:n<=24):Wd (uM n):=by
 have hn:=Ak (n:=n) (by omega);refine Vi.app (.cons ⟨Hl (by show 32 ∉ _;decide) hn.1,?_⟩ Vj);rw[nW];show 2+_<=40;omega
noncomputable def Gw:List Str:=["0","25","00","","a","1<2"]
noncomputable def Gx:List Str:=["1_0","-0","2_4"]
noncomputable def jQ (n:Nat):List Str:=Gw++(nS (n+1)::nS (n - 1):: "24" ::Txt.mul "9" 30::("+" ++ nS (n - 1))::Gx)
theorem P'{n:Nat}(h:n<=24):Wd (jQ n):=by
 have h1:=Ak (n:=n+1) (by omega);have h2:=Ak (n:=n - 1) (by omega);refine Wd.app (by show ∀y∈Gw,32 ∉ y.cps.toList/\y.length<=40;decide +kernel) (.cons ⟨h1.1,by omega⟩ (.cons ⟨h2.1,by omega⟩ (.cons (by show 32 ∉ _/\_;decide) (.cons (by show 32 ∉ _/\_;decide +kernel) (.cons ⟨Hl (by show 32 ∉ _;decide) h2.1,?_⟩ (by show ∀y∈Gx,32 ∉ y.cps.toList/\y.length<=40;decide +kernel))))));rw[nW];show 1+_<=40;omega
theorem vQ {ws:List Str} {i:Nat} (h:i<ws.length):(ws.map V.str)[i]?=some (.str (ws.getD i "")):=by
 rw[dR,aK h,aZ,aK h];rfl
theorem G_{α β:Type}(g:α->β):∀(l:List α) (i:Nat),(l.map g).eraseIdx i=(l.eraseIdx i).map g
 | [],_=>by simp
 |_::_,0=>by simp
 |x::l,i+1=>by rw[cI,Eh,Eh,cI,G_ g l i]
noncomputable def iq(H:Hp)(L d o n k:Nat)(x:Str)(m:Nat)(σ:L2.St)(H':Hp):Prop:=∃(v6 v7 v8:Option V) (ws:List Str),σ = [some (.ref L),some (.ref d),some (.int (n:Int)),some (.ref o),some (.int (k:Int)),some (.str x),v6,v7,v8]/\Same H H'/\H' L=some (.lst (ws.map V.str))/\Wd ws/\ws.length<=m
section
variable {P:Program} {w:World} {K:W.Frag} {mg:Str->Option Value} {base:Heap} {f:Addr} {fd:FuncData}
abbrev vv:Stmt:=top 62
theorem Ly:bh ["_law_words","_law_draws_here","_law_count","_law_odd","_law_at","_law_word","_law_more","_law_less","_law_counts"] ["_law_words","_law_draws_here","_law_count"] (ay vv):=⟨rfl,rfl,rfl,by decide +kernel,rfl,by decide +kernel,by decide +kernel⟩
noncomputable def B_(K:W.Frag):Sp:=λvs H Q _=>∃(a d n:Nat) (ws:List Str) (ds:List Int),vs = [.ref a,.ref d,.int n]/\ai K H a (ws.map V.str)/\Wd ws/\ws.length<=800/\ai K H d (ds.map V.int)/\ds.length=3/\(∀x∈ds,0<=x)/\1<=n/\n<=24/\∀L ws' H',Same H H'->H' L=some (.lst (ws'.map V.str))->Wd ws'->ws'.length<=ws.length+1->Q (.ref L) H'
theorem Vr (F:aT K "_law_bent" "_law_bent" vv f fd) (T:Txt mg):aN P w K mg base bf 1 f fd ["_law_words","_law_draws_here","_law_count"] (B_ K):=by
 refine F.ok Ly (λvs H Q E h=>?_) (λcdv A outer s H vs Q E hr h=>?_)
 ·obtain⟨a,d,n,ws,ds,rfl,_⟩:=h
  rfl
 ·obtain⟨a,d,n,ws,ds,rfl,ha,hW,hwl,hd,hdl,hds,n1,n24,kk⟩:=h
  have nd:=Ly.nd;have hu0:=hr.units;have hu1:(A.deeper (envOfC "_law_bent" (ay vv) s.heap.objs.size f cdv)).units+1<cLine:=by omega
  obtain⟨k,hk,ek⟩:=gG (ds.getD 1 0 / 64) (ws.length+1) (by omega);obtain⟨r,Ig,yw⟩:=gG (ds.getD 2 0) 20 (by decide);obtain⟨r14,Ie,qm⟩:=gG (ds.getD 2 0 / 20) 14 (by decide);have ek:ds.getD 1 0 / 64 % ((ws.length:Int)+1)=(k:Int):=by rw[<- ek];push_cast;rfl
  have yw:ds.getD 2 0 % 20=(r:Int):=yw;have qm:ds.getD 2 0 / 20 % 14=(r14:Int):=qm;have X8:∀{z:Nat},z<=100000->z<=sizeLine:=λh=>dS (cP h);refine⟨_,(@ao _ _ _ _ _ (aJ (i:=0) nd rfl (Or.inl rfl) (dm (Gk (K:=K) rfl) rfl T.list qg (ae (pv 0) ag)))
   (@ao _ _ _ _ _ (@aJ _ _ 3 _ _ _ _ nd rfl (Or.inl rfl) (@b9 _ _ _ _ (@uU _ _ ["","a<b","1<","<2","0<1<2","01<2","1-2","+1<2","x","1","0<0","1>0"] rfl)) (by rfl) (by first|exact .inl rfl|exact .inr rfl))
   (@ao _ _ _ _ _ (@aJ _ _ 3 _ _ _ _ nd rfl (Or.inl rfl) (@av _ _ _ _ _ _ _ _ gu (pv 3) (@b9 _ _ _ _ (@ae _ _ _ _ _ (@av _ _ _ _ _ _ _ _ uS bz (dm ou rfl T.str kD (ae (pv 2) ag))) (@uU _ _ ["99<0","1<0","1_0","1_0<2","0<1_1","-0<1","0<-0"] rfl) (bw nofun)))) (by rfl) (by first|exact .inl rfl|exact .inr rfl))
   (@ao _ _ _ _ _ (aJ (i:=4) nd rfl (Or.inl rfl) (av cq (av oQ (aH (aX (K:=K) rfl) (pv 1) aj (λ_ _=>rfl)) aj) (av dI (aR (cj (K:=K) rfl) rfl T.len cw (ae (pv 0) ag)) aj)))
   (@ao _ _ _ _ _ (aJ (i:=5) nd rfl (Or.inl rfl) (aH (aX (K:=K) rfl) (pv 3) (av cq (aH (aX (K:=K) rfl) (pv 1) aj (λ_ _=>rfl)) aj) (λ_ _=>rfl)))
   (@ao _ _ _ _ _ (bq (aU bQ (av cq (aH (aX (K:=K) rfl) (pv 1) aj (λ_ _=>rfl)) aj) aj (aP _)) (aq (c9 (cR (K:=K) rfl fU sr wX uy (pv 0) (ae (pv 4) (ae (pv 5) ag))))) bx)
   (@ao _ _ _ _ _ (bq (PW.pt (gK (aU bQ (av cq (aH (aX (K:=K) rfl) (pv 1) aj (λ_ _=>rfl)) aj) aj (aP _)) (gN (aU la (pv 4) (aR (cj (K:=K) rfl) rfl T.len cw (ae (pv 0) ag)) (aP _))))) (aq (ll (pv 5) (mR (pv 0) (pv 4) set_list))) bx)
   (@ao _ _ _ _ _ (bq (PW.pt (gK (aU bQ (av cq (aH (aX (K:=K) rfl) (pv 1) aj (λ_ _=>rfl)) aj) aj (aP _)) (gN (aU la (pv 4) (aR (cj (K:=K) rfl) rfl T.len cw (ae (pv 0) ag)) (aP _))))) (aq (c9 (cR (K:=K) rfl fU PySem.F.slot_list_pop PySem.F.type_list_pop Uz (pv 0) (ae (pv 4) ag)))) bx)
   (@ao _ _ _ _ _ (bq (PW.pt (gK (aU bQ (av cq (aH (aX (K:=K) rfl) (pv 1) aj (λ_ _=>rfl)) aj) aj (aP _)) (gN (aU (J6 (K:=K) 0 rfl hu1) (pv 0) (b9 ag) (aP _))))) (@ao _ _ _ _ _ (aJ (i:=6) nd rfl (Or.inl rfl) (dm ou rfl T.str kD (ae (av dI (pv 2) aj) ag)))
   (@ao _ _ _ _ _ (aJ (i:=7) nd rfl (Or.inl rfl) (dm ou rfl T.str kD (ae (av qL (pv 2) aj) ag)))
   (@ao _ _ _ _ _ (@aJ _ _ 8 _ _ _ _ nd rfl (Or.inl rfl) (@b9 _ _ _ _ (@ae _ _ _ _ _ bz (@ae _ _ _ _ _ bz (@ae _ _ _ _ _ bz (@ae _ _ _ _ _ bz (@ae _ _ _ _ _ bz (@ae _ _ _ _ _ bz (@ae _ _ _ _ _ (pv 6) (@ae _ _ _ _ _ (pv 7) (@ae _ _ _ _ _ bz (@ae _ _ _ _ _ (av Ww bz aj) (@ae _ _ _ _ _ (av uS bz (pv 7)) (@ae _ _ _ _ _ bz (@ae _ _ _ _ _ bz (@ae _ _ _ _ _ bz ag (bw nofun)) (bw nofun)) (bw nofun)) (bw nofun)) (bw nofun)) (bw nofun)) (bw nofun)) (bw nofun)) (bw nofun)) (bw nofun)) (bw nofun)) (bw nofun)) (bw nofun)) (bw nofun))) (by rfl) (by first|exact .inl rfl|exact .inr rfl))
   (aq (ll (aH (aX (K:=K) rfl) (pv 8) (av cq (av oQ (aH (aX (K:=K) rfl) (pv 1) aj (λ_ _=>rfl)) aj) aj) (λ_ _=>rfl)) (mR (pv 0) aj set_list)))))) bx)
   (@ao _ _ _ _ _ (bq (PW.pt (gK (aU bQ (av cq (aH (aX (K:=K) rfl) (pv 1) aj (λ_ _=>rfl)) aj) aj (aP _)) (gN (aU la (pv 4) (aR (cj (K:=K) rfl) rfl T.len cw (ae (pv 0) ag)) (aP _))))) (aq (ll (cR (K:=K) rfl je wU wY (uz (K:=K) rfl) bz (ae (W9 (K:=K) rfl (cR (K:=K) rfl je jK nU mI (aH (aX (K:=K) rfl) (pv 0) (pv 4) (λ_ _=>rfl)) (ae bz ag)) (h7 (W_ Zq aj))) ag)) (mR (pv 0) (pv 4) set_list))) bx)
   (aq (aS (pv 0))))))))))))),?_⟩
  refine⟨_,rfl,a,_,rfl,.inl ha,λL hL=>?_⟩;have s1:=Same.put hL (o:=.lst (ws.map V.str));have sk:∀{H4:Hp} {o:HO},Same H H4->Same H (upd H4 L o):=λs4 b o e=>by
   rw[aA (cF e hL)];exact s4 _ _ e
  dsimp only[aW];show bD _ _ _ [some (.ref L),some (.ref d),some (.int (n:Int)),none,none,none,none,none,none] _;refine⟨by show 12<=sizeLine;decide,λo1 ho1=>?_⟩;have s2:=Same.put ho1 (o:=.lst (uK.map V.str));dsimp only[aW];show bD _ _ _ [some (.ref L),some (.ref d),some (.int (n:Int)),some (.ref o1),none,none,none,none,none] _;refine⟨_,rfl,_,rfl,_,rfl,oM (by omega),_,_,rfl,rfl,?_,by show 8<=sizeLine;decide,λo2 ho2=>?_⟩
  ·have:=jV (n:=n) (by omega)
   have h3:=@cP 1000 (by omega);show 2+(nS n).length<=_;omega
  have s3:=Same.put ho2 (o:=.lst ((("0<" ++ nS n)::uL).map V.str));refine⟨o1,o2,_,_,rfl,rfl,s3 _ _ ak,ak,by show 20<=sizeLine;decide,λo3 Sl=>?_⟩;generalize Hv:upd _ o3 _=H4;have s4:Same (upd H L (.lst (ws.map V.str))) H4:=by rw[<- Hv];exact s2.trans (s3.trans (Same.put Sl))
  have ox:H4 L=some (.lst (ws.map V.str)):=s4 _ _ ak;have Sn:H4 o3=some (.lst ((uM n).map V.str)):=by rw[<- Hv,ak];rfl
  have q_:Same H H4:=s1.trans s4;dsimp only[aW];show bD _ _ _ [some (.ref L),some (.ref d),some (.int (n:Int)),some (.ref o3),none,none,none,none,none] _;refine⟨_,rfl,d,_,1,_,rfl,rfl,q_.seq hd,bp (dk (i:=1) (by omega)),_,_,rfl,rfl,(by show(0:Int)<64/\(64:Int)<1073741824;decide),_,rfl,L,_,rfl,.inl (ai.of ox),_,_,rfl,rfl,_,_,rfl,rfl,by show(0:Int)<((ws.map V.str).length:Int)+1;omega,?_⟩;dsimp only[aW];rw[aB,ek];show bD _ _ _ [some (.ref L),some (.ref d),some (.int (n:Int)),some (.ref o3),some (.int (k:Int)),none,none,none,none] _;refine⟨_,rfl,_,rfl,d,_,2,_,rfl,rfl,q_.seq hd,bp (dk (i:=2) (by omega)),_,_,rfl,rfl,(by show(0:Int)<20;decide),o3,_,_,.str ((uM n).getD r ""),rfl,rfl,ai.of Sn,by rw[yw];exact bp (vQ Ig),?_⟩;have hx:=(Vk n24).get (i:=r) Ig;generalize (uM n).getD r "" = x at hx ⊢;dsimp only[aW];show bD _ _ _ [some (.ref L),some (.ref d),some (.int (n:Int)),some (.ref o3),some (.int (k:Int)),some (.str x),none,none,none] _;have c0:iq H L d o3 n k x (ws.length+1) [some (.ref L),some (.ref d),some (.int (n:Int)),some (.ref o3),some (.int (k:Int)),some (.str x),none,none,none] H4:=⟨_,_,_,ws,rfl,q_,ox,hW,by omega⟩;refine jv (iq H L d o3 n k x (ws.length+1)) (λD' hD' next=>?_) ?_
  ·refine⟨_,rfl,d,_,0,_,rfl,rfl,q_.seq hd,bp (dk (i:=0) (by omega)),_,_,rfl,rfl,(by show(0:Int)<6;decide),rfl,_,rfl,bB (λh=>?_) (λh=>next _ _ c0)⟩
   refine⟨_,rfl,.inl ⟨rfl,_,ai.of ox⟩,_,rfl,_,rfl,L,_,k,_,rfl,rfl,ox,by rw[aB];omega,by rw[aB];exact cP (by omega),next _ _ ⟨_,_,_,ws.take k++x::ws.drop k,rfl,sk q_,?_,hW.ins hx,?_⟩⟩
   ·rw[ak,gW,cI,nA,pO]
   ·rw[dD,dr,gU,nz];omega
  rintro σ1 H5 ⟨v6,v7,v8,cx,rfl,t5,cQ,d7,bM⟩;show bD _ _ _ [some (.ref L),some (.ref d),some (.int (n:Int)),some (.ref o3),some (.int (k:Int)),some (.str x),v6,v7,v8] _;have c1:iq H L d o3 n k x (ws.length+1) [some (.ref L),some (.ref d),some (.int (n:Int)),some (.ref o3),some (.int (k:Int)),some (.str x),v6,v7,v8] H5:=⟨_,_,_,cx,rfl,t5,cQ,d7,bM⟩;refine jv (iq H L d o3 n k x (ws.length+1)) (λD' hD' next=>?_) ?_
  ·refine⟨_,rfl,d,_,0,_,rfl,rfl,t5.seq hd,bp (dk (i:=0) (by omega)),_,_,rfl,rfl,(by show(0:Int)<6;decide),rfl,_,rfl,bB (λh=>?_) (λh=>aI (next _ _ c1))⟩
   refine⟨_,rfl,_,rfl,L,_,rfl,.inl (ai.of cQ),_,_,rfl,rfl,_,rfl,bB (λh2=>?_) (λh2=>next _ _ c1)⟩;have h2':k<cx.length:=by rw[aB]at h2;have:=oN h2;omega
   refine⟨_,rfl,_,rfl,_,rfl,L,_,_,k,rfl,rfl,cQ,mF (by rw[aB];exact h2'),next _ _ ⟨_,_,_,cx.set k x,rfl,sk t5,by rw[ak,pP],d7.set hx,by rw[lN];exact bM⟩⟩
  clear c0 c1 cQ t5 d7 bM H5;rintro σ1 H5 ⟨v6,v7,v8,cx,rfl,t5,cQ,d7,bM⟩;show bD _ _ _ [some (.ref L),some (.ref d),some (.int (n:Int)),some (.ref o3),some (.int (k:Int)),some (.str x),v6,v7,v8] _;have c1:iq H L d o3 n k x (ws.length+1) [some (.ref L),some (.ref d),some (.int (n:Int)),some (.ref o3),some (.int (k:Int)),some (.str x),v6,v7,v8] H5:=⟨_,_,_,cx,rfl,t5,cQ,d7,bM⟩;refine jv (iq H L d o3 n k x (ws.length+1)) (λD' hD' next=>?_) ?_
  ·refine⟨_,rfl,d,_,0,_,rfl,rfl,t5.seq hd,bp (dk (i:=0) (by omega)),_,_,rfl,rfl,(by show(0:Int)<6;decide),rfl,_,rfl,bB (λh=>?_) (λh=>aI (next _ _ c1))⟩
   refine⟨_,rfl,_,rfl,L,_,rfl,.inl (ai.of cQ),_,_,rfl,rfl,_,rfl,bB (λh2=>?_) (λh2=>next _ _ c1)⟩;have h2':k<cx.length:=by rw[aB]at h2;have:=oN h2;omega
   have hix:=zZ (mF (show k<(cx.map V.str).length by rw[aB];exact h2'));refine⟨_,rfl,.inl ⟨rfl,_,ai.of cQ⟩,_,rfl,L,_,_,k,_,rfl,rfl,cQ,by omega,by omega,hix.1,vQ h2',next _ _ ⟨_,_,_,cx.eraseIdx k,rfl,sk t5,by rw[ak,G_],d7.erase,?_⟩⟩;have:=List.length_eraseIdx_le cx k;omega
  clear c1 cQ t5 d7 bM H5;rintro σ1 H5 ⟨v6,v7,v8,cx,rfl,t5,cQ,d7,bM⟩;show bD _ _ _ [some (.ref L),some (.ref d),some (.int (n:Int)),some (.ref o3),some (.int (k:Int)),some (.str x),v6,v7,v8] _;have c1:iq H L d o3 n k x (ws.length+1) [some (.ref L),some (.ref d),some (.int (n:Int)),some (.ref o3),some (.int (k:Int)),some (.str x),v6,v7,v8] H5:=⟨_,_,_,cx,rfl,t5,cQ,d7,bM⟩;refine jv (iq H L d o3 n k x (ws.length+1)) (λD' hD' next=>?_) ?_
  ·refine⟨_,rfl,d,_,0,_,rfl,rfl,t5.seq hd,bp (dk (i:=0) (by omega)),_,_,rfl,rfl,(by show(0:Int)<6;decide),rfl,_,rfl,bB (λh=>?_) (λh=>aI (next _ _ c1))⟩
   refine⟨_,rfl,by show 0<=sizeLine;decide,λz hz=>?_⟩;have s6:=t5.trans (Same.put hz (o:=.lst []));have qv:=Same.put hz (o:=.lst []) _ _ cQ;generalize RQ:upd H5 z _=H6 at s6 qv;have ua:H6 z=some (.lst []):=by rw[<- RQ];exact ak
   have c2:iq H L d o3 n k x (ws.length+1) [some (.ref L),some (.ref d),some (.int (n:Int)),some (.ref o3),some (.int (k:Int)),some (.str x),v6,v7,v8] H6:=⟨_,_,_,cx,rfl,s6,qv,d7,bM⟩
   by_cases h0:cx = []
   ·refine .inl ⟨L,z,_,_,λ_=>true,rfl,rfl,ai.of qv,ai.of ua,⟨by rw[h0];rfl,λj x y hx hy=>by simp at hy⟩,?_⟩
    ·rw[h0]
     exact⟨_,rfl,aI (next _ _ c2)⟩
   refine .inr ⟨L,z,_,_,rfl,rfl,ai.of qv,ai.of ua,?_,_,rfl,a_ ?_⟩
   ·rw[aB];exact λe=>h0 (Ou.mp e)
   refine⟨_,rfl,_,_,rfl,rfl,_,rfl,?_,?_⟩
   ·exact oM (n:=n+1) (by omega)
   rw[show(n:Int)+1=((n+1:Nat):Int)by push_cast;rfl];dsimp only[aW];show bD _ _ _ [some (.ref L),some (.ref d),some (.int (n:Int)),some (.ref o3),some (.int (k:Int)),some (.str x),some (.str (nS (n+1))),v7,v8] _;have G6:(n:Int) - 1=((n - 1:Nat):Int):=by omega
   refine⟨_,rfl,_,_,rfl,rfl,_,rfl,?_,?_⟩
   ·rw[G6];exact oM (n:=n - 1) (by omega)
   rw[G6];dsimp only[aW];show bD _ _ _ [some (.ref L),some (.ref d),some (.int (n:Int)),some (.ref o3),some (.int (k:Int)),some (.str x),some (.str (nS (n+1))),some (.str (nS (n - 1))),v8] _;refine⟨_,rfl,_,rfl,_,_,rfl,rfl,⟨by decide,λ_ _=>by decide,λ_ _=>by decide +kernel⟩,_,rfl,_,_,rfl,rfl,?_,by show 14<=sizeLine;decide,λc hc=>?_⟩
   ·have:=jV (n:=n - 1) (by omega)
    have h3:=@cP 1000 (by omega);show 1+(nS (n - 1)).length<=_;omega
   have s7:=s6.trans (Same.put hc (o:=.lst ((jQ n).map V.str)));have Hx:=Same.put hc (o:=.lst ((jQ n).map V.str)) _ _ qv;have hc7:(upd H6 c (.lst ((jQ n).map V.str))) c=some (.lst ((jQ n).map V.str)):=ak;dsimp only[aW];show pz _ _ _ [some (.ref L),some (.ref d),some (.int (n:Int)),some (.ref o3),some (.int (k:Int)),some (.str x),some (.str (nS (n+1))),some (.str (nS (n - 1))),some (.ref c)] (upd H6 c (.lst ((jQ n).map V.str)));generalize upd H6 c (.lst ((jQ n).map V.str))=H7 at s7 Hx hc7 ⊢;refine⟨_,rfl,_,rfl,d,_,2,_,rfl,rfl,s7.seq hd,bp (dk (i:=2) (by omega)),_,_,rfl,rfl,(by show(0:Int)<20/\(20:Int)<1073741824;decide),_,_,rfl,rfl,(by show(0:Int)<14;decide),c,_,_,.str ((jQ n).getD r14 ""),rfl,rfl,ai.of hc7,by rw[qm];exact bp (vQ Ie),?_⟩;have hy:=(P' n24).get (i:=r14) Ie;generalize (jQ n).getD r14 "" = y at hy ⊢;refine⟨_,rfl,L,_,_,0,rfl,rfl,Hx,mF (n:=(cx.map V.str).length) (j:=0) (by rw[aB];exact List.length_pos_iff.mpr h0),next _ _ ⟨_,_,_,cx.set 0 y,rfl,sk s7,by rw[ak,pP],d7.set hy,by rw[lN];exact bM⟩⟩
  clear c1 cQ t5 d7 bM H5;rintro σ1 H5 ⟨v6,v7,v8,cx,rfl,t5,cQ,d7,bM⟩;show bD _ _ _ [some (.ref L),some (.ref d),some (.int (n:Int)),some (.ref o3),some (.int (k:Int)),some (.str x),v6,v7,v8] _;have c1:iq H L d o3 n k x (ws.length+1) [some (.ref L),some (.ref d),some (.int (n:Int)),some (.ref o3),some (.int (k:Int)),some (.str x),v6,v7,v8] H5:=⟨_,_,_,cx,rfl,t5,cQ,d7,bM⟩;refine jv (iq H L d o3 n k x (ws.length+1)) (λD' hD' next=>?_) ?_
  ·refine⟨_,rfl,d,_,0,_,rfl,rfl,t5.seq hd,bp (dk (i:=0) (by omega)),_,_,rfl,rfl,(by show(0:Int)<6;decide),rfl,_,rfl,bB (λh=>?_) (λh=>aI (next _ _ c1))⟩
   refine⟨_,rfl,_,rfl,L,_,rfl,.inl (ai.of cQ),_,_,rfl,rfl,_,rfl,bB (λh2=>?_) (λh2=>next _ _ c1)⟩;have h2':k<cx.length:=by rw[aB]at h2;have:=oN h2;omega
   have hy:=d7.get h2';refine⟨rfl,_,rfl,_,rfl,L,_,_,_,rfl,rfl,ai.of cQ,bp (vQ h2'),rfl,cx.getD k "","<", rfl,rfl,by decide,by omega,λp hp=>?_⟩;have s6:=Same.put hp (o:=.lst ((Txt.split (cx.getD k "") "<").map V.str));refine⟨_,rfl,_,rfl,rfl,p,_,rfl,ai.of ak,λq hq=>?_⟩;have s7:=s6.trans (Same.put hq (o:=.lst ((Txt.split (cx.getD k "") "<").map V.str).reverse));have ht:=NR (cx.getD k "");refine⟨"<", q,(Txt.split (cx.getD k "") "<").reverse,rfl,rfl,ai.of (by rw[ak,List.map_reverse]),by rw[ht];exact X8 (by omega),?_⟩;show Hr _ _ _ (.str (rD (cx.getD k ""))) _ _ _;refine⟨_,rfl,_,rfl,L,_,_,k,rfl,rfl,s7 _ _ cQ,mF (by rw[aB];exact h2'),next _ _ ⟨_,_,_,cx.set k (rD (cx.getD k "")),rfl,sk (t5.trans s7),by rw[ak,pP],d7.set (Zc hy),by rw[lN];exact bM⟩⟩
  clear c1 cQ t5 d7 bM H5;rintro σ1 H5 ⟨v6,v7,v8,cx,rfl,t5,cQ,d7,bM⟩;exact⟨_,rfl,kk L cx H5 t5 cQ d7 bM⟩
end
theorem sum_set{v:Nat}:∀{l:List Nat} {i:Nat},i<l.length->(l.set i v).sum+l.getD i 0=l.sum+v
 | [],_,h=>absurd h (Nat.not_lt_zero _)
 |x::r,0,_=>by simp[jb];omega
 |x::r,i+1,h=>by
  have:=sum_set (v:=v) (l:=r) (i:=i) (by simpa using h);simp only[List.set_cons_succ,jb,List.getD_cons_succ];omega
theorem Nq{B:Nat}:∀{l:List Nat},(∀x∈l,x<=B)->l.sum<=l.length*B
 | [],_=>by simp
 |x::r,h=>by
  have h1:=h x cK;have:=Nq (l:=r) λy hy=>h y (bT _ hy);rw[jb,dr,Ez];omega
theorem mw{l:List Nat}{i j v:Nat}(hi:i<l.length):(l.set i v).getD j 0=if i=j then v else l.getD j 0:=by
 rw[aZ,List.getElem?_set,aZ]
 by_cases e:i=j
 ·rw[az e,az e,az (e▸hi)];rfl
 ·rw[au e,au e]
structure Cn (n:Nat) (ps:List (Nat × Nat)) (k:Nat) (us:List Nat):Prop where
 len:us.length=n
 lt:∀a,a<n->us.getD a 0<2 ^ n
 refl:∀a,a<n->(us.getD a 0).testBit a=true
 has:∀p∈ps.take k,(us.getD p.1 0).testBit p.2=true
 snd:∀T:Nat->Nat->Bool,(∀a,a<n->T a a=true)->(∀p∈ps,T p.1 p.2=true)->(∀a b c,a<n->b<n->c<n->T a b=true->T b c=true->T a c=true)->∀a b,a<n->b<n->(us.getD a 0).testBit b=true->T a b=true
theorem Cn.start(n:Nat)(ps:List (Nat × Nat)):Cn n ps 0 ((List.range n).map λi=>2 ^ i):=by
 have g:∀a,a<n->((List.range n).map λi=>2 ^ i).getD a 0=2 ^ a:=λa ha=>by
  rw[aZ,dR,pM ha];rfl
 refine⟨by simp,λa ha=>?_,λa ha=>?_,λp hp=>?_,λT t1 t2 t3 a b ha hb h=>?_⟩
 ·rw[g a ha];exact Nat.pow_lt_pow_right (by decide) ha
 ·rw[g a ha,OD]
 ·rw[List.take_zero]at hp;cases hp
 ·rw[g a ha,E_]at h
  have:a=b:=by simpa using h
  rw[<- this];exact t1 a ha
theorem Cn.pair{n:Nat}{ps:List (Nat × Nat)}{k:Nat}{us:List Nat}{p:Nat × Nat}(c:Cn n ps k us)(hp:ps[k]?=some p)(h1:p.1<n)(h2:p.2<n):Cn n ps (k+1) (us.set p.1 (us.getD p.1 0 ||| 2 ^ p.2)):=by
 have hl:p.1<us.length:=by rw[c.len];exact h1
 have hk:k<ps.length:=(cG.mp hp).1;have hpk:ps[k]=p:=(cG.mp hp).2;have mono:∀a b,(us.getD a 0).testBit b=true->((us.set p.1 (us.getD p.1 0 ||| 2 ^ p.2)).getD a 0).testBit b=true:=λa b h=>by
  rw[mw hl]
  split
  ·rename_i e;rw[lO,e,h];rfl
  ·exact h
 refine⟨by rw[lN];exact c.len,λa ha=>?_,λa ha=>mono _ _ (c.refl a ha),λq hq=>?_,λT t1 t2 t3 a b ha hb h=>?_⟩
 ·rw[mw hl]
  split
  ·exact Nat.or_lt_two_pow (c.lt _ h1) (Nat.pow_lt_pow_right (by decide) h2)
  ·exact c.lt a ha
 ·rw[wF hk,hpk]at hq
  rcases fe.mp hq with hq|hq
  ·exact mono _ _ (c.has q hq)
  ·rw[bW.mp hq,mw hl,az rfl,lO,OD,wm]
 ·rw[mw hl]at h
  by_cases e:p.1=a
  ·rw[az e,lO,rH,E_]at h
   rcases h with h|h
   ·exact c.snd T t1 t2 t3 a b ha hb (e▸h)
   ·have:p.2=b:=by simpa using h
    rw[<- e,<- this];exact t2 p (eh hp)
  ·rw[au e]at h
   exact c.snd T t1 t2 t3 a b ha hb h
noncomputable def mY(us:List Nat)(a b:Nat):List Nat:=if(us.getD a 0).testBit b=true then us.set a (us.getD a 0 ||| us.getD b 0)else us
theorem Cn.step{n:Nat}{ps:List (Nat × Nat)}{k:Nat}{us:List Nat}(c:Cn n ps k us){x y:Nat}(hx:x<n)(hy:y<n):Cn n ps k (mY us x y):=by
 unfold mY
 by_cases hb:(us.getD x 0).testBit y=true
 ·rw[az hb]
  have hl:x<us.length:=by rw[c.len];exact hx
  have mono:∀a b,(us.getD a 0).testBit b=true->((us.set x (us.getD x 0 ||| us.getD y 0)).getD a 0).testBit b=true:=λa b h=>by
   rw[mw hl]
   split
   ·rename_i e;rw[lO,e,h];rfl
   ·exact h
  refine⟨by rw[lN];exact c.len,λa ha=>?_,λa ha=>mono _ _ (c.refl a ha),λq hq=>mono _ _ (c.has q hq),λT t1 t2 t3 a b ha hb' h=>?_⟩
  ·rw[mw hl]
   split
   ·exact Nat.or_lt_two_pow (c.lt _ hx) (c.lt _ hy)
   ·exact c.lt a ha
  ·rw[mw hl]at h
   by_cases e:x=a
   ·subst e
    rw[az rfl,lO,rH]at h
    rcases h with h|h
    ·exact c.snd T t1 t2 t3 x b ha hb' h
    ·exact t3 x y b ha hy hb' (c.snd T t1 t2 t3 x y ha hy hb) (c.snd T t1 t2 t3 y b hy hb' h)
   ·rw[au e]at h
    exact c.snd T t1 t2 t3 a b ha hb' h
 ·rw[au hb];exact c
structure Tn (n:Nat) (os:List Nat) (i j:Nat) (us:List Nat):Prop where
 sum:os.sum<=us.sum
 eq:us.sum=os.sum->us=os
 cl:us=os->∀a b,b<n->(a<i\/a=i/\b<j)->(os.getD a 0).testBit b=true->os.getD a 0 ||| os.getD b 0=os.getD a 0
theorem Tn.start(n:Nat)(os:List Nat):Tn n os 0 0 os:=⟨aO _,λ_=>rfl,λ_ a b _ h=>by omega⟩
theorem Tn.row{n:Nat}{os us:List Nat}{i:Nat}(t:Tn n os i n us):Tn n os (i+1) 0 us:=⟨t.sum,t.eq,λe a b hb h=>t.cl e a b hb (by omega)⟩
theorem Tn.step{n:Nat}{os us:List Nat}{i j:Nat}(t:Tn n os i j us)(hl:us.length=n)(hi:i<n):Tn n os i (j+1) (mY us i j):=by
 have hl':i<us.length:=by omega
 have hge:us.getD i 0<=us.getD i 0 ||| us.getD j 0:=Nat.left_le_or
 unfold mY
 by_cases hb:(us.getD i 0).testBit j=true
 ·rw[az hb]
  have hs:=sum_set (v:=us.getD i 0 ||| us.getD j 0) hl';have key:(us.set i (us.getD i 0 ||| us.getD j 0)).sum=os.sum->us=os/\us.getD i 0 ||| us.getD j 0=us.getD i 0:=λh=>by
   have:=t.sum;exact⟨t.eq (by omega),by omega⟩
  have same:us.getD i 0 ||| us.getD j 0=us.getD i 0->us.set i (us.getD i 0 ||| us.getD j 0)=us:=λh=>by
   rw[h,aZ,aK hl'];exact List.set_getElem_self hl'
  refine⟨by have:=t.sum;omega,λh=>?_,λe a b hb' h h'=>?_⟩
  ·obtain⟨e1,e2⟩:=key h
   rw[same e2];exact e1
  ·obtain⟨e1,e2⟩:=key (by rw[e])
   rcases Nat.lt_or_ge a i with ha|ha
   ·exact t.cl e1 a b hb' (.inl ha) h'
   ·have ha:a=i:=by omega
    subst ha
    by_cases zK:b=j
    ·subst zK;rw[<- e1];exact e2
    ·exact t.cl e1 a b hb' (.inr ⟨rfl,by omega⟩) h'
 ·rw[au hb]
  refine⟨t.sum,t.eq,λe a b hb' h h'=>?_⟩
  by_cases zK:a=i/\b=j
  ·obtain⟨rfl,rfl⟩:=zK
   rw[e]at hb;exact absurd h' hb
  ·exact t.cl e a b hb' (by omega) h'
theorem Cn.done{n:Nat}{ps:List (Nat × Nat)}{us:List Nat}(c:Cn n ps ps.length us)(t:Tn n us n 0 us):cL n (λa b=>(us.getD a 0).testBit b) us/\Ev.gR n ps (λa b=>(us.getD a 0).testBit b):=by
 refine⟨⟨c.len,λ_ _ _ _=>rfl,c.lt⟩,⟨c.refl,λp hp=>c.has p (by rw[pR];exact hp),λa b d ha hb hd h1 h2=>?_,λT t1 t2 t3 a b ha hb h=>c.snd T t1 t2 t3 a b ha hb h⟩⟩;have:=t.cl rfl a b hb (.inl ha) h1;rw[<- this,lO,h2,wm]
theorem Hs:∀{l:List Nat} {i:Nat},l.getD i 0<=l.sum
 | [],_=>eK _
 |x::r,0=>by rw[jb];show x<=_;omega
 |x::r,i+1=>by
  have:=Hs (l:=r) (i:=i);rw[jb,List.getD_cons_succ];omega
theorem Cn.pos{n:Nat}{ps:List (Nat × Nat)}{k:Nat}{us:List Nat}(c:Cn n ps k us)(h:1<=n):0<us.sum:=by
 have h1:=c.refl 0 h;have h2:=Hs (l:=us) (i:=0)
 rcases Nat.eq_zero_or_pos (us.getD 0 0)with e|e
 ·rw[e]at h1;simp at h1
 ·omega
theorem Cn.top{n:Nat}{ps:List (Nat × Nat)}{k:Nat}{us:List Nat}(c:Cn n ps k us):us.sum<=n*2 ^ n:=by
 have:=Nq (l:=us) (B:=2 ^ n) λx hx=>by
  obtain⟨i,hi,e⟩:=lM hx;have:=c.lt i (by rw[<- c.len];exact hi);rw[aZ,aK hi]at this;rw[<- e];exact dS this
 rwa [c.len]at this
theorem U0{K:W.Frag}{H:Hp}{a b:Addr}{c d:List Nat}{Q:VK}(h1:ai K H a (c.map nV))(h2:ai K H b (d.map nV))(q:Q (.bl (!decide (c=d))) H):KZ K 0 (.ref a) (.ref b) H Q:=by
 by_cases hl:c.length=d.length
 ·refine .inl ⟨a,b,_,_,λj=>decide (c.getD j 0=d.getD j 0),rfl,rfl,h1,h2,⟨by rw[aB,aB];exact hl,λj x y hx hy=>?_⟩,?_⟩
  ·have h1:j<c.length:=by have:=(cG.mp hx).1;rwa [aB]at this
   rw[gH h1]at hx;rw[gH (by omega)]at hy;cases hx;cases hy;have:=dQ.int (K:=K) (H:=H) 0 ((c.getD j 0:Nat):Int) ((d.getD j 0:Nat):Int);have e:(((c.getD j 0:Nat):Int)==((d.getD j 0:Nat):Int))=decide (c.getD j 0=d.getD j 0):=by
    rw[gQ,gZ,kH];omega
   rw[e]at this;exact this
  ·have ea:(List.range c.length).all (λj=>decide (c.getD j 0=d.getD j 0))=decide (c=d):=by
    rw[gQ,jF,kH]
    constructor
    ·intro h
     refine ki hl λi h1 h2=>?_;have:=oN (h i (Es.mpr h1));rw[aZ,aZ,aK h1,aK h2]at this;exact this
    ·intro h i _
     rw[h];exact bK rfl
   rw[aB,ea];simpa using q
 ·refine .inr ⟨a,b,_,_,rfl,rfl,h1,h2,by rw[aB,aB];exact hl,?_⟩
  rw[bE (λe=>hl (by rw[e]))]at q;exact q
section
variable {P:Program} {w:World} {K:W.Frag} {mg:Str->Option Value} {base:Heap} {f:Addr} {fd:FuncData}
abbrev rh:Stmt:=top 63
theorem LK:bh ["_law_count","_law_pairs_here","_law_ups_here","_law_old","_law_a","_law_b"] ["_law_count","_law_pairs_here"] (ay rh):=⟨rfl,rfl,rfl,by decide +kernel,rfl,by decide +kernel,by decide +kernel⟩
noncomputable def Cd(K:W.Frag):Sp:=λvs H Q _=>∃(n a:Nat) (ps:List (Nat × Nat)),vs = [.int n,.ref a]/\wO K H a ps/\1<=n/\n<=24/\(∀p∈ps,p.1<n/\p.2<n)/\∀L us R H',Same H H'->H L=none->H' L=some (.lst (us.map nV))->cL n R us->Ev.gR n ps R->Q (.ref L) H'
theorem Vt (F:aT K "_law_closed" "_law_closed" rh f fd) (T:Txt mg):aN P w K mg base bf 1 f fd ["_law_count","_law_pairs_here"] (Cd K):=by
 refine F.ok LK (λvs H Q E h=>?_) (λcdv A outer s H vs Q E hr h=>?_)
 ·obtain⟨n,a,ps,rfl,_⟩:=h
  rfl
 ·obtain⟨n,a,ps,rfl,⟨vs,hv,hp⟩,n1,hn,hb,kk⟩:=h
  have nd:=LK.nd;have hu0:=hr.units;have hu1:(A.deeper (envOfC "_law_closed" (ay rh) s.heap.objs.size f cdv)).units+1<cLine:=by omega
  have en:((n:Int)).toNat=n:=bJ n;refine⟨_,(ao (uZ (i:=2) nd rfl rfl (own:=["_law_thing"]) (fr:=[]) rfl (cM (ay rh) ["_law_count","_law_pairs_here","_law_ups_here","_law_old","_law_a","_law_b"] rfl rfl (by decide +kernel)) (cS rfl T.range (ae (pv 0) ag)) (λ_ _ _ _=>⟨(aY (i:=0) (by decide +kernel:(["_law_thing"]:List Str).Nodup) rfl (Or.inl rfl)),dz,(av gw aj (pv 0))⟩))
   (ao (b_ cy rfl (dJ (K:=K) rfl (pv 1)) (mQ (K:=K) (i:=4) (j:=5) rfl rfl nd rfl rfl rfl rfl)
   (aq (ll (av qK (aH (aX (K:=K) rfl) (pv 2) (pv 4) (λ_ _=>rfl)) (av gw aj (pv 5))) (mR (pv 2) (pv 4) set_list))))
   (ao (aJ (i:=3) nd rfl (Or.inl rfl) (b9 ag))
   (ao (KH cy (aU (J6 (K:=K) 0 rfl hu1) (pv 2) (pv 3) (aP _))
   (ao (aJ (i:=3) nd rfl (Or.inl rfl) (dm (Gk (K:=K) rfl) rfl T.list qg (ae (pv 2) ag)))
   (aq (b_ cy rfl (cS rfl T.range (ae (pv 0) ag)) (aY (i:=4) nd rfl (Or.inl rfl))
   (aq (b_ cy rfl (cS rfl T.range (ae (pv 0) ag)) (aY (i:=5) nd rfl (Or.inl rfl))
   (aq (bq (aU bQ (av gq (av lb (aH (aX (K:=K) rfl) (pv 2) (pv 4) (λ_ _=>rfl)) (pv 5)) aj) aj (aP _)) (aq (ll (av qK (aH (aX (K:=K) rfl) (pv 2) (pv 4) (λ_ _=>rfl)) (aH (aX (K:=K) rfl) (pv 2) (pv 5) (λ_ _=>rfl))) (mR (pv 2) (pv 4) set_list))) bx))))))))
   (aq (aS (pv 2))))))),?_⟩
  refine⟨_,rfl,n,rfl,(bH (by omega)).1,(bH (by omega)).2,λL hL=>fF (λi=>nV (2 ^ i)) src_range hL (dM (by omega)) (λi H3 Kt hi hs hk=>?_) (λH3 hs hl=>?_)⟩
  ·refine⟨_,rfl,_,_,rfl,rfl,⟨by omega,by omega,by decide⟩,?_⟩
   have e:(1:Int)*2 ^ ((0:Int)+(i:Int)).toNat=((2 ^ i:Nat):Int):=by
    rw[fb,bJ,jE];norm_cast
   dsimp only;rw[e];exact hk _ (Same.refl _)
  rw[en]at hl;have hl:H3 L=some (.lst (((List.range n).map λi=>2 ^ i).map nV)):=by rw[hl,iy];rfl
  dsimp only[aW];have sk:∀{H4:Hp} {o:HO},Same H H4->Same H (upd H4 L o):=λs4 b o e=>by
   rw[aA (cF e hL)];exact s4 _ _ e
  refine⟨_,rfl,a,rfl,⟨_,hs.seq hv⟩,jn (K:=K) (a:=a) (xs:=vs) (λi σ H4=>∃(us:List Nat) (v4 v5:Option V),σ = [some (.int n),some (.ref a),some (.ref L),none,v4,v5]/\Same H H4/\H4 L=some (.lst (us.map nV))/\Cn n ps i us) ⟨_,none,none,rfl,hs,hl,Cn.start n ps⟩ (λi σ H4 _ ⟨_,_,_,_,s4,_⟩=>s4.seq hv) ?_ ?_⟩
  ·rintro i y σ H4 hi ⟨us,v4,v5,rfl,s4,d8,hc⟩
   obtain⟨p,hp1,t,rfl,ht⟩:=jr hp hi;obtain⟨b1,b2⟩:=hb p (eh hp1);have oB:=s4 _ _ ht;refine⟨t,_,rfl,aQ.of oB,rfl,_,_,rfl,_,_,rfl,rfl,?_⟩;dsimp only[aW];have eo:Builtin.bitOr ((us.getD p.1 0:Nat):Int) (1*2 ^ ((p.2:Nat):Int).toNat)=((us.getD p.1 0 ||| 2 ^ p.2:Nat):Int):=by
    rw[bJ,jE,show(2:Int) ^ p.2=((2 ^ p.2:Nat):Int)by norm_cast,qM]
   refine⟨_,rfl,_,rfl,L,_,_,_,rfl,rfl,ai.of d8,bp (gH (by rw[hc.len];exact b1)),_,rfl,_,_,rfl,rfl,⟨by omega,by omega,by decide⟩,_,_,rfl,rfl,?_⟩;dsimp only;rw[eo];refine⟨_,rfl,_,rfl,L,_,_,p.1,rfl,rfl,d8,mF (by rw[aB,hc.len];exact b1),?_⟩;refine⟨us.set p.1 (us.getD p.1 0 ||| 2 ^ p.2),_,_,rfl,sk s4,by rw[ak,pP],hc.pair hp1 b1 b2⟩
  ·rintro σ H4 ⟨us,v4,v5,rfl,s4,d8,hc⟩
   rw[<- cV hp]at hc;refine⟨by show 0<=sizeLine;decide,λO hO=>?_⟩;have s5:=Same.put hO (o:=.lst []);have Aj:O≠L:=λe=>by rw[e,d8]at hO;cases hO
   dsimp only[aW];refine⟨λm σ H5=>∃(us os:List Nat) (O:Addr) (v4 v5:Option V),m=n*2 ^ n+1 - os.sum/\σ = [some (.int n),some (.ref a),some (.ref L),some (.ref O),v4,v5]/\Same H H5/\H5 L=some (.lst (us.map nV))/\H5 O=some (.lst (os.map nV))/\Cn n ps ps.length us/\(us≠os->os.sum<us.sum)/\(us=os->Tn n us n 0 us),
    ⟨_,us,[],O,v4,v5,rfl,rfl,s4.trans s5,s5 _ _ d8,ak,hc,λ_=>hc.pos n1,λe=>?_⟩,?_⟩
   ·have:=hc.len
    rw[e]at this;exact absurd this (by show ¬ 0=n;omega)
   clear d8 hc s4 s5 hO Aj us v4 v5 O;rintro m σ H5 ⟨us,os,O,v4,v5,rfl,rfl,s5,bM,Sr,hc,hne,heq⟩;refine⟨_,rfl,_,rfl,U0 (ai.of bM) (ai.of Sr) ⟨_,rfl,?_⟩⟩
   by_cases e:us=os
   ·rw[bK e]
    refine aI ?_;obtain⟨hU,hC⟩:=hc.done (heq e);exact⟨_,rfl,kk L us _ _ s5 hL bM hU hC⟩
   ·rw[bE e]
    refine a_ ⟨λσ' H'=>∃(us':List Nat) (O':Addr) (v4 v5:Option V),σ' = [some (.int n),some (.ref a),some (.ref L),some (.ref O'),v4,v5]/\Same H H'/\H' L=some (.lst (us'.map nV))/\H' O'=some (.lst (us.map nV))/\Cn n ps ps.length us'/\Tn n us n 0 us',
     λσ' H' ⟨us',O',v4,v5,h1,h2,h3,h4,h5,h6⟩=>⟨n*2 ^ n+1 - us.sum,by have:=hne e;have:=hc.top;omega,us',us,O',v4,v5,rfl,h1,h2,h3,h4,h5,λz=>?_,λz=>by subst z;exact h6⟩,?_⟩
    ·have:=h6.sum
     rcases Nat.lt_or_ge us.sum us'.sum with q|q
     ·exact q
     ·exact absurd (h6.eq (by omega)) z
    refine⟨_,rfl,L,_,rfl,.inl (ai.of bM),λO' zI=>?_⟩;have s6:=Same.put zI (o:=.lst (us.map nV));have q6:(upd H5 O' (.lst (us.map nV))) O'=some (.lst (us.map nV)):=ak;have Aj:O'≠L:=λe=>by rw[e,bM]at zI;cases zI
    have kK:=s6 _ _ bM;have t6:=s5.trans s6;generalize upd H5 O' (.lst (us.map nV))=H6 at s6 q6 kK t6 ⊢;dsimp only[aW];refine⟨_,rfl,n,rfl,(bH (by omega)).1,(bH (by omega)).2,dZ (lo:=0) (n:=((n:Int)).toNat) (λi σ H7=>∃(us':List Nat) (v4 v5:Option V),σ = [some (.int n),some (.ref a),some (.ref L),some (.ref O'),v4,v5]/\Same H H7/\H7 L=some (.lst (us'.map nV))/\H7 O'=some (.lst (us.map nV))/\Cn n ps ps.length us'/\Tn n us i 0 us') ⟨us,v4,v5,rfl,t6,kK,q6,hc,Tn.start n us⟩ ?_ ?_⟩
    ·rintro i σ H7 hi ⟨us',v4,v5,rfl,s7,gn,q7,hc7,qx⟩
     have hin:i<n:=by omega
     refine⟨_,rfl,n,rfl,(bH (by omega)).1,(bH (by omega)).2,dZ (lo:=0) (n:=((n:Int)).toNat) (λj σ H8=>∃(us':List Nat) (v5:Option V),σ = [some (.int n),some (.ref a),some (.ref L),some (.ref O'),some (.int (0+(i:Int))),v5]/\Same H H8/\H8 L=some (.lst (us'.map nV))/\H8 O'=some (.lst (us.map nV))/\Cn n ps ps.length us'/\Tn n us i j us') ⟨us',v5,rfl,s7,gn,q7,hc7,qx⟩ ?_ ?_⟩
     ·clear gn q7 hc7 qx us'
      rintro j σ H8 hj ⟨us',v5,rfl,s8,iL,q8,kI,oC⟩;have hjn:j<n:=by omega
      have gi:(us'.map nV)[i]?=some (nV (us'.getD i 0)):=gH (by rw[kI.len];exact hin);have gj:(us'.map nV)[j]?=some (nV (us'.getD j 0)):=gH (by rw[kI.len];exact hjn);refine⟨_,rfl,_,rfl,L,_,_,_,rfl,rfl,ai.of iL,at0 gi,_,rfl,_,_,rfl,rfl,by omega,_,_,rfl,rfl,rfl,_,rfl,?_⟩;rw[qe];have t_:=oC.step kI.len hin;have hcs:=kI.step hin hjn;refine bB (λh=>?_) (λh=>?_)
      ·have est:mY us' i j=us'.set i (us'.getD i 0 ||| us'.getD j 0):=az h
       refine⟨_,rfl,_,rfl,L,_,_,_,rfl,rfl,ai.of iL,at0 gi,_,rfl,_,rfl,L,_,_,_,rfl,rfl,ai.of iL,at0 gj,_,_,rfl,rfl,?_⟩;dsimp only;rw[show Builtin.bitOr ((us'.getD i 0:Nat):Int) ((us'.getD j 0:Nat):Int)=((us'.getD i 0 ||| us'.getD j 0:Nat):Int)from qM _ _];refine⟨_,rfl,_,rfl,L,_,_,i,rfl,rfl,iL,Jf (by rw[aB,kI.len];exact hin),?_⟩;refine⟨mY us' i j,_,rfl,sk s8,by rw[ak,est,pP],by rw[aA Aj];exact q8,hcs,t_⟩
      ·have est:mY us' i j=us':=au h
       exact⟨us',_,rfl,s8,iL,q8,kI,est▸t_⟩
     ·rintro σ H8 ⟨bX,v5,rfl,s8,iL,q8,kI,oC⟩
      rw[en]at oC;exact⟨bX,_,_,rfl,s8,iL,q8,kI,oC.row⟩
    ·rintro σ H7 ⟨bX,v4,v5,rfl,s7,gn,q7,hc7,qx⟩
     rw[en]at qx;exact⟨bX,O',_,_,rfl,s7,gn,q7,hc7,qx⟩
end
theorem aD.kF{P:Program}{w:World}{K:W.Frag}{mg:Str->Option Value}{base h:Heap}{x:Str}{st:Stmt}{ps:List Str}{k:Nat}{sp:Sp}(A:aD K x st)(X:K.In h)(G:h.Ns mainGlobals mg)(hb:Ea x st ps)(ok:∀{f:Addr} {fd:FuncData},aT K x x st f fd->aN P w K mg base (bA P w) k f fd ps sp):fC P w K mg base x ps k sp:=by
 obtain⟨f,fd,a,F⟩:=A.ex;exact⟨f,fd,ok F,W.mg_of X G a,F.kp,F.binds hb⟩
end My
namespace L2
open PySem PySem.Spec PyProof.Rows
section
variable {prog:Program} {w:World} {A:Around} {E:Value->Shared->Prop} {h:Heap} {g:Array GenState} {d:Drawn} {t:Nat} {os:OsState}
variable {nm q:Str} {C N:Addr} {bs bm bmB:List Value} {hdct:Bool} {sn:List Str} {sub:List Value} {ab:Bool} {col:Option Bool} {dd:Option Addr} {k0 k1 k2 k3 k5:Option Value} {B newId initId:String}
theorem ZT(F:ExcBaseFacts B newId initId bmB)(T:OwnTail h bmB bm){mN:Str->Option Value}{rest:List Value}{fI:Addr}{oI:Obj}{Q:Fin->Shared->Prop}
  (hC:h.get? C=some (excClassObj nm q C N bs bm hdct sn sub ab col dd k0 k1 k2 k3 k5 newId)) (hn:h.Ns N mN) (hi:mN "__init__" = some (.ref fI)) (hfI:h.get? fI=some oI) (hfc:oI.cls = .type "function")
  (hq:∀h' e,Heap.MadeExcOf h h' e (.ref C) rest->wpAny (model prog w) A (call (.ref fI) (.ref e::rest)) (λr s'=>r = .none/\Q (.done (.ret (.ref e))) s') E ⟨h',g,d,t,os⟩) (hrest:rest.length<=sizeLine:=by size_fits) :
  wpAny (model prog w) A (Builtin.«type.__call__» ⟨.ref C::rest,[]⟩) Q E ⟨h,g,d,t,os⟩:=by
 repeat (first|with_reducible refine sF hC ?_|with_reducible refine wpAny_madeBy_exc hC ?_|wp_step)
 refine codeAny_call_builtin_code (wQ _ F.quiet) (wpAny_check_new_subT F T hC ?_);refine codeAny_exc_new_subT F T hC ?_ hrest;show wpAny _ _ _ _ _ _;generalize hob:({cls:=.type "tuple", data:=.seq rest.toArray}:Obj)=ob;generalize hoe:({cls:=.ref C,data:=.fields #[.ref h.objs.size,.none,.none,.none,.bool false,.none]}:Obj)=oe;have up:∀b o,h.get? b=some o->((h.push ob).push oe).get? b=some o:=λb o z=>aM _ (aM _ z);have hC₁:=up _ _ hC;have hfI₁:=up _ _ hfI;have hn₁:((h.push ob).push oe).Ns N mN:=let⟨o,es,ep,z,r⟩:=hn;⟨o,es,ep,up _ _ z,r⟩
 have hget:((h.push ob).push oe).get? (h.objs.size+1)=some oe:=Fo (by simp only[eM]) (by rw[<- hoe];rfl);have hgt:((h.push ob).push oe).get? h.objs.size=some ob:=aM _ (Fo rfl (by rw[<- hob];rfl));have hcC:(Value.ref C::bm).contains (.ref C)=true:=by simp
 have T₁:=T.keeps up;have hcl:oe.cls = .ref C:=by rw[<- hoe]
 unfold isInstance
 repeat (first | (with_reducible refine sF hget ?_;rw[hcl]) | (with_reducible refine wpAny_isSubtype_exc hC₁ ?_;rw[hcC])|wp_step)
 show wpAny _ _ (typeLookup (.ref C) _) _ _ _;refine wpAny_typeLookup_tail hC₁ hn₁ T₁ F.mroIs F.init.lookup ?_;rw[hi];refine fV (ah ?_);unfold bindSpecial;refine ah (wpAny_typeOf (T:= "function") ⟨_,hfI₁,hfc⟩ ?_);rw[az (by decide)];refine aC (ah (dX (hq _ (h.objs.size+1) ⟨up,su (nE _),h.objs.size,hget.trans (by rw[hoe]),su (aO _),hgt.trans (by rw[hob])⟩) (λr s' hr=>?_) λ_ _ x=>x));obtain⟨rfl,hQ⟩:=hr
 wp_walk
 exact hQ
theorem ZQ(F:ExcBaseFacts B newId initId bmB)(T:OwnTail h bmB bm){mN:Str->Option Value}{rest:List Value}{fI:Addr}{oI:Obj}{Q:Value->Shared->Prop}
  (hC:h.get? C=some (excClassObj nm q C N bs bm hdct sn sub ab col dd k0 k1 k2 k3 k5 newId)) (hn:h.Ns N mN) (hi:mN "__init__" = some (.ref fI)) (hfI:h.get? fI=some oI) (hfc:oI.cls = .type "function")
  (hq:∀h' e,Heap.MadeExcOf h h' e (.ref C) rest->wpAny (model prog w) (A.under (.builtin "type.__call__" ⟨.ref C::rest,[]⟩)) (call (.ref fI) (.ref e::rest)) (λr s'=>r = .none/\Q (.ref e) s') E ⟨h',g,d,t,os⟩) (hrest:rest.length<=sizeLine:=by size_fits) :
  wpAny (model prog w) A (call (.ref C) rest) Q E ⟨h,g,d,t,os⟩:=by
 have f1:=tc_lookup;have f2:=tc_bind (.ref C);have hT:(⟨h,g,d,t,os⟩:Shared).TypeIs (.ref C) "type" :=⟨_,hC,rfl⟩;refine ku (Fu ?_);show wpAny _ _ (callAny (.ref C) _) _ _ _
 repeat (any_goals (first|assumption|with_reducible refine sF hC ?_|wp_step))
 refine⟨rfl,codeAny_call_builtin_at (wQ _ (by decide +kernel)) entry_typeCall (wpAny_check_type_call_sub hC (ZT (hrest:=hrest) F T hC hn hi hfI hfc λh' e hm=>?_))⟩;exact hq h' e hm
end
section
variable {M:Model} {A:Around} {E:Value->Shared->Prop} {env:Env}
variable {nm q:Str} {C N:Addr} {bs bm:List Value} {hdct:Bool} {sn:List Str} {sub:List Value} {ab:Bool} {col:Option Bool} {dd:Option Addr} {k0 k1 k2 k3 k5:Option Value} {newId:String}
theorem ZS {s:Shared} {x:Sem Value} {Q:Flow->Shared->Prop} (hbase:bm.contains (.type "BaseException")=true) (hh:A.handled=none)
  (h:wpAny M A x (λv s₁=>∃e de sl vs,v = .ref e/\s₁.heap.get? C=some (excClassObj nm q C N bs bm hdct sn sub ab col dd k0 k1 k2 k3 k5 newId) /\
   s₁.heap.get? e=some {cls:=.ref C,dict:=de,data:=.fields vs,slots:=sl}/\vs[1]?=some .none/\E (.ref e) s₁) E s) :
  wpAny M A (raiseStmt env (some x) none) Q E s:=by
 have hcB:(Value.ref C::bm).contains (.type "BaseException")=true:=by rw[List.contains_cons,hbase,wm]
 unfold raiseStmt;refine ah (dX h (λv s₁ h₁=>?_) λ_ _ x=>x);obtain⟨e,de,sl,vs,rfl,hC,he,h1,hE⟩:=h₁;obtain⟨hp,g,d,tk,os⟩:=s₁
 repeat (first|with_reducible refine dW he rfl h1 ?_|with_reducible refine sF he ?_|with_reducible refine sF hC ?_ | (with_reducible refine wpAny_isSubtype_exc hC ?_;rw[hcB])|wp_step)
 exact wpAny_raiseNew_none hh hE
end
section
variable {prog:Program} {w:World} {A:Around} {E:Value->Shared->Prop} {h:Heap} {g:Array GenState} {d:Drawn} {t:Nat} {os:OsState}
variable {nm q:Str} {C N:Addr} {bs bm bmB:List Value} {hdct:Bool} {sn:List Str} {sub:List Value} {ab:Bool} {col:Option Bool} {dd:Option Addr} {k0 k1 k2 k3 k5:Option Value} {B newId initId:String}
theorem ZR(F:ExcBaseFacts B newId initId bmB)(T:OwnTail h bmB bm){e:Addr}{de:Option Addr}{sl:Array (Option Value)}{vs:Array Value}{v:Value}{Q:Value->Shared->Prop}(hC:h.get? C=some (excClassObj nm q C N bs bm hdct sn sub ab col dd k0 k1 k2 k3 k5 newId))(he:h.get? e=some {cls:=.ref C,dict:=de,data:=.fields vs,slots:=sl}){t0:Addr}(h0:vs[0]?=some (.ref t0))
  (hq:∀h' tu,(∀b o,b≠e->h.get? b=some o->h'.get? b=some o)->h'.get? e=some {cls:=.ref C,dict:=de,data:=.fields (vs.setIfInBounds 0 (.ref tu)),slots:=sl}->Q .none ⟨h',g,d,t,os⟩) :
  wpAny (model prog w) A (call (.builtin initId) [.ref e,v]) Q E ⟨h,g,d,t,os⟩:=by
 refine ku (w8 F.init.plain F.initEntry (wpAny_check_init_subT F T hC he rfl ?_));have hsz:0<vs.size:=(nj.mp h0).1
 wp_walk
 rw[h0]
 wp_walk
 have R9:=aM {cls:=.type "tuple", data:=.seq #[v]} he;refine hq _ h.objs.size (λb o hb z=>?_) ?_
 ·rw[jf _ _ (cE hb)]
  exact aM _ z
 ·exact iB (Obj.mapFields (·.setIfInBounds 0 (.ref h.objs.size))) R9 rfl
end
end L2
namespace L2
open PySem PySem.Spec PyProof.Rows PySem.W
open Builtin Builtin.ObjectAttr
section
variable {prog:Program} {w:World} {A:Around} {E:Value->Shared->Prop} {h:Heap} {g:Array GenState} {d:Drawn} {t:Nat} {os:OsState} {K:Frag} {e C D:Addr} {cd:ClassData} {sl:Array (Option Value)} {vs:Array Value} {name:Str} {v:Value}
theorem ZV{Q:Option Addr->Shared->Prop}(X:K.In h)(hcd:clsIn K C=some cd)(hhd:cd.hasDict=true)(he:h.get? e=some {cls:=.ref C,dict:=none,data:=.fields vs,slots:=sl})
  (hq:Q (some h.objs.size) ⟨(h.push {cls:=.type "dict", data:=.dict #[]}).update e λo=>{o with dict:=some h.objs.size},g,d,t,os⟩):wpAny (model prog w) A (instanceDict e true) Q E ⟨h,g,d,t,os⟩:=by
 have LC:=looks_clsIn (M:=model prog w) X hcd;have he₁:(h.push {cls:=.type "dict", data:=.dict #[]}).get? e=some {cls:=.ref C,dict:=none,data:=.fields vs,slots:=sl}:=aM _ he;unfold instanceDict;refine ah (wpAny_loadPart he ?_);dsimp only;refine ah (LC.at ?_);rw[hhd];refine ah (wpAny_alloc' ?_);refine ah (wpAny_update' he₁ ?_);exact aC hq
theorem ZW {Q:Unit->Shared->Prop} (X:K.In h) (hcd:clsIn K C=some cd) (hmro:cd.mro = .ref C::.ref D::jz) (hhd:cd.hasDict=true) (hsa:findIn K (.ref C) "__setattr__" = some (some (.builtin "object.__setattr__")))
  (ht:findIn K (.ref C) name=some none) (hob:mroIn K C (.type "object")=some true) (he:h.get? e=some {cls:=.ref C,dict:=none,data:=.fields vs,slots:=sl})
  (hq:∀h' dx tk',(∀b o,b≠e->h.get? b=some o->h'.get? b=some o)->h'.get? e=some {cls:=.ref C,dict:=some dx,data:=.fields vs,slots:=sl}->h.objs.size<=dx->h'.Ns1 dx (λy=>if y=name then some v else none)->Q () ⟨h',g,d,tk',os⟩) :
  wpAny (model prog w) A (setAttr (.ref e) name v) Q E ⟨h,g,d,t,os⟩:=by
 have SF:=PySem.F.store_object;have I:InstAt h e {cls:=.ref C,dict:=none,data:=.fields vs,slots:=sl} C none:=⟨he,rfl,rfl,trivial⟩;have L0:=I.type (M:=model prog w);have L1:=looks_findIn (M:=model prog w) X hsa;have L2:=looks_findIn (M:=model prog w) X ht;have LS:Looks (model prog w) h (isInstance (.ref e) (.type "object")) true:=I.type.andThen (looks_mroIn X hob);have LM:Looks (model prog w) h (mroOf (.ref C)) cd.mro:=(looks_clsIn X hcd).andThen .now;have LC:=looks_clsIn (M:=model prog w) X hcd;have f3:=SF.slot.bind (.ref e);unfold setAttr callSpecial? specialOf
 repeat (any_goals (first|assumption|with_reducible refine L0.at ?_|with_reducible refine L1.at ?_|wp_step))
 refine w8 SF.slot.plain SF.entry (@check_slot (model prog w) _ _ _ "object.__setattr__" "object" "__setattr__" (.ref e) [.str name t,v] [] _ SF.kind SF.split LS (SF.args (.ref e) (.str name t) v) ?_);show wpAny _ _ (Builtin.«object.__setattr__» ⟨[.ref e,.str name t,v],[]⟩) _ _ _;rw[osa_eq,refuse_eq];refine ah (ah (L0.at (ah (LM.at ?_))));rw[hmro,refuseLoop_ref,refuseLoop_ref,PySem.F.store_ValueError.passes];refine aC (ah (L0.at (ah (L2.at (ah (aC ?_))))));show wpAny _ _ (storeInOwnDict (.ref e) (.ref C) (.str name t) name v false) _ _ _;unfold storeInOwnDict;refine ah (aC ?_);rw[au (by simp)];refine ah (ZV X hcd hhd he ?_);have he₁:(h.push {cls:=.type "dict", data:=.dict #[]}).get? e=some {cls:=.ref C,dict:=none,data:=.fields vs,slots:=sl}:=aM _ he;have hes:e≠h.objs.size:=bO (aV he);have hgd:((h.push {cls:=.type "dict", data:=.dict #[]}).update e λo=>{o with dict:=some h.objs.size}).get? h.objs.size=some {cls:=.type "dict", data:=.dict #[]}:=
  (w4 _ _ _ _ hes.symm).trans (Fo rfl rfl)
 have hnd:((h.push {cls:=.type "dict", data:=.dict #[]}).update e λo=>{o with dict:=some h.objs.size}).Ns h.objs.size (λ_=>none):=⟨_,#[],_,hgd,rfl,λx hx=>absurd hx (by simp),λ_=>rfl⟩;show wpAny _ _ (storeInDict h.objs.size (.str name t) name v) _ _ _;unfold storeInDict newKeyGuard;refine ah (aC (ah (wpAny_nsSet1 (Heap.Ns1.of_empty hnd) λh' hn' hs=>?_)));obtain⟨oD,esD,epD,hoD,hdD,hcD⟩:=hn'.count (Within.cons name v Within.nil);refine ah (wpAny_lookBehind hoD (by rw[hdD];exact pastItsLine_dict (bN hcD (by rw[dr,Em,lS];omega))) ?_)
 wp_walk
 refine hq h' h.objs.size _ (λb o hb z=>?_) ?_ (aO _) ?_
 ·exact(hs.2 b (bO (aV z))).trans ((w4 _ _ _ _ hb).trans (aM _ z))
 ·exact(hs.2 e hes).trans (iB _ he₁ rfl)
 ·exact hn'
end
noncomputable def ef(e C:Addr)(dx:Option Addr):HO:=.ext λh=>∃t0 sl vs,h.get? e=some {cls:=.ref C,dict:=dx,data:=.fields vs,slots:=sl}/\vs[0]?=some (.ref t0)/\vs[1]?=some .none
theorem yA{P:Program}{w:World}{H:Hp}{h:Heap}{e C t0:Addr}{dx:Option Addr}{sl:Array (Option Value)}{vs:Array Value}(h1:h.get? e=some {cls:=.ref C,dict:=dx,data:=.fields vs,slots:=sl})(h2:vs[0]?=some (.ref t0))(h3:vs[1]?=some .none):
  bG P w H h e (ef e C dx):=⟨⟨t0,sl,vs,h1,h2,h3⟩,⟨_,h1⟩,λg1 g2 ⟨t0,sl,vs,a,b⟩ k=>⟨t0,sl,vs,k _ a,b⟩⟩
theorem yz{P:Program}{w:World}{H:Hp}{h:Heap}{e C:Addr}{dx:Option Addr}(ok:bI P w H h)(z:H e=some (ef e C dx)):∃t0 sl vs,h.get? e=some {cls:=.ref C,dict:=dx,data:=.fields vs,slots:=sl}/\vs[0]?=some (.ref t0)/\vs[1]?=some .none:=(show bG P w H h e (ef e C dx)from ok e _ z).1
noncomputable def jl(H:Hp)(e:Addr):Hp:=λb=>if b=e then none else H b
theorem yu{H:Hp}{e:Addr}:jl H e e=none:=by unfold jl;rw[az rfl]
theorem qk{H:Hp}{e b:Addr}(h:b≠e):jl H e b=H b:=by unfold jl;rw[au h]
section
variable {X:Cx} {pins:List (Addr × Obj)} {σ:St} {H:Hp} {s:Shared}
theorem Inv.Zr{e C:Addr}{dx:Option Addr}(I:Inv X pins σ H s)(z:H e=some (ef e C dx))(h0:X.s₀.heap.get? e=none):Inv X pins σ (jl H e) s:=by
 have no:∀{b:Addr},H b=none->jl H e b=none:=λ{b} n=>by
  by_cases hb:b=e
  ·rw[hb];exact yu
  ·rw[qk hb];exact n
 have nt:∀{b:Addr} {u:HO},H b=some u->(∀φ,u≠.ext φ)->jl H e b=some u:=λ{b u} q nx=>by
  rw[qk]
  ·exact q
  ·intro hb
   rw[hb,z]at q;exact nx _ (dU q).symm
 refine⟨I.ok,I.os,I.bare,⟨I.base.keep,I.base.slot,λb o q n hx=>no (I.base.free b o q n hx),I.base.there,λb xs q=>nt (I.base.tups b xs q) (λφ w=>by cases w),λb o u q=>nt (I.base.eS b o u q) (λφ w=>by cases w),λb ps q=>?_⟩,
  I.loc,I.cell,no I.free,λx c q=>no (I.dH x c q),λp hp=>?_,λb o q=>?_,I.len⟩
 ·obtain⟨more,q1⟩:=I.base.fz b ps q
  exact⟨more,nt q1 (λφ w=>by cases w)⟩
 ·obtain⟨a,b,c⟩:=I.pin p hp
  exact⟨a,no b,c⟩
 ·have hb:b≠e:=λw=>by rw[w,yu]at q;cases q
  rw[qk hb]at q;exact(I.hok b o q).stay (λc v _ r=>r) (λc r=>nt r (λφ w=>by cases w)) (λc xs r=>nt r (λφ w=>by cases w)) λc ob u r=>nt r (λφ w=>by cases w)
end
noncomputable def iZ (K:W.Frag) (C fI:Addr):Prop:=∀h:Heap,K.In h->(∃bm N nm q bs hdct sn sub ab col dd k0 k1 k2 k3 k5 mN,h.get? C=some (excClassObj nm q C N bs bm hdct sn sub ab col dd k0 k1 k2 k3 k5 "ValueError.__new__")/\h.Ns N mN/\mN "__init__" = some (.ref fI)/\OwnTail h jz bm) /\
 ∃oI,h.get? fI=some oI/\oI.cls = .type "function"
noncomputable def NB(C:Addr)(sp:Sp)(E:XK)(ta:TA):TS:=λ_ σ H=>ta σ H λvs H1=>vs.length<=sizeLine/\∀e,H1 e=none->sp (.ref e::vs) (upd H1 e (ef e C none)) (λv H2=>v = .non/\∃dx,H2 e=some (ef e C dx)/\E (.ref C) dx (jl H2 e)) E0
section
variable {X:Cx} {E:XK} {x:Str} {C fI:Addr} {fd:FuncData} {ps:List Str} {k:Nat} {sp:Sp} {np cpos pos:Pos} {e0:Expr} {es:List Expr} {ta:TA}
theorem Xj(R:Raises X E)(hm:X.mg x=some (.ref C))(ic:iZ X.K C fI)(F:aN X.prog X.w X.K X.mg X.base bf k fI fd ps sp)(hr:bS (k+1) X.A)(hb:Binds X.K fd ps [])(calm:X.calm=true)(hex:X.ex = [])(hg:Gl X x)(ha:PA X (e0::es) ta)
  (he:starEach (e0::es) X.env=(false,eval e0 X.env)::starEach es X.env:=by rfl) (hplain:(backTo cpos (starEach es X.env)).any (·.1)=false:=by rfl) (hd:(x==("__debug__" : Str))=false:=by decide) :
  PS X (.Raise (some (.Call (.Name x np) (e0::es) [] cpos)) none pos) (NB C sp E ta):=by
 intro pins s σ H D I h;have FB:=Fl;obtain⟨⟨bm,N,nm,q,bs,hdct,sn,sub,ab,col,dd,k0,k1,k2,k3,k5,mN,hC,hN,hi,T⟩,oI,hfI,hfc⟩:=ic X.base I.mod.iN;have hbase:bm.contains (.type "BaseException")=true:=T.hasType FB.hasBase;have hpl:(backTo cpos (starEach (e0::es) X.env)).any (·.1)=false:=by rw[he];show(false||(backTo cpos (starEach es X.env)).any (·.1))=false;rw[hplain];rfl
 have h':=ha cpos pins s σ H _ I h;rw[arm_exec_Raise];simp only[evalOpt,Option.map];refine ah (qa (ZS (C:=C) (nm:=nm) (q:=q) (N:=N) (bs:=bs) (bm:=bm) (hdct:=hdct) (sn:=sn) (sub:=sub) (ab:=ab) (col:=col) (dd:=dd) (k0:=k0) (k1:=k1) (k2:=k2) (k3:=k3) (k5:=k5) (newId:= "ValueError.__new__") hbase (I.ok.hd calm) ?_));refine ah (dX (wpAny_Call_ofName (kY I hg hm ?_ hd)) (λv s₃ h₃=>ah (qa (aC h₃))) λ_ _ x=>x);unfold callWith;rw[he]at h' hpl ⊢;refine ah (fV (sm (dX h' (λus s2 ⟨vs,H2,I2,r,hl,q2⟩=>ah (qa ?_)) λ_ _ y=>y)));simp only[hpl];obtain⟨hp,g,d,tk,os⟩:=s2;have Hu:hp.get? C=_:=I2.bk _ _ hC;have RX:hp.Ns N mN:=hN.keeps I2.bk;have T2:OwnTail hp jz bm:=T.keeps I2.bk;have Sb:hp.get? fI=some oI:=I2.bk _ _ hfI;refine ah (wpAny_keeperOf_exc Hu ?_);rw[wD];refine ah (ZQ (hrest:=by rw[<- r.length];exact hl) FB T2 Hu RX hi Sb hfc λh3 e hx=>?_);obtain⟨t0,Ik,_,_⟩:=hx.there;have n2:H2 e=none:=Aq I2.hok hx.new;have h0:X.s₀.heap.get? e=none:=by
  cases z:X.s₀.heap.get? e with
  |none=>rfl
  |some o =>
   obtain⟨o',z'⟩:=I2.base.there e o z (by rw[hex];exact λz=>nomatch z);rw[hx.new]at z';cases z'
 have I3:Inv X pins σ H2 ⟨h3,g,d,tk,os⟩:=I2.kept (t':=tk) hx.keeps;have hpn:∀p∈X.pn++pins,p.1≠e:=λp hp z=>by
  have:=(I2.pin p hp).1;rw[z,hx.new]at this;cases this
 have I4:Inv X pins σ (upd H2 e (ef e C none)) ⟨h3,g,d,tk,os⟩:=I3.track Ik rfl n2 h0 hpn (yA Ik rfl rfl);have hq:=q2 e n2;have r2:Vals (V.ref e::vs) (Value.ref e::us):=.cons rfl r;have hl2:(Value.ref e::us++[]).length=ps.length:=by rw[rS,<- r2.length];exact F.len _ _ _ _ hq
 have hb':=hb ⟨h3,g,d,tk,os⟩ (Value.ref e::us) I4.cn hl2;rw[rS]at hb';refine ku (jL (F.run _ X.stack _ _ ⟨Value.ref e::us,[]⟩ (Value.ref e::us) _ _ E0 (hr.make C us []) (I4.env0.make C us []) hb' r2 hq) λr s' hq'=>?_);cases r with
 |error e'=>exact False.elim hq'
 |ok fl =>
  cases fl with
  |ret u =>
   obtain⟨v,H',I5,rv,ev,dx,hz,hE⟩:=I4.after hq';subst ev;obtain⟨t1,sl,vs',g1,g2,g3⟩:=yz I5.hok hz;exact⟨rv,ah (fV (wpAny_point (aC ⟨e,dx,sl,vs',rfl,I5.bk _ _ hC,g1,g3,R pins σ (jl H' e) s' e C _ vs' (I5.Zr hz h0) g1 rfl rfl g3 yu h0 hE⟩)))⟩
  |next=>exact False.elim hq'
  |brk=>exact False.elim hq'
  |cont=>exact False.elim hq'
end
structure FH (K:W.Frag) (C:Addr) (f:Str):Prop where
 ex:∃D cd,W.clsIn K C=some cd/\cd.mro = .ref C::.ref D::jz/\cd.hasDict=true
 sa:W.findIn K (.ref C) "__setattr__" = some (some (.builtin "object.__setattr__"))
 no:W.findIn K (.ref C) f=some none
 ob:W.mroIn K C (.type "object")=some true
noncomputable def Yb(K:W.Frag)(ta tv:TE)(f:Str):TS:=λD σ H=>tv σ H λy H1=>ta σ H1 λx H2=>∃e C,x = .ref e/\H2 e=some (ef e C none)/\FH K C f/\∀dx,H2 dx=none->D.nx σ (upd (upd H2 dx (.xd [(f,y)])) e (ef e C (some dx)))
section
variable {X:Cx} {o value:Expr} {ta tv:TE} {f:Str} {pos pos':Pos}
theorem u0(ha:PE X o ta)(hv:PE X value tv)(hs:swapsWith value (some (.Attribute o f pos')) pos.line X.env=pure false):PS X (.Assign [.Attribute o f pos'] value pos) (Yb X.K ta tv f):=by
 intro pins s σ H D I h;refine Pb (aG (hv pins s σ H _ I h) λu s1 ⟨y,H1,I1,ry,q⟩=>aG (ha pins s1 σ H1 _ I1 q) λov s2 ⟨x,H2,I2,rx,e,C,ex,ee,xs,q2⟩=>?_) hs;subst ex;obtain rfl:ov=Value.ref e:=rx;obtain⟨h,g,d,t,os⟩:=s2;obtain⟨D',cd,hcd,hmro,hhd⟩:=xs.ex;obtain⟨t0,sl,vs,he,v0,v1⟩:=yz I2.hok ee;refine ZW I2.cn hcd hmro hhd xs.sa xs.no xs.ob he λh' dx tk' keep he' hdx hns=>?_;have hn:H2 dx=none:=I2.hok.fresh hdx;have hed:e≠dx:=λz=>by rw[z,hn]at ee;cases ee
 have oth:∀{b:Addr} {u:HO},H2 b=some u->b≠e->upd (upd H2 dx (.xd [(f,y)])) e (ef e C (some dx)) b=some u:=λ{b u} z hb=>by
  rw[aA hb,aA (cF z hn)];exact z
 have ext:∀{b:Addr} {u:HO},H2 b=some u->(∀φ,u≠.ext φ)->b≠e:=λ{b u} z nx hb=>by
  rw[hb,ee]at z;exact nx _ (dU z).symm
 have I3:Inv X pins σ (upd (upd H2 dx (.xd [(f,y)])) e (ef e C (some dx))) ⟨h',g,d,tk',os⟩:=by
  refine I2.un (s:=⟨h,g,d,t,os⟩) (h':=h') (t':=tk') ⟨λb ob z n _ _=>keep b ob (λw=>by rw[w,ee]at n;cases n) z,λb ob z n _ _=>⟨ob.slots,keep b ob (λw=>by rw[w,ee]at n;cases n) z⟩,λb ob z n _=>?_,λb ob z _=>?_,
   λb xs z=>oth z (ext z λφ w=>by cases w),λb ob u z=>oth z (ext z λφ w=>by cases w),λb ps z=>⟨#[],by rw[oth z (ext z λφ w=>by cases w)];simp⟩⟩ λb ob z=>?_
  ·rw[aA (λw=>by rw[w,ee]at n;cases n),aA (bO (cg (aV z) hdx))]
   exact n
  ·by_cases hb:b=e
   ·rw[hb];exact⟨_,he'⟩
   ·exact⟨ob,keep b ob hb z⟩
  ·by_cases hb:b=e
   ·subst hb
    rw[ak]at z;cases z;exact yA he' v0 v1
   ·rw[aA hb]at z
    by_cases hb2:b=dx
    ·subst hb2
     rw[ak]at z;cases z;refine⟨_,hns,λk=>?_⟩
     by_cases hk:k=f
     ·subst hk
      simp[List.lookup,fD,ry]
     ·have hk':(k==f)=false:=lW.mpr hk
      simp[List.lookup,hk,hk',fD]
    ·rw[aA hb2]at z
     refine(I2.hok b ob z).stay (λc v hc q=>keep c v ?_ q) (λc q=>oth q (ext q λφ w=>by cases w)) (λc xs q=>oth q (ext q λφ w=>by cases w)) λc ob u q=>oth q (ext q λφ w=>by cases w)
     rcases hc with w|w
     ·rw[w];exact hb
     ·exact ext w λφ w=>by cases w
 exact⟨σ,_,I3,q2 dx hn⟩
end
noncomputable def YM(te:TE)(a:Str):TE:=λσ H Q=>te σ H λx H1=>∃i:Int,x = .int i/\i.natAbs.log2<1920/\(Str.empty++a++(toString i:Str)).length<=sizeLine/\∀y:Str,Q (.str y) H1
section
variable {X:Cx} {e:Expr} {te:TE} {a:Str} {j} {p1 p2 pos:Pos}
theorem Kn(he:PE X e te)(h0:(Str.empty++a).length<=sizeLine:=by decide):PE X (.JoinedStr [.Constant (.str a) j p1,.FormattedValue e 114 none p2] pos) (YM te a):=by
 intro pins s σ H Q I h;refine wpAny_JoinedStr ?_;show wpAny _ _ (eval (.Constant (.str a) j p1) X.env) _ _ _;refine Fg ⟨a,_,rfl,h0,?_⟩;show wpAny _ _ (eval (.FormattedValue e 114 none p2) X.env) _ _ _;refine wpAny_FormattedValue_repr (aG (he pins _ σ H _ (I.tok _) h) λv s1 ⟨x,H1,I1,rx,i,ex,hl,hlen,q⟩=>?_);subst ex;obtain⟨t,rfl⟩:=(show ∃t,v=Value.int i t from rx);refine wpAny_pyReprObj_gives (T:= "int") (typeIs_int _ i t) PySem.F.slot_int_repr PySem.F.entry_int_repr (PySem.F.args_int_repr_1 _) (gives_int_repr i t hl) ?_ (hx:=int_text_fits hl);refine wpAny_formatField_str ?_ ?_ (int_text_fits hl)
 ·exact⟨_,_,rfl,hlen,hlen,.str _,H1,(I1.tok _).tok _,⟨_,rfl⟩,q _⟩
 ·exact⟨_,_,rfl,hlen,hlen,.str _,H1,((I1.tok _).tok _).tok _,⟨_,rfl⟩,q _⟩
end
noncomputable def YG(K:W.Frag)(ta:TA):TE:=λσ H Q=>ta σ H λvs H1=>∃e C fI v,vs = [.ref e,v]/\H1 e=some (ef e C none)/\iZ K C fI/\Q .non (upd H1 e (ef e C none))
section
variable {X:Cx} {c:Str} {C0:Addr} {np apos pos:Pos} {e0:Expr} {es:List Expr} {ta:TA}
theorem uX (hg:Gl X c) (hm:X.mg c=some (.ref C0)) (hr:W.readsIn X.K C0 (.type "type")=true) (hsp:W.specialIn X.K (.ref C0) "__getattribute__" = some (some (.builtin "type.__getattribute__")))
  (hf:W.findCls X.K (.ref C0) (.type "type") "__init__" = some (.val (.builtin "ValueError.__init__"))) (ha:PA X (e0::es) ta) {pl:Sem Bool}
  (ht:eval (.Call (.Attribute (.Name c np) "__init__" apos) (e0::es) [] pos) X.env=(do
   let ov <- eval (.Name c np) X.env
   standAt apos.atName
   let(f,first) <- holding [ov] (getMethod ov "__init__" pl)
   callWith pos f first (backTo pos (starEach (e0::es) X.env)) (backToKw pos (keywordEach [] X.env))):=by rfl)
  (he:starEach (e0::es) X.env=(false,eval e0 X.env)::starEach es X.env:=by rfl) (hpl:(backTo pos (starEach es X.env)).any (·.1)=false:=by rfl) (hd:(c==("__debug__" : Str))=false:=by decide) :
  PE X (.Call (.Attribute (.Name c np) "__init__" apos) (e0::es) [] pos) (YG X.K ta):=by
 intro pins s σ H Q I h;have FB:=Fl;refine W.methodCall_KW (pl:=pl) (kY I hg hm (W.method_cls I.cn hsp (W.cls_value I.cn hr hf (by decide +kernel) ?_)) hd) ht;have I1:=I.tok (s.toks+1);have h':=ha pos pins _ σ H _ I1 h;rw[he]at h' ⊢;refine Fh (by show(false||(backTo pos (starEach es X.env)).any (·.1))=false;rw[hpl];rfl) (sm (dX h' (λus s2 ⟨vs,H2,I2,r,e,C,fI,v,ev,ee,ic,q2⟩=>?_) λ_ _ y=>y));subst ev;obtain⟨u,v',rfl,ru,rv⟩:=Vals.two r;cases(show u=Value.ref e from ru);obtain⟨⟨bm,N,nm,q,bs,hdct,sn,sub,ab,col,dd,k0,k1,k2,k3,k5,mN,hC,hN,hi,T⟩,_⟩:=ic s2.heap I2.cn;obtain⟨t0,sl,ws,hee,v0,v1⟩:=yz I2.hok ee;obtain⟨hp,g,d,tk,os⟩:=s2;refine ZR FB T hC hee v0 λh3 tu keep HF=>?_;have hz:0<ws.size:=(nj.mp v0).1;have I3:Inv X pins σ (upd H2 e (ef e C none)) ⟨h3,g,d,tk,os⟩:=I2.write (x:=e) (e:=e) (t':=tk) (h':=h3) (by rw[ee];trivial) (.inl rfl) keep ⟨_,HF⟩ (yA (t0:=tu) HF (by simp[hz]) (by rw[Array.getElem?_setIfInBounds_ne (by decide)];exact v1));exact⟨.non,_,I3,rfl,q2⟩
end
noncomputable def Y5(K:W.Frag)(te:TE)(f:Str):TE:=λσ H Q=>te σ H λx H1=>∃e C dx fs v,x = .ref e/\H1 e=some (eZ e C (some dx))/\H1 dx=some (.xd fs)/\gF K C/\W.hasDictIn K C=true/\W.findIn K (.ref C) f=some none/\W.noGet K none=true/\fs.lookup f=some v/\Q v H1
section
variable {X:Cx} {o:Expr} {te:TE} {f:Str} {pos:Pos}
theorem uY(he:PE X o te)(hb:attributeBase o f X.env (eval o X.env)=eval o X.env:=by rfl):PE X (.Attribute o f pos) (Y5 X.K te f):=by
 intro pins s σ H Q I h;refine FP hb (aG (he pins s σ H _ I h) λu s1 ⟨x,H1,I1,rx,e,C,dx,fs,v,ex,ee,ed,cl,hd,hf,hn,hl,q⟩=>?_);subst ex;obtain rfl:u=Value.ref e:=rx;obtain⟨oe,vs,e1,e2,e3,e4⟩:=Ha I1.hok ee;obtain⟨mA,ns,rel⟩:=(show bG X.prog X.w H1 s1.heap dx (.xd fs)from I1.hok dx _ ed);obtain⟨od,es,ep,o1,o2,o3⟩:=id ns;obtain⟨w,hw,rw⟩:∃w,mA f=some w/\RelV v w:=by
  have:=rel f;rw[hl]at this;cases z:mA f with
  |none=>rw[z]at this;exact this.elim
  |some w=>rw[z]at this;exact⟨w,rfl,this⟩
 obtain⟨od',ho,hlk⟩:=Jz ns;have nc:W.notCls oe=true:=by unfold W.notCls;rw[e4]
 have J:W.InstAt s1.heap e oe C (some od'):=⟨e1,e2,nc,by rw[e3];exact ho⟩;have hfo:W.findObj X.K C (some od') f=some (.value w):=W.findObj_own hd hf hn (by rw[hlk,hw]);have iN:=I1.cn;obtain⟨hp,g,d,tk,os⟩:=s1;unfold getAttr;refine ah (wpAny_mkText ?_);refine N_ (v:=.none) iN J cl.ga cl.gt cl.be λA'=>ZP iN J hfo ?_;exact W.handed_on (Hz rw) ⟨v,H1,I1.tok _,rw,q⟩
end
theorem Vc{K:W.Frag}{h:Heap}{N:Addr}{x:Str}{v:Value}(X:K.In h)(e:W.nsIn K N x=some (some v)):h.nsMap N x=some v:=by
 unfold W.nsIn at e
 split at e
 ·rename_i c d es ep sl ho
  unfold Heap.nsMap;rw[X _ _ ho];dsimp only;unfold nsFind findBy;rw[<- Array.find?_toList]
  split at e
  ·rename_i y hy
   rw[hy];exact dU e
  ·split at e<;>cases e
 ·cases e
noncomputable def Jm(e:DictEntry):Bool:=match e.key with
 |.str _ _=>true
 |_=>false
theorem Vd{K:W.Frag}{N:Addr}{cN:Value}{dN:Option Addr}{es:Array DictEntry}{ep:Nat}{BX:Array (Option Value)}(n:List.lookup N K=some ⟨cN,dN,.dict es ep,BX⟩)(k:es.toList.all Jm=true):W.nsOkIn K N=true:=by
 unfold W.nsOkIn;rw[n];rw[Array.all_toList]at k;exact k
theorem Ti{K:W.Frag}{C N fI aE:Addr}{nm q:Str}{bs:List Value}{hdct:Bool}{sn:List Str}{sub:List Value}{ab:Bool}{col:Option Bool}{dd:Option Addr}{k0 k1 k2 k3 k5:Option Value}
  (l:List.lookup C K=some (excClassObj nm q C N bs (.ref aE::jz) hdct sn sub ab col dd k0 k1 k2 k3 k5 "ValueError.__new__")) (ok:W.nsOkIn K N=true) (i:W.nsIn K N "__init__" = some (some (.ref fI)))
  (x:W.excIn K aE jz "ValueError.__new__" = true) (f:W.isFn K (.ref fI)=true):iZ K C fI:=by
 intro h X;refine⟨⟨_,N,nm,q,bs,hdct,sn,sub,ab,col,dd,k0,k1,k2,k3,k5,h.nsMap N,X _ _ l,.of_isNs (W.isNs_of_in X ok),Vc X i,?_⟩,?_⟩
 ·obtain⟨_,tl,N',nm',q',bs',hd',sn',sub',Z8,col',qj,j0,j1,j2,j3,j5,mN,hC,hN,hni,T⟩:=J_ (x:=Str.empty) (mg:=λ_=>some (.ref aE)) X rfl x
  exact .own hC hN hni .base
 ·unfold W.isFn W.typeIn at f
  have f:Option.map (λx=>x.cls) (List.lookup fI K)=some (Value.type "function"):=gZ.mp f;cases z:List.lookup fI K with
  |none=>rw[z]at f;cases f
  |some o=>rw[z]at f;exact⟨o,X _ _ z,dU f⟩
structure iX (P:Program) (w:World) (K:W.Frag) (mg:Str->Option Value) (base:Heap) (C:Addr) (x:Str) (ps:List Str) (k:Nat) (sp:Sp):Prop where
 ex:∃(f:Addr) (fd:FuncData),aN P w K mg base bf k f fd ps sp/\iZ K C f/\mg x=some (.ref C)/\Binds K fd ps []
section
variable {X:Cx} {E:XK} {x:Str} {C:Addr} {ps:List Str} {k k':Nat} {sp:Sp} {np cpos pos:Pos} {e0:Expr} {es:List Expr} {ta:TA}
theorem qU(c:iX X.prog X.w X.K X.mg X.base C x ps k sp)(R:Raises X E)(hr:bS k' X.A)(calm:X.calm=true)(hex:X.ex = [])(hg:Gl X x)(ha:PA X (e0::es) ta)(hk:k+1<=k':=by decide)
  (he:starEach (e0::es) X.env=(false,eval e0 X.env)::starEach es X.env:=by rfl) (hplain:(backTo cpos (starEach es X.env)).any (·.1)=false:=by rfl) (hd:(x==("__debug__" : Str))=false:=by decide) :
  PS X (.Raise (some (.Call (.Name x np) (e0::es) [] cpos)) none pos) (NB C sp E ta):=by
 obtain⟨f,fd,F,ic,hm,b⟩:=c.ex;exact Xj R hm ic F (hr.mono hk) b calm hex hg ha he hplain hd
end
structure jC (K:W.Frag) (C:Addr) (fld:Str):Prop where
 xs:FH K C fld
 hd:W.hasDictIn K C=true
 ng:W.noGet K none=true
structure nk (K:W.Frag) (aE:Addr):Prop where
 rd:W.readsIn K aE (.type "type")=true
 sp:W.specialIn K (.ref aE) "__getattribute__" = some (some (.builtin "type.__getattribute__"))
 fc:W.findCls K (.ref aE) (.type "type") "__init__" = some (.val (.builtin "ValueError.__init__"))
noncomputable def gP(C:Addr)(fld:Str)(ok:V->Hp->Prop):Sp:=λvs H Q _=>∃(e:Addr) (v:V),vs = [.ref e,v]/\H e=some (ef e C none)/\ok v H /\
 ∀dx H',H dx=none->H' e=some (ef e C (some dx))->H' dx=some (.xd [(fld,v)])->(∀b,b≠e->b≠dx->H' b=H b)->Q .non H'
noncomputable def ph(v:V)(_:Hp):Prop:=∃i:Int,v = .int i/\i.natAbs.log2<1920
theorem o6{C:Addr}{fld:Str}{ok:V->Hp->Prop}{E:XK}{H:Hp}{v:V}{e:Addr}(hv:∀H',(∀b o,H b=some o->H' b=some o)->ok v H')(he:H e=none)(k:∀dx H',(∀b o,H b=some o->H' b=some o)->H' dx=some (.xd [(fld,v)])->E (.ref C) (some dx) H'):gP C fld ok [.ref e,v] (upd H e (ef e C none)) (λu H2=>u = .non/\∃dx,H2 e=some (ef e C dx)/\E (.ref C) dx (jl H2 e)) E0:=by
 refine⟨e,v,rfl,ak,hv _ λb o q=>by rw[aA (cF q he)];exact q,λdx H' h1 h2 h3 h4=>⟨rfl,some dx,h2,k dx _ (λb o q=>?_) ?_⟩⟩
 ·have hb:b≠e:=cF q he
  have hb2:b≠dx:=λz=>by rw[z]at hb q;rw[aA hb,q]at h1;cases h1
  rw[qk hb,h4 b hb hb2,aA hb];exact q
 ·have hne:dx≠e:=λz=>by rw[z,ak]at h1;cases h1
  rw[qk hne];exact h3
end L2
namespace My
open PySem PySem.Spec PyProof.Rows L2
structure gT (K:W.Frag) (qual fld:Str) (st:Stmt) (C:Addr):Prop where
 ex:∃(f:Addr) (fd:FuncData),aT K "__init__" qual st f fd/\iZ K C f
 fl:jC K C fld
theorem gT.mk'{cN:Value}{dN:Option Addr}{es:Array DictEntry}{ep:Nat}{BX:Array (Option Value)}{K:W.Frag}{qual fld:Str}{st:Stmt}{C N f aE:Addr}{nm q:Str}{bs:List Value}{sn:List Str}{sub:List Value}{ab:Bool}{col:Option Bool}{dd:Option Addr}{oc:Value}{od an:Option Addr}{osl:Array (Option Value)}{kV doc pm cdv ct:Value}{j0 j1 j2 j3 j5:Option Value}
  (l:List.lookup C K=some (excClassObj nm q C N bs (.ref aE::jz) true sn sub ab col dd j0 j1 j2 j3 j5 "ValueError.__new__")) (ns:List.lookup N K=some ⟨cN,dN,.dict es ep,BX⟩) (sk:es.toList.all Jm=true) (i:W.nsIn K N "__init__" = some (some (.ref f))) (x:W.excIn K aE jz "ValueError.__new__" = true) (fn:W.isFn K (.ref f)=true)
  (lf:List.lookup f K=some ⟨oc,od,.func (W.fnOf "__init__" qual (iI st) (f9 st) (ay st) .none kV doc pm an cdv ct),osl⟩) (c:W.codeIn K cdv qual=true) (k:W.keepIn K (.ref f)=true)
  (sa:W.findIn K (.ref C) "__setattr__" = some (some (.builtin "object.__setattr__"))) (no:W.findIn K (.ref C) fld=some none) (ob:W.mroIn K C (.type "object")=some true) (hd:W.hasDictIn K C=true) (ng:W.noGet K none=true):gT K qual fld st C:=
 ⟨⟨f,_,zC lf c k,Ti l (Vd ns sk) i x fn⟩,⟨⟨⟨aE,_,by unfold W.clsIn;rw[l],rfl,rfl⟩,sa,no,ob⟩,hd,ng⟩⟩
theorem gT.cal{P:Program}{w:World}{K:W.Frag}{mg:Str->Option Value}{base:Heap}{x qual fld:Str}{st:Stmt}{C:Addr}{ps:List Str}{k:Nat}{sp:Sp}(A:gT K qual fld st C)(hm:mg x=some (.ref C))
  (hb:∀(kV doc pm:Value) (an:Option Addr) (cdv ct:Value) (us:List Value),us.length=ps.length->bindArgs (W.fnOf "__init__" qual (iI st) (f9 st) (ay st) .none kV doc pm an cdv ct) ⟨us,[]⟩=pure (ps.zip us))
  (ok:∀{f:Addr} {fd:FuncData},aT K "__init__" qual st f fd->iZ K C f->aN P w K mg base bf k f fd ps sp):iX P w K mg base C x ps k sp:=by
 obtain⟨f,fd,F,ic⟩:=A.ex;exact⟨f,fd,ok F ic,ic,hm,F.binds hb⟩
noncomputable def tJ:List Str:=["NoChain","NoClimb","NoCount","NoEnds","NoExchange","NoJoin","NoLine","NoName","NoNumber","NoOrder","NoPart","NoText","NoThing","NoWord","NotEven"]
section
variable {P:Program} {w:World} {K:W.Frag} {mg:Str->Option Value} {base:Heap} {f:Addr} {fd:FuncData} {a0 a1 a2 a3 a4 a5 a6 a7 a8 a9 a10 a11 a12 a13 a14 aE:Addr}
noncomputable def Cb (Rz:Addr->Nat->Prop):Sp:=λvs H Q _=>∃(e C:Addr) (j:Nat),vs = [.ref e]/\lV H e C/\Rz C j/\j<15/\∀H',Same H H'->Q (.str (tJ.getD j "")) H'
end
theorem Kz{a:Str}{i:Int}(h:i.natAbs.log2<1920)(ha:(Str.empty++a).length<=1000):(Str.empty++a++(toString i:Str)).length<=sizeLine:=by
 have e:=Fv (by decide) h;rw[nW,Pa,lS];omega
section
variable {P:Program} {w:World} {K:W.Frag} {mg:Str->Option Value} {base:Heap} {f:Addr} {fd:FuncData} {a0 a1 a2 a3 a4 a5 a6 a7 a8 a9 a10 a11 a12 a13 a14 aE:Addr}
abbrev Bm:Stmt:=inClass (top 4) 0
theorem Lh:bh ["self","thing"] ["self","thing"] (ay Bm):=⟨rfl,rfl,rfl,by decide +kernel,rfl,by decide +kernel,by decide +kernel⟩
theorem Vq {fI:Addr} (F:aT K "__init__" "NoThing.__init__" Bm f fd) (Er:kb mg a0 a1 a2 a3 a4 a5 a6 a7 a8 a9 a10 a11 a12 a13 a14 aE) (BI:nk K aE) (ic:iZ K a12 fI) (lH:jC K a12 "thing"):aN P w K mg base bf 1 f fd ["self","thing"] (gP a12 "thing" ph):=by
 refine F.ok Lh (λvs H Q E h=>?_) (λcdv A outer s H vs Q E hr h=>?_)
 ·obtain⟨e,v,rfl,_⟩:=h
  rfl
 ·obtain⟨e,v,rfl,he,⟨i,rfl,hi⟩,kk⟩:=h
  have nd:=Lh.nd;refine⟨_,(ao (c9 (uX rfl Er.ClimbError BI.rd BI.sp BI.fc (ae (pv 0) (ae (Kn (pv 1)) ag))))
   (aq (u0 (pv 0) (pv 1) rfl))),?_⟩
  refine⟨_,rfl,_,rfl,i,rfl,hi,Kz hi (by decide),λy=>⟨e,a12,fI,_,rfl,he,ic,?_⟩⟩;refine⟨_,rfl,_,rfl,e,a12,rfl,ak,lH.xs,λdx hdx=>?_⟩;have hne:dx≠e:=λz=>by rw[z,ak]at hdx;cases hdx
  refine kk dx _ (by rw[aA hne]at hdx;exact hdx) ak (by rw[aA hne,ak]) λb h1 h2=>?_;rw[aA h1,aA h2,aA h1]
noncomputable def CQ(cT:Addr):Sp:=λvs H Q E=>∃n i:Int,vs = [.int n,.int i]/\i.natAbs.log2<1920/\((0<=i/\i<n)->∀H',Same H H'->Q .non H') /\
 (¬ (0<=i/\i<n)->∀dx H',Same H H'->H' dx=some (.xd [("thing", .int i)])->E (.ref cT) (some dx) H')
theorem Wr (F:aT K "need_thing" "need_thing" BR f fd) (T:Txt mg) (xK:aF P w K mg base "is_thing" ["count","number"] 2 Cy) (xF:iX P w K mg base a12 "NoThing" ["self","thing"] 1 (gP a12 "thing" ph)) :
  aN P w K mg base (bA P w) 3 f fd ["count","number"] (CQ a12):=by
 refine F.uO Mw (λvs H Q E h=>?_) (λcdv A outer s H vs Q E hr h=>?_)
 ·obtain⟨n,i,rfl,_⟩:=h
  rfl
 ·obtain⟨n,i,rfl,hi,k1,k2⟩:=h
  have nd:=Mw.nd;refine⟨_,(aq (bq (gJ (dh (bj xK hr rfl (ae (pv 0) (ae (pv 1) ag))))) (aq (qU xF K3 hr rfl rfl rfl (ae (pv 1) ag))) bx)),?_⟩;refine⟨_,rfl,_,rfl,⟨n,i,rfl⟩,λv H1 s1 hv=>?_⟩;rw[hv n i rfl];refine⟨_,rfl,?_⟩
  by_cases hh:0<=i/\i<n
  ·rw[bK hh]
   exact aI (k1 hh _ s1)
  ·rw[bE hh]
   refine a_ ⟨_,rfl,by show 1<=sizeLine;decide,λe he=>?_⟩;exact o6 (λ_ _=>⟨i,rfl,hi⟩) he λdx H2 s2 hx=>k2 hh dx _ (s1.trans s2) hx
end
end My
namespace L2
open PySem PySem.Spec PyProof.Rows
noncomputable def Ph(h:Heap)(ea C:Addr)(dx:Option Addr)(T L:Addr):Prop:=(∃oe vs,h.get? ea=some oe/\oe.cls = .ref C/\oe.dict=dx/\oe.data = .fields vs/\vs[1]?=some .none)\/eQ h ea (.ref C) dx T .none\/eQ h ea (.ref C) dx T (rawInt L)
section
variable {P:Program} {w:World} {K:W.Frag} {mg:Str->Option Value} {base:Heap} {N:List Str} {qual:Str} {scope:Scope} {f:Addr} {cd:Value} {A:Around} {outer:List Env} {s:Shared} {H:Hp} {E:XK}
noncomputable def XS(P:Program)(w:World)(base:Heap)(Ar:Around)(env:Env)(outer:List Env)(s:Shared)(H:Hp)(E:XK):Value->Shared->Prop:=λex s'=>∃ea C dx T H',Ar.frames=some (env::outer)/\ex = .ref ea/\s'.os=s.os/\AllBare s'.gens/\Un (frs outer) [] H H' s.heap s'.heap/\bI P w H' s'.heap/\s'.heap.FunFrames base (env::outer) /\
 (∀b∈frs (env::outer),H' b=none)/\Ph s'.heap ea C dx T s.heap.objs.size/\H' ea=none/\H' T=none/\s.heap.get? ea=none/\s.heap.get? T=none/\E (.ref C) dx H'
theorem vW{env:Env}{H H':Hp}{h h2 h3:Heap}{ch:List Addr}(hf:env.frame=some h.objs.size)(un:Un (frs outer) [] H H' h h2)(m:Moved (frs (env::outer)) ch h2 h3)(hc:∀b∈ch,h.get? b=none):Un (frs outer) [] H H' h h3:=by
 have sub:∀b o,h.get? b=some o->b ∉ frs outer->b ∉ frs (env::outer):=λb o e n z=>by
  unfold frs at z;rw[ny,hf]at z
  rcases bu.mp z with q|q
  ·have h2:=aV e
   rw[q]at h2;exact absurd h2 (fh _)
  ·exact n q
 have eW:∀b o,h.get? b=some o->b ∉ ch:=λb o e z=>by rw[hc b z]at e;cases e
 refine⟨λb o q n hb hx=>m.keep b o (un.keep b o q n hb hx) (sub b o q hb) (eW b o q),λb o q n hb hx=>?_,un.free,λb o q hx=>?_,un.tups,un.eS,un.fz⟩
 ·obtain⟨sl,e1⟩:=un.slot b o q n hb hx
  obtain⟨mW,e3⟩:=m.any e1 (eW b _ q);exact⟨mW,e3⟩
 ·obtain⟨o2,e2⟩:=un.there b o q hx
  exact m.there b o2 e2
theorem Hi{M:Model}{A:Around}{E:Value->Shared->Prop}{s:Shared}{e T:Addr}{cls fl:Value}{dx:Option Addr}{Q:Unit->Shared->Prop}(fr:Option Addr)(xr:eQ s.heap e cls dx T fl)(h:∀h',Moved [] [T] s.heap h'->eQ h' e cls dx T (fr.elim .none λf=>rawInt f)->Q () {s with heap:=h'}):wpAny M A (setFlight (.ref e) fr) Q E s:=by
 obtain⟨⟨oe,vs,he,hc,hdx,hd,h1⟩,hTe,oT,ts,hT,hdT,h3⟩:=xr;have hsz3:3<ts.size:=(nj.mp h3).1;unfold setFlight;refine ah (dW he hd h1 ?_);rw[az (show(Value.ref T != Value.none)=true from by simp)];refine p9 hT hdT hsz3 ?_;have other:∀b,b≠T->(s.heap.update T (Obj.mapFields (·.setIfInBounds 3 (fr.elim Value.none λf=>rawInt f)))).get? b=s.heap.get? b:=λb hb=>jf _ _ (cE hb);have hT':=iB (Obj.mapFields (·.setIfInBounds 3 (fr.elim Value.none λf=>rawInt f))) hT (p7 (ko hdT _));refine h _ ⟨λb o hb _ n=>(other b (λz=>n (by simp[z]))).trans hb,λb o hb _ n=>⟨o.slots,(other b (λz=>n (by simp[z]))).trans hb⟩,λb o hb=>?_,by rw[sv];exact aO _⟩ ?_
 ·by_cases hbT:b=T
  ·subst hbT;exact⟨_,hT'⟩
  ·exact⟨o,(other b hbT).trans hb⟩
 ·exact⟨⟨oe,vs,(other e (cE hTe)).trans he,hc,hdx,hd,h1⟩,hTe,_,_,hT',ko hdT _,by simp[hsz3]⟩
theorem Vb{M:Model}{A:Around}{E:Value->Shared->Prop}{s:Shared}{env:Env}{e T L:Addr}{cls:Value}{dx:Option Addr}{Q:Unit->Shared->Prop}(hf:env.frame=some L)(xr:eQ s.heap e cls dx T (rawInt L))(h:Q () s):wpAny M A (noteFrame (.ref e) env) Q E s:=by
 obtain⟨⟨oe,vs,he,hc,hdx,hd,h1⟩,hTe,oT,ts,hT,hdT,h3⟩:=xr;unfold noteFrame;simp only[hf];refine ah (dW he hd h1 ?_);rw[az (show(Value.ref T != Value.none)=true from by simp)];refine ah (dW hT hdT h3 ?_);rw[az (show((rawInt L==rawInt L)=true)from by simp)];exact aC h
theorem JZ{M:Model}{A':Around}{E':Value->Shared->Prop}{env:Env}{ex:Value}{s':Shared}{Q:Unit->Shared->Prop}(hf:env.frame=some s.heap.objs.size)(x:XS P w base A' env outer s H E ex s')
  (h:∀ea C dx T H' h3,A'.frames=some (env::outer)->ex = .ref ea->s'.os=s.os->Un (frs outer) [] H H' s.heap h3->bI P w H' h3->h3.FunFrames base (env::outer)->(∀b∈frs (env::outer),H' b=none)->eQ h3 ea (.ref C) dx T (rawInt s.heap.objs.size)->H' ea=none->H' T=none->s.heap.get? ea=none->s.heap.get? T=none->AllBare s'.gens->E (.ref C) dx H'->Q () {s' with heap:=h3}) :
  wpAny M A' (noteFrame ex env) Q E' s':=by
 obtain⟨ea,C,dx,T,H',hfr,rfl,os,bare,un,hok,ff,fr,ZX,n1,n2,f1,f2,hE⟩:=x;have UT:∀b∈[ea],s.heap.get? b=none:=λb z=>by rw[bW.mp z];exact f1
 have UG:∀b∈[ea],H' b=none:=λb z=>by rw[bW.mp z];exact n1
 have UW:∀b∈[ea,T],s.heap.get? b=none:=λb z=>by
  rcases bu.mp z with z|z
  ·rw[z];exact f1
  ·rw[bW.mp z];exact f2
 have UJ:∀b∈[ea,T],H' b=none:=λb z=>by
  rcases bu.mp z with z|z
  ·rw[z];exact n1
  ·rw[bW.mp z];exact n2
 rcases ZX with⟨oe,vs,e1,e2,e3,e4,e5⟩|xr|xr
 ·refine JX hfr ff hf e1 e4 e5 λh3 T' m hT x=>?_
  rw[e2,e3]at x;refine h ea C dx T' H' h3 hfr rfl os (vW hf un m UT) (kM hok m fr UG) (m.dw (λb hb z=>?_) ff) fr x n1 (hok.fresh hT) f1 (uF un hT) bare hE;exact mn ff e1 e4 (bW.mp z▸hb)
 ·refine As hfr ff hf xr λh3 T' m hT x=>?_
  refine h ea C dx T' H' h3 hfr rfl os (vW hf un m UW) (kM hok m fr UJ) (m.dw (λb hb z=>?_) ff) fr x n1 (hok.fresh hT) f1 (uF un hT) bare hE;obtain⟨⟨oe,vs,he,hc,hdx,hd,h1⟩,hTe,oT,ts,hT,hdT,h3⟩:=xr
  rcases bu.mp z with z|z
  ·exact mn ff he hd (z▸hb)
  ·exact mn ff hT hdT ((bW.mp z)▸hb)
 ·exact Vb hf xr (h ea C dx T H' s'.heap hfr rfl os un hok ff fr xr n1 n2 f1 f2 bare hE)
theorem JG{env:Env}{h2 h3:Heap}{T:Addr}(m:Moved [] [T] h2 h3):Moved (frs (env::outer)) [T] h2 h3:=m.mono (λ_ z=>nomatch z) λ_ z=>z
theorem WW{A':Around}{env:Env}(hf:env.frame=some s.heap.objs.size):PassesOwn (model P w) A' env (XS P w base A' env outer s H E):=by
 intro ex s' x;unfold notedBy;refine JZ hf x λea C dx T H' h3 hfr e os un hok ff fr xr n1 n2 f1 f2 bare hE=>?_;subst e;unfold cameBackBy;obtain⟨⟨oe,vs,he,hc,hdx,hd,h1⟩,hTe,oT,ts,hT,hdT,h3'⟩:=id xr;refine ah (dW he hd h1 ?_);rw[au (show ¬ ((Value.ref T==Value.none)=true)from by simp)];rw[hf];refine Hi (some s.heap.objs.size) xr λh4 m x4=>?_;have m':=JG (env:=env) (outer:=outer) m;have nT:∀b∈[T],s.heap.get? b=none:=λb z=>by rw[bW.mp z];exact f2
 have Ai:∀b∈[T],H' b=none:=λb z=>by rw[bW.mp z];exact n2
 exact⟨ea,C,dx,T,H',hfr,rfl,os,bare,vW hf un m' nT,kM hok m' fr Ai,m'.dw (λb hb z=>mn ff hT hdT ((bW.mp z)▸hb)) ff,fr,.inr (.inr x4),n1,n2,f1,f2,hE⟩
abbrev Cx.own (P:Program) (w:World) (K:W.Frag) (mg:Str->Option Value) (base:Heap) (N:List Str) (qual:Str) (scope:Scope) (f:Addr) (cd:Value) (A:Around) (outer:List Env) (s:Shared) (H:Hp) (E:XK):Cx:=
 (bU (bA P w) P w K mg base N qual scope f cd A outer s H E).wish (XS P w base (bU (bA P w) P w K mg base N qual scope f cd A outer s H E).A (bU (bA P w) P w K mg base N qual scope f cd A outer s H E).env outer s H E)
theorem uW:PassesOwn (model P w) (Cx.own P w K mg base N qual scope f cd A outer s H E).A (Cx.own P w K mg base N qual scope f cd A outer s H E).env (Cx.own P w K mg base N qual scope f cd A outer s H E).xe:=WW rfl
theorem WK{ex:Value}{s':Shared}(x:XS P w base (bU (bA P w) P w K mg base N qual scope f cd A outer s H E).A (bU (bA P w) P w K mg base N qual scope f cd A outer s H E).env outer s H E ex s'):(bU (bA P w) P w K mg base N qual scope f cd A outer s H E).xe ex s':=by
 show wpAny _ _ (leaving _ _) _ _ _;unfold leaving;refine ah (JZ rfl x λea C dx T H' h3 hfr e os un hok ff fr xr n1 n2 f1 f2 bare hE=>?_);subst e;refine Hi none xr λh4 m x4=>?_;have m':=JG (env:=(bU (bA P w) P w K mg base N qual scope f cd A outer s H E).env) (outer:=outer) m;have nT:∀b∈[T],s.heap.get? b=none:=λb z=>by rw[bW.mp z];exact f2
 have Ai:∀b∈[T],H' b=none:=λb z=>by rw[bW.mp z];exact n2
 exact⟨ea,C,dx,T,H',rfl,os,bare,vW rfl un m' nT,kM hok m' fr Ai,x4,n1,n2,f1,f2,hE⟩
theorem Ux{fs:List Addr}{h:Heap}:Moved fs [] h h:=⟨λ_ _ e _ _=>e,λ_ o e _ _=>⟨o.slots,e⟩,λ_ o e=>⟨o,e⟩,aO _⟩
theorem Ax:Passes (bA P w) (Cx.own P w K mg base N qual scope f cd A outer s H E) E:=by
 intro pins σ H1 s1 e s2 I h;have I:=I.fA;obtain⟨ea,C,dx,T,H2,rfl,os,bare,un,hok,xr,n1,n2,f1,f2,hE⟩:=h;exact⟨ea,C,dx,T,H2,I.ok.frames,rfl,os.trans I.os,bare,N1 I un Ux (λb z=>nomatch z),hok,Nj I un,vP I un,.inr (.inl xr),n1,n2,oK I f1,oK I f2,hE⟩
theorem u6:Raises (Cx.own P w K mg base N qual scope f cd A outer s H E) E:=by
 intro pins σ H1 s1 ea C oe vs I he hc hd h1 hH h0 hE;have I:=I.fA;have un:Un (frs (bU (bA P w) P w K mg base N qual scope f cd A outer s H E).stack) [] H1 H1 s1.heap s1.heap:=Un.refl;have T0:∃T,s1.heap.get? T=none:=⟨s1.heap.objs.size,su (aO _)⟩;obtain⟨T,hT⟩:=T0;refine⟨ea,C,oe.dict,T,H1,I.ok.frames,rfl,I.os,I.bare,I.base,I.hok,I.stack,vP I un,.inl ⟨oe,vs,he,hc,rfl,hd,h1⟩,hH,Aq I.hok hT,h0,oK I hT,hE⟩
theorem dE.own{body:List Stmt}{t:TS}(h:dE (Cx.own P w K mg base N qual scope f cd A outer s H E) body t):dE (bU (bA P w) P w K mg base N qual scope f cd A outer s H E) body t:=by
 intro pins s1 σ H1 D I q;exact dX (h pins s1 σ H1 D (I.wish _) q) (λfl s2 z=>z.fA) λex s2 z=>WK z
theorem aT.uN{x:Str}{st:Stmt}{f:Addr}{fd:FuncData}{ps:List Str}{k:Nat}{sp:Sp}(F:aT K x qual st f fd)(S:bh N ps (ay st))(len:∀vs H Q E,sp vs H Q E->vs.length=ps.length)(hbody:∀(cdv:Value) (A:Around) (outer:List Env) (s:Shared) (H:Hp) (vs:List V) (Q:VK) (E:XK),bS k (A.deeper (envOfC qual (ay st) s.heap.objs.size f cdv))->sp vs H Q E->∃t,dE (Cx.own P w K mg base N qual (ay st) f cdv A outer s H E) (f9 st) t/\t {nx:=λ_ H'=>Q .non H',rt:=Q} (start N vs) H):aN P w K mg base (bA P w) (k+1) f fd ps sp:=
 F.uO S len λcdv A outer s H vs Q E hr hsp=>by
  obtain⟨t,h1,h2⟩:=hbody cdv A outer s H vs Q E hr hsp;exact⟨t,h1.own,h2⟩
end
noncomputable def YQ(te:TE):TE:=λσ H Q=>te σ H λx H1=>∃(t:Addr) (i j:Int),x = .ref t/\H1 t=some (.tup [.int i,.int j])/\i.natAbs.log2<1920/\j.natAbs.log2<1920/\∀y:Str,Q (.str y) H1
theorem Zb{i j:Int}(hi:i.natAbs.log2<1920)(hj:j.natAbs.log2<1920):(tupleText [(toString i:Str),(toString j:Str)]).length<=10000:=by
 have h:=tupleText_len_le [(toString i:Str),(toString j:Str)];have e1:=Fv (by decide) hi;have e2:=Fv (by decide) hj;simp only[cI,En,jb,List.sum_nil,dr,Em,Pa]at h;omega
section
variable {X:Cx} {e:Expr} {te:TE} {a:Str} {j} {p1 p2 pos:Pos}
theorem Ko(he:PE X e te)(hgd:X.A.guards=some [])(hu:X.A.units<cLine)(h0:(Str.empty++a).length<=10000:=by decide):PE X (.JoinedStr [.Constant (.str a) j p1,.FormattedValue e 114 none p2] pos) (YQ te):=by
 intro pins s σ H Q I h;refine wpAny_JoinedStr ?_;show wpAny _ _ (eval (.Constant (.str a) j p1) X.env) _ _ _;have hs0:(Str.empty++a).length<=sizeLine:=bN h0 (by decide);refine Fg ⟨a,_,rfl,hs0,?_⟩;show wpAny _ _ (eval (.FormattedValue e 114 none p2) X.env) _ _ _;refine wpAny_FormattedValue_repr (aG (he pins _ σ H _ (I.tok _) h) λv s1 ⟨x,H1,I1,rx,t,i,jj,ex,ht,hi,hj,q⟩=>?_);subst ex;obtain rfl:v=Value.ref t:=rx;obtain⟨its,r,tp,hz⟩:=I1.tuple (aQ.of ht);obtain⟨u1,u2,rfl,r1,r2⟩:=Vals.two r;obtain⟨t1,rfl⟩:=(show ∃t,u1=Value.int i t from r1);obtain⟨t2,rfl⟩:=(show ∃t,u2=Value.int jj t from r2);have hl:=Zb hi hj;have hl1:(tupleText [(toString i:Str),(toString jj:Str)]).length<=sizeLine:=bN hl (by decide);have hl2:(Str.empty++a++tupleText [(toString i:Str),(toString jj:Str)]).length<=sizeLine:=by
  rw[nW,lS];omega
 obtain⟨o,g1,g2,n,g3⟩:=(show s1.heap.IsTuple t _ from tp);refine wpAny_pyReprObj_tuple (ts:=[(toString i:Str),(toString jj:Str)]) ?_ hgd (λc hc=>nomatch hc) hu g1 g3 (.cons ?_ (.cons ?_ .nil)) (λu tk=>?_) hl1
 ·exact⟨o,g1,g2⟩
 ·exact ReprIs.int t1 hi
 ·exact ReprIs.int t2 hj
 ·refine wpAny_formatField_str ?_ ?_ hl1
  ·exact⟨_,_,rfl,hl2,hl2,.str _,H1,(I1.tok _).tok _,⟨_,rfl⟩,q _⟩
  ·exact⟨_,_,rfl,hl2,hl2,.str _,H1,((I1.tok _).tok _).tok _,⟨_,rfl⟩,q _⟩
end
end L2
namespace My
open PySem PySem.Spec PyProof.Rows L2
abbrev iY (n:Nat) (z:Int):Prop:=0<=z/\z<(n:Int)
noncomputable def firstBad(n:Nat):List (Int × Int)->Option Int
 | []=>none
 |z::r=>if iY n z.1 then if iY n z.2 then firstBad n r else some z.2 else some z.1
theorem tK{n:Nat}{z:Int × Int}{r:List (Int × Int)}:firstBad n (z::r)=if iY n z.1 then if iY n z.2 then firstBad n r else some z.2 else some z.1:=rfl
noncomputable def jY(H:Hp)(z:Int × Int)(v:V):Prop:=∃t,v = .ref t/\H t=some (.tup [.int z.1,.int z.2])
noncomputable def kj(K:W.Frag)(H:Hp)(a:Addr)(zs:List (Int × Int)):Prop:=∃vs,ai K H a vs/\Paired (jY H) zs vs
theorem jY.same{H H':Hp}(s:Same H H'){z:Int × Int}{v:V}(h:jY H z v):jY H' z v:=let⟨t,e,q⟩:=h;⟨t,e,s _ _ q⟩
theorem kj.same{K:W.Frag}{H H':Hp}{a:Addr}{zs:List (Int × Int)}(s:Same H H')(h:kj K H a zs):kj K H' a zs:=let⟨vs,e,q⟩:=h;⟨vs,s.seq e,Paired.c5 q λ_ _ z=>z.same s⟩
noncomputable def kA(z:Int):Prop:=z.natAbs.log2<1920
theorem ql{α:Type}{l:List α}{i:Nat}{x:α}(h:l[i]?=some x):l.drop i=x::l.drop (i+1):=by
 obtain⟨hi,e⟩:=cG.mp h;rw[List.drop_eq_getElem_cons hi,e]
noncomputable def oO(v:V)(H:Hp):Prop:=∃(t:Addr) (i j:Int),v = .ref t/\H t=some (.tup [.int i,.int j])/\i.natAbs.log2<1920/\j.natAbs.log2<1920
noncomputable def bothW(R:Nat->Nat->Bool)(p:Nat × Nat):Bool:=R p.1 p.2&&R p.2 p.1
noncomputable def cH(g g':Nat->Nat->V)(p:Nat × Nat):Bool:=decide (g p.1 p.2 = .non)||decide (g' p.1 p.2 = .non)
theorem pe{n:Nat}(h:n<24):((n:Int)).natAbs.log2<1920:=by
 rw[rP]
 by_cases h0:n=0
 ·rw[h0];decide
 ·exact(wJ h0).mpr (cg h (bN (by decide:24<=2 ^ 5) (jd (by decide) (by decide))))
section
variable {P:Program} {w:World} {K:W.Frag} {mg:Str->Option Value} {base:Heap} {f:Addr} {fd:FuncData} {a0 a1 a2 a3 a4 a5 a6 a7 a8 a9 a10 a11 a12 a13 a14 aE:Addr}
abbrev Bk:Stmt:=inClass (top 5) 0
theorem Lf:bh ["self","things"] ["self","things"] (ay Bk):=⟨rfl,rfl,rfl,by decide +kernel,rfl,by decide +kernel,by decide +kernel⟩
theorem Vo {fI:Addr} (F:aT K "__init__" "NoOrder.__init__" Bk f fd) (Er:kb mg a0 a1 a2 a3 a4 a5 a6 a7 a8 a9 a10 a11 a12 a13 a14 aE) (BI:nk K aE) (ic:iZ K a9 fI) (lF:jC K a9 "things"):aN P w K mg base bf 1 f fd ["self","things"] (gP a9 "things" oO):=by
 refine F.ok Lf (λvs H Q E h=>?_) (λcdv A outer s H vs Q E hr h=>?_)
 ·obtain⟨e,v,rfl,_⟩:=h
  rfl
 ·obtain⟨e,v,rfl,he,⟨t,i,j,rfl,ht,hi,hj⟩,kk⟩:=h
  have nd:=Lf.nd;refine⟨_,(ao (c9 (uX rfl Er.ClimbError BI.rd BI.sp BI.fc (ae (pv 0) (ae (Ko (pv 1) hr.gd hr.N3) ag))))
   (aq (u0 (pv 0) (pv 1) rfl))),?_⟩
  refine⟨_,rfl,_,rfl,t,i,j,rfl,ht,hi,hj,λy=>⟨e,a9,fI,_,rfl,he,ic,?_⟩⟩;refine⟨_,rfl,_,rfl,e,a9,rfl,ak,lF.xs,λdx hdx=>?_⟩;have hne:dx≠e:=λz=>by rw[z,ak]at hdx;cases hdx
  refine kk dx _ (by rw[aA hne]at hdx;exact hdx) ak (by rw[aA hne,ak]) λb h1 h2=>?_;rw[aA h1,aA h2,aA h1]
abbrev Bj:Stmt:=inClass (top 6) 0
theorem Le:bh ["self","things"] ["self","things"] (ay Bj):=⟨rfl,rfl,rfl,by decide +kernel,rfl,by decide +kernel,by decide +kernel⟩
theorem Vn {fI:Addr} (F:aT K "__init__" "NoJoin.__init__" Bj f fd) (Er:kb mg a0 a1 a2 a3 a4 a5 a6 a7 a8 a9 a10 a11 a12 a13 a14 aE) (BI:nk K aE) (ic:iZ K a5 fI) (lE:jC K a5 "things"):aN P w K mg base bf 1 f fd ["self","things"] (gP a5 "things" oO):=by
 refine F.ok Le (λvs H Q E h=>?_) (λcdv A outer s H vs Q E hr h=>?_)
 ·obtain⟨e,v,rfl,_⟩:=h
  rfl
 ·obtain⟨e,v,rfl,he,⟨t,i,j,rfl,ht,hi,hj⟩,kk⟩:=h
  have nd:=Le.nd;refine⟨_,(ao (c9 (uX rfl Er.ClimbError BI.rd BI.sp BI.fc (ae (pv 0) (ae (Ko (pv 1) hr.gd hr.N3) ag))))
   (aq (u0 (pv 0) (pv 1) rfl))),?_⟩
  refine⟨_,rfl,_,rfl,t,i,j,rfl,ht,hi,hj,λy=>⟨e,a5,fI,_,rfl,he,ic,?_⟩⟩;refine⟨_,rfl,_,rfl,e,a5,rfl,ak,lE.xs,λdx hdx=>?_⟩;have hne:dx≠e:=λz=>by rw[z,ak]at hdx;cases hdx
  refine kk dx _ (by rw[aA hne]at hdx;exact hdx) ak (by rw[aA hne,ak]) λb h1 h2=>?_;rw[aA h1,aA h2,aA h1]
noncomputable def CJ(cC:Addr):Sp:=λvs H Q E=>∃n:Int,vs = [.int n]/\((1<=n/\n<=24)->∀H',Same H H'->Q .non H')/\(¬ (1<=n/\n<=24)->∀H',Same H H'->E (.ref cC) none H')
theorem Wm (F:aT K "need_count" "need_count" BK f fd) (T:Txt mg) (Er:kb mg a0 a1 a2 a3 a4 a5 a6 a7 a8 a9 a10 a11 a12 a13 a14 aE) (rF:W.excIn K a2 jz "ValueError.__new__" = true) (oj:aF P w K mg base "is_whole" ["value"] 1 vK) :
  aN P w K mg base (bA P w) 2 f fd ["count"] (CJ a2):=by
 refine F.uO Ms (λvs H Q E h=>?_) (λcdv A outer s H vs Q E hr h=>?_)
 ·obtain⟨n,rfl,_⟩:=h
  rfl
 ·obtain⟨n,rfl,k1,k2⟩:=h
  have nd:=Ms.nd;obtain⟨t24,yx⟩:=T.most;refine⟨_,(aq (bq (PW.pt (fN (gJ (dh (bj oj hr rfl (ae (pv 0) ag)))) (gC (gJ (Xl uT uT aj (pv 0) (eE (v:=.int 24) rfl yx ⟨_,rfl⟩)))))) (aq (Xi K3 Er.NoCount rF Fl rfl rfl rfl (ae bz ag))) bx)),?_⟩;refine⟨_,rfl,⟨n,rfl⟩,λv H1 s1 hv=>?_⟩;subst hv;refine⟨true,rfl,aI ?_⟩;refine⟨_,rfl,_,_,rfl,rfl,_,rfl,?_⟩
  by_cases h0:1<=n
  ·rw[az (bK h0)]
   refine⟨_,_,rfl,rfl,_,rfl,?_⟩
   by_cases h1:n<=24
   ·rw[bK h1]
    exact aI (k1 ⟨h0,h1⟩ _ s1)
   ·rw[bE h1]
    exact a_ ⟨by show 1<=sizeLine;decide,k2 (λz=>h1 z.2) _ s1⟩
  ·rw[au (by rw[bE h0];exact bY)]
   exact⟨_,rfl,a_ ⟨by show 1<=sizeLine;decide,k2 (λz=>h0 z.1) _ s1⟩⟩
noncomputable def CP(K:W.Frag)(cT:Addr):Sp:=λvs H Q E=>∃(n a:Nat) (zs:List (Int × Int)),vs = [.int n,.ref a]/\kj K H a zs/\(∀z∈zs,kA z.1/\kA z.2)/\(firstBad n zs=none->∀H',Same H H'->Q .non H') /\
 (∀z,firstBad n zs=some z->∀dx H',Same H H'->H' dx=some (.xd [("thing", .int z)])->E (.ref cT) (some dx) H')
theorem Wq (F:aT K "need_pairs" "need_pairs" BP f fd) (T:Txt mg) (tH:fC P w K mg base "need_thing" ["count","number"] 3 (CQ a12)):aN P w K mg base (bA P w) 4 f fd ["count","pairs"] (CP K a12):=by
 refine F.uN Mv (λvs H Q E h=>?_) (λcdv A outer s H vs Q E hr h=>?_)
 ·obtain⟨n,a,zs,rfl,_⟩:=h
  rfl
 ·obtain⟨n,a,zs,rfl,⟨vs,hl,hp⟩,hs,k1,k2⟩:=h
  have nd:=Mv.nd;refine⟨_,(aq (b_ uW rfl (dJ (K:=K) rfl (pv 1)) (aY (i:=2) nd rfl (Or.inl rfl))
   (ao (c9 (oV tH Ax hr rfl (ae (pv 0) (ae (aH (cW (K:=K) rfl) (pv 2) aj (λ_ _=>rfl)) ag))))
   (aq (c9 (oV tH Ax hr rfl (ae (pv 0) (ae (aH (cW (K:=K) rfl) (pv 2) aj (λ_ _=>rfl)) ag)))))))),?_⟩
  refine⟨_,rfl,a,rfl,⟨_,hl⟩,jn (K:=K) (a:=a) (xs:=vs) (λi σ H2=>∃v,σ = [some (.int n),some (.ref a),v]/\Same H H2/\firstBad n zs=firstBad n (zs.drop i)) ⟨none,rfl,Same.refl _,by rw[nu]⟩ (λi σ H2 _ ⟨_,_,s2,_⟩=>s2.seq hl) ?_ ?_⟩
  ·rintro i y σ H2 hi ⟨v,rfl,s2,hf⟩
   obtain⟨z,hz,t,rfl,ht⟩:=jr hp hi;rw[ql hz,tK]at hf;obtain⟨b1,b2⟩:=hs z (eh hz);refine⟨_,rfl,_,rfl,t,_,0,_,rfl,rfl,.inl (.inl (s2 _ _ ht)),rfl,n,z.1,rfl,b1,λh1 H3 s3=>?_,λh1 dx H3 s3 hx=>k2 z.1 (by rw[hf,au h1]) dx _ (s2.trans s3) hx⟩;rw[az h1]at hf;refine⟨_,rfl,_,rfl,t,_,1,_,rfl,rfl,.inl (.inl ((s2.trans s3) _ _ ht)),rfl,n,z.2,rfl,b2,λh2 H4 s4=>?_,λh2 dx H4 s4 hx=>k2 z.2 (by rw[hf,au h2]) dx _ ((s2.trans s3).trans s4) hx⟩;rw[az h2]at hf;exact⟨_,rfl,(s2.trans s3).trans s4,hf⟩
  ·rintro σ H2 ⟨v,rfl,s2,hf⟩
   have e:zs.length=vs.length:=cV hp;rw[<- e,nr]at hf;exact k1 hf _ s2
noncomputable def CN(cO:Addr):Sp:=λvs H Q E=>∃(n:Nat) (v:V) (R:Nat->Nat->Bool),vs = [.int n,v]/\TT H v n (qf R)/\n<=24/\((bF n).find? (bothW R)=none->∀H',Same H H'->Q .non H') /\
 (∀p,(bF n).find? (bothW R)=some p->∀dx t H',Same H H'->H' t=some (.tup [.int (p.1:Nat),.int (p.2:Nat)])->H' dx=some (.xd [("things", .ref t)])->E (.ref cO) (some dx) H')
theorem Wo (F:aT K "need_one_way" "need_one_way" BM f fd) (T:Txt mg) (ot:aF P w K mg base "twos" ["count"] 1 vO) (xE:iX P w K mg base a9 "NoOrder" ["self","things"] 1 (gP a9 "things" oO)):aN P w K mg base (bA P w) 3 f fd ["count","reach"] (CN a9):=by
 refine F.uN Mu (λvs H Q E h=>?_) (λcdv A outer s H vs Q E hr h=>?_)
 ·obtain⟨n,v,R,rfl,_⟩:=h
  rfl
 ·obtain⟨n,v,R,rfl,ht,hn,k1,k2⟩:=h
  have nd:=Mu.nd;refine⟨_,(aq (b_ uW rfl (dJ (K:=K) rfl (bj ot hr rfl (ae (pv 0) ag))) (aY (i:=2) nd rfl (Or.inl rfl))
   (aq (bq (PW.pt (gK (dh (aH (cW (K:=K) rfl) (aH (cW (K:=K) rfl) (pv 1) (aH (cW (K:=K) rfl) (pv 2) aj (λ_ _=>rfl)) (λ_ _=>rfl)) (aH (cW (K:=K) rfl) (pv 2) aj (λ_ _=>rfl)) (λ_ _=>rfl))) (gN (dh (aH (cW (K:=K) rfl) (aH (cW (K:=K) rfl) (pv 1) (aH (cW (K:=K) rfl) (pv 2) aj (λ_ _=>rfl)) (λ_ _=>rfl)) (aH (cW (K:=K) rfl) (pv 2) aj (λ_ _=>rfl)) (λ_ _=>rfl)))))) (aq (qU xE u6 hr rfl rfl rfl (ae (pv 2) ag))) bx)))),?_⟩
  refine⟨_,rfl,n,rfl,hn,λl us H1 s1 hl hp=>⟨l,rfl,⟨_,ai.of hl⟩,jn (K:=K) (a:=l) (xs:=us) (λi σ H2=>∃v2,σ = [some (.int n),some v,v2]/\Same H1 H2/\(bF n).find? (bothW R)=((bF n).drop i).find? (bothW R)) ⟨none,rfl,Same.refl _,by rw[nu]⟩ (λi σ H2 _ ⟨_,_,s2,_⟩=>ai.of (s2 _ _ hl)) ?_ ?_⟩⟩
  ·rintro i y σ H2 hi ⟨v2,rfl,s2,hf⟩
   obtain⟨p,hp1,t,rfl,htt⟩:=jr hp hi;rw[ql hp1,i_]at hf;obtain⟨b1,b2⟩:=ux (eh hp1);obtain⟨a,vs,r1,rfl,q1,q2,q3,q4⟩:=(ht.same (s1.trans s2)).row (show p.1<n by omega);obtain⟨a',vs',r2,e',u3,Xp,Bd,Be⟩:=(ht.same (s1.trans s2)).row b2;cases e';rw[q1]at u3;cases u3;have fH:=s2 _ _ htt;refine⟨_,rfl,_,rfl,t,_,0,_,rfl,rfl,aQ.of fH,rfl,a,_,_,_,rfl,rfl,aQ.of q1,bp q3,_,rfl,t,_,1,_,rfl,rfl,aQ.of fH,rfl,r1,_,_,_,rfl,rfl,aQ.of q4,qd b2,_,rfl,bB (λh=>?_) (λh=>?_)⟩
   ·refine⟨_,rfl,_,rfl,t,_,1,_,rfl,rfl,aQ.of fH,rfl,a,_,_,_,rfl,rfl,aQ.of q1,bp Bd,_,rfl,t,_,0,_,rfl,rfl,aQ.of fH,rfl,r2,_,_,_,rfl,rfl,aQ.of Be,qd (show p.1<n by omega),_,rfl,bB (λh'=>?_) (λh'=>?_)⟩
    ·have hb:bothW R p=true:=by unfold bothW;rw[h,h'];rfl
     rw[hb]at hf;refine⟨_,rfl,by show 1<=sizeLine;decide,λe he=>?_⟩;exact o6 (λH' s'=>⟨t,_,_,rfl,s' _ _ fH,pe (by omega),pe (by omega)⟩) he λdx H3 s3 hx=>k2 p hf dx t _ (s1.trans (s2.trans s3)) (s3 _ _ fH) hx
    ·have hb:bothW R p=false:=by unfold bothW;rw[h,jB];simpa using h'
     rw[hb]at hf;exact⟨_,rfl,s2,hf⟩
   ·have hb:bothW R p=false:=by
     unfold bothW;rw[show R p.1 p.2=false by simpa using h,j_]
    rw[hb]at hf;refine aI ?_;exact⟨_,rfl,s2,hf⟩
  ·rintro σ H2 ⟨v2,rfl,s2,hf⟩
   have e:(bF n).length=us.length:=cV hp;rw[<- e,nr]at hf;exact k1 hf _ (s1.trans s2)
noncomputable def CK(cJ:Addr):Sp:=λvs H Q E=>∃(n:Nat) (v u:V) (g g':Nat->Nat->V),vs = [.int n,v,u]/\TT H v n g/\TT H u n g'/\n<=24/\((bF n).find? (cH g g')=none->∀H',Same H H'->Q .non H') /\
 (∀p,(bF n).find? (cH g g')=some p->∀dx t H',Same H H'->H' t=some (.tup [.int (p.1:Nat),.int (p.2:Nat)])->H' dx=some (.xd [("things", .ref t)])->E (.ref cJ) (some dx) H')
theorem Wn (F:aT K "need_ends" "need_ends" BL f fd) (T:Txt mg) (ot:aF P w K mg base "twos" ["count"] 1 vO) (xD:iX P w K mg base a5 "NoJoin" ["self","things"] 1 (gP a5 "things" oO)):aN P w K mg base (bA P w) 3 f fd ["count","joins","meets"] (CK a5):=by
 refine F.uN Mt (λvs H Q E h=>?_) (λcdv A outer s H vs Q E hr h=>?_)
 ·obtain⟨n,v,u,g,g',rfl,_⟩:=h
  rfl
 ·obtain⟨n,v,u,g,g',rfl,ht,ht',hn,k1,k2⟩:=h
  have nd:=Mt.nd;refine⟨_,(aq (b_ uW rfl (dJ (K:=K) rfl (bj ot hr rfl (ae (pv 0) ag))) (aY (i:=3) nd rfl (Or.inl rfl))
   (aq (bq (PW.pt (fN (aU oR (aH (cW (K:=K) rfl) (aH (cW (K:=K) rfl) (pv 1) (aH (cW (K:=K) rfl) (pv 3) aj (λ_ _=>rfl)) (λ_ _=>rfl)) (aH (cW (K:=K) rfl) (pv 3) aj (λ_ _=>rfl)) (λ_ _=>rfl)) gB (aP _)) (gC (aU oR (aH (cW (K:=K) rfl) (aH (cW (K:=K) rfl) (pv 2) (aH (cW (K:=K) rfl) (pv 3) aj (λ_ _=>rfl)) (λ_ _=>rfl)) (aH (cW (K:=K) rfl) (pv 3) aj (λ_ _=>rfl)) (λ_ _=>rfl)) gB (aP _))))) (aq (qU xD u6 hr rfl rfl rfl (ae (pv 3) ag))) bx)))),?_⟩
  refine⟨_,rfl,n,rfl,hn,λl us H1 s1 hl hp=>⟨l,rfl,⟨_,ai.of hl⟩,jn (K:=K) (a:=l) (xs:=us) (λi σ H2=>∃v2,σ = [some (.int n),some v,some u,v2]/\Same H1 H2/\(bF n).find? (cH g g')=((bF n).drop i).find? (cH g g')) ⟨none,rfl,Same.refl _,by rw[nu]⟩ (λi σ H2 _ ⟨_,_,s2,_⟩=>ai.of (s2 _ _ hl)) ?_ ?_⟩⟩
  ·rintro i y σ H2 hi ⟨v2,rfl,s2,hf⟩
   obtain⟨p,hp1,t,rfl,htt⟩:=jr hp hi;rw[ql hp1,i_]at hf;obtain⟨b1,b2⟩:=ux (eh hp1);have hp0:p.1<n:=by omega
   obtain⟨a,vs,r1,rfl,q1,q2,q3,q4⟩:=(ht.same (s1.trans s2)).row hp0;obtain⟨a',vs',r2,rfl,u3,Xp,Bd,Be⟩:=(ht'.same (s1.trans s2)).row hp0;have fH:=s2 _ _ htt;refine⟨_,rfl,_,rfl,t,_,0,_,rfl,rfl,aQ.of fH,rfl,a,_,_,_,rfl,rfl,aQ.of q1,bp q3,_,rfl,t,_,1,_,rfl,rfl,aQ.of fH,rfl,r1,_,_,_,rfl,rfl,aQ.of q4,qd b2,rfl,_,rfl,?_⟩
   by_cases n1:g p.1 p.2 = .non
   ·have hb:cH g g' p=true:=by unfold cH;rw[bK n1];rfl
    rw[hb]at hf;rw[bK n1];refine a_ (a_ ⟨_,rfl,by show 1<=sizeLine;decide,λe he=>?_⟩);exact o6 (λH' s'=>⟨t,_,_,rfl,s' _ _ fH,pe (by omega),pe (by omega)⟩) he λdx H3 s3 hx=>k2 p hf dx t _ (s1.trans (s2.trans s3)) (s3 _ _ fH) hx
   ·rw[bE n1]
    refine aI ?_;refine⟨_,rfl,_,rfl,t,_,0,_,rfl,rfl,aQ.of fH,rfl,a',_,_,_,rfl,rfl,aQ.of u3,bp Bd,_,rfl,t,_,1,_,rfl,rfl,aQ.of fH,rfl,r2,_,_,_,rfl,rfl,aQ.of Be,qd b2,rfl,_,rfl,?_⟩
    by_cases n2:g' p.1 p.2 = .non
    ·have hb:cH g g' p=true:=by unfold cH;rw[bK n2,wm]
     rw[hb]at hf;rw[bK n2];refine a_ ⟨_,rfl,by show 1<=sizeLine;decide,λe he=>?_⟩;exact o6 (λH' s'=>⟨t,_,_,rfl,s' _ _ fH,pe (by omega),pe (by omega)⟩) he λdx H3 s3 hx=>k2 p hf dx t _ (s1.trans (s2.trans s3)) (s3 _ _ fH) hx
    ·have hb:cH g g' p=false:=by unfold cH;rw[bE n1,bE n2];rfl
     rw[hb]at hf;rw[bE n2];refine aI ?_;exact⟨_,rfl,s2,hf⟩
  ·rintro σ H2 ⟨v2,rfl,s2,hf⟩
   have e:(bF n).length=us.length:=cV hp;rw[<- e,nr]at hf;exact k1 hf _ (s1.trans s2)
end
theorem QF{n:Nat}{R:Nat->Nat->Bool}{a b:Nat}(h:∀c,c<n->¬ ∀x,x<n->R c x=(R a x&&R b x)):bC n R a b = .non:=by
 unfold bC;rw[ur λc hc e=>h c hc (uo e)];rfl
noncomputable def ft(ps:List (Nat × Nat)):List (Int × Int):=ps.map λp=>((p.1:Int),(p.2:Int))
theorem zz{n:Nat}:∀{zs:List (Int × Int)},firstBad n zs=none->∃ps:List (Nat × Nat),zs=ft ps/\∀p∈ps,p.1<n/\p.2<n
 | [],_=>⟨[],rfl,λ_ h=>nomatch h⟩
 |z::r,h=>by
  rw[tK]at h
  by_cases h1:iY n z.1
  ·rw[az h1]at h
   by_cases h2:iY n z.2
   ·rw[az h2]at h
    obtain⟨ps,e,q⟩:=zz h;refine⟨(z.1.toNat,z.2.toNat)::ps,?_,λp hp=>?_⟩
    ·rw[e]
     unfold ft;rw[cI]
     congr 1
     show z=((z.1.toNat:Int),(z.2.toNat:Int));rw[wu h1.1,wu h2.1]
    ·rcases bu.mp hp with rfl|hp
     ·exact⟨by show z.1.toNat<n;omega,by show z.2.toNat<n;omega⟩
     ·exact q p hp
   ·rw[au h2]at h;cases h
  ·rw[au h1]at h;cases h
theorem kj.nat{K:W.Frag}{H:Hp}{a:Addr}{ps:List (Nat × Nat)}(h:kj K H a (ft ps)):wO K H a ps:=by
 obtain⟨vs,e,q⟩:=h;refine⟨vs,e,?_⟩;have:∀{ps:List (Nat × Nat)} {vs:List V},Paired (jY H) (ft ps) vs->Paired (cY H) ps vs:=by
  intro ps
  induction ps with
  |nil=>intro vs h;cases h;exact .nil
  |cons p r ih=>intro vs h;cases h with|cons x t=>exact .cons x (ih t)
 exact this q
theorem Gh{n:Nat}{R:Nat->Nat->Bool}(refl:∀a,a<n->R a a=true)(h:(bF n).find? (bothW R)=none):∀a b,a<n->b<n->R a b=true->R b a=true->a=b:=by
 have key:∀a b,a<b->b<n->¬ (R a b=true/\R b a=true):=by
  intro a b hab hb ⟨h1,h2⟩;have hm:(a,b)∈bF n:=by
   unfold bF;rw[wC];refine⟨a,by simp;omega,?_⟩;rw[cU];exact⟨b - (a+1),by simp;omega,by rw[Fd];exact⟨rfl,by omega⟩⟩
  have:=List.find?_eq_none.mp h (a,b) hm;unfold bothW at this;rw[h1,h2]at this;exact this rfl
 intro a b ha hb h1 h2
 rcases Nat.lt_trichotomy a b with q|q|q
 ·exact absurd ⟨h1,h2⟩ (key a b q hb)
 ·exact q
 ·exact absurd ⟨h2,h1⟩ (key b a q ha)
section
variable {P:Program} {w:World} {K:W.Frag} {mg:Str->Option Value} {base:Heap} {f:Addr} {fd:FuncData} {a0 a1 a2 a3 a4 a5 a6 a7 a8 a9 a10 a11 a12 a13 a14 aE:Addr}
noncomputable def Ct(K:W.Frag)(C cC cT cO cJ:Addr):Sp:=λvs H Q E=>∃(p dx a:Nat) (c:Int) (zs:List (Int × Int)),vs = [.ref p,.int c,.ref a]/\H p=some (.ins C dx [])/\kj K H a zs/\(∀z∈zs,kA z.1/\kA z.2) /\
 (¬ (1<=c/\c<=24)->∀H',Same H H'->E (.ref cC) none H') /\
 ∀n:Nat,c=(n:Int)->1<=n->n<=24 ->
  (∀z,firstBad n zs=some z->∀d H',Same H H'->H' d=some (.xd [("thing", .int z)])->E (.ref cT) (some d) H') /\
  ∀ps R,zs=ft ps->(∀p∈ps,p.1<n/\p.2<n)->Ev.gR n ps R ->
   (∀q,(bF n).find? (bothW R)=some q->∀d t H',Same H H'->H' t=some (.tup [.int (q.1:Nat),.int (q.2:Nat)])->H' d=some (.xd [("things", .ref t)])->E (.ref cO) (some d) H') /\
   ((bF n).find? (bothW R)=none ->
    (∀q,(bF n).find? (cH (bC n R) (bC n λa b=>R b a))=some q->∀d t H',Same H H'->H' t=some (.tup [.int (q.1:Nat),.int (q.2:Nat)])->H' d=some (.xd [("things", .ref t)])->E (.ref cJ) (some d) H') /\
    ((bF n).find? (cH (bC n R) (bC n λa b=>R b a))=none->∀H',(∀b o,H b=some o->b≠p->H' b=some o)->nL C H' p n R->Q .non H'))
theorem Wj {C:Addr} (F:aT K "__init__" "Order.__init__" vg f fd) (T:Txt mg) (TC:pG K C)
  (ym:fC P w K mg base "need_count" ["count"] 2 (CJ a2)) (yp:fC P w K mg base "need_pairs" ["count","pairs"] 4 (CP K a12)) (yf:aF P w K mg base "reach_of" ["count","pairs"] 2 (C_ K))
  (yo:fC P w K mg base "need_one_way" ["count","reach"] 3 (CN a9)) (sW:aF P w K mg base "ends_of" ["rows"] 3 (Ck K)) (xG:aF P w K mg base "column" ["rows","place"] 1 Ce)
  (yn:fC P w K mg base "need_ends" ["count","joins","meets"] 3 (CK a5)) (ye:aF P w K mg base "pairs_of" ["count","reach"] 1 CV):aN P w K mg base (bA P w) 5 f fd ["self","count","pairs"] (Ct K C a2 a12 a9 a5):=by
 refine F.uO Li (λvs H Q E h=>?_) (λcdv A outer s H vs Q E hr h=>?_)
 ·obtain⟨p,dx,a,c,zs,rfl,_⟩:=h
  rfl
 ·obtain⟨p,dx,a,c,zs,rfl,hp,hps,hsm,kC,kk⟩:=h
  have nd:=Li.nd;refine⟨_,(ao (c9 (oV ym uV hr rfl (ae (pv 1) ag)))
   (ao (c9 (oV yp uV hr rfl (ae (pv 1) (ae (pv 2) ag))))
   (ao (aJ (i:=3) nd rfl (Or.inr rfl) (bj yf hr rfl (ae (pv 1) (ae (pv 2) ag))))
   (ao (c9 (oV yo uV hr rfl (ae (pv 1) (ae (pv 3) ag))))
   (ao (aJ (i:=4) nd rfl (Or.inl rfl) (bj sW hr rfl (ae (pv 3) ag)))
   (ao (aJ (i:=5) nd rfl (Or.inl rfl) (bj sW hr rfl (ae (dg (own:=["thing"]) (fr:=[("reach", 3)]) rfl (cM (ay vg) ["self","count","pairs","reach","joins","meets"] rfl rfl (by decide +kernel)) (cS rfl T.range (ae (pv 1) ag)) (λ_ _ _ _=>⟨(aY (i:=0) (by decide +kernel:(["thing","reach"]:List Str).Nodup) rfl (Or.inl rfl)),dz,(bj xG hr rfl (ae (pv 1) (ae (pv 0) ag)))⟩)) ag)))
   (ao (c9 (oV yn uV hr rfl (ae (pv 1) (ae (pv 4) (ae (pv 5) ag (bw nofun)) (bw nofun)) (bw nofun))))
   (ao (qT (K:=K) rfl (pv 0) (pv 1) rfl)
   (ao (qT (K:=K) rfl (pv 0) (bj ye hr rfl (ae (pv 1) (ae (pv 3) ag))) rfl)
   (ao (qT (K:=K) rfl (pv 0) (pv 3) rfl)
   (ao (qT (K:=K) rfl (pv 0) (pv 4) rfl)
   (aq (qT (K:=K) rfl (pv 0) (pv 5) rfl))))))))))))),?_⟩
  refine⟨_,rfl,c,rfl,λhc H1 s1=>?_,λhc H1 s1=>kC hc _ s1⟩;obtain⟨n,rfl⟩:∃n:Nat,c=n:=⟨c.toNat,by omega⟩;have h1:1<=n:=by omega
  have hn:n<=24:=by omega
  have en:((n:Int)).toNat=n:=bJ n;obtain⟨kT,kR⟩:=kk n rfl h1 hn;refine⟨_,rfl,_,rfl,n,a,zs,rfl,hps.same s1,hsm,λhb H2 s2=>?_,λz hz d H2 s2 hd=>kT z hz d _ (s1.trans s2) hd⟩;obtain⟨ps,rfl,hbb⟩:=zz hb;have ju:=s1.trans s2;refine⟨_,rfl,_,rfl,n,a,ps,rfl,(hps.same ju).nat,hn,hbb,λvr H3 R s3 hC ht=>?_⟩;obtain⟨kO,kJ⟩:=kR ps R rfl hbb hC;have o7:=ju.trans s3;refine⟨_,rfl,_,rfl,n,vr,R,rfl,ht,hn,λh0 H4 s4=>?_,λq hq d t H4 s4 oB hd=>kO q hq d t _ (o7.trans s4) oB hd⟩;obtain⟨kN,kQ⟩:=kJ h0;have anti:=Gh hC.refl h0;have dis:∀i j,i<n->j<n->(∀b,b<n->R i b=R j b)->i=j:=λi j hi hj h=>anti i j hi hj (by rw[h j hj];exact hC.refl j hj) (by rw[<- h i hi];exact hC.refl i hi);have Ql:∀i j,i<n->j<n->(∀b,b<n->R b i=R b j)->i=j:=λi j hi hj h=>anti i j hi hj (by rw[<- h i hi];exact hC.refl i hi) (by rw[h j hj];exact hC.refl j hj);obtain⟨ra,us,rfl,q1,q2⟩:=id (ht.same s4);refine⟨_,rfl,false,ra,n,us,R,rfl,aQ.of q1,q2,hn,dis,λvj H5 s5 htj=>?_⟩;refine⟨_,rfl,n,rfl,(bH (by omega)).1,(bH (by omega)).2,λD hD=>?_⟩;refine qh (λi v H=>∃b,v = .ref b/\b≠D/\H b=some (.tup (bL n λj=>R j i))) src_range hD (dM (by omega)) (λi v H H' s ⟨b,e,hb,q⟩=>⟨b,e,hb,s _ _ hb q⟩) (λi H6 Kt hi hs hy hk=>?_) (λH6 ys hs hl t7=>?_)
  ·obtain⟨zs,hz⟩:=hy
   have hin:i<n:=by omega
   have Ij:=((ht.same s4).same s5).same hs;refine⟨_,rfl,_,rfl,⟨_,n,i,_,by simp,Ij,hin,hn⟩,λv H7 s7 hv=>?_⟩;obtain⟨b,rfl,b1,b2⟩:=hv _ n i _ (by simp) Ij hin;exact hk _ H7 s7 ⟨b,rfl,(λe=>by rw[e,hz]at b1;cases b1),b2⟩
  rw[en]at t7;have X2:jh H6 n (λa b=>R b a) ys:=Paired.c5 t7 λi u ⟨b,e,_,q⟩=>⟨b,e,q⟩;refine⟨true,D,n,ys,_,rfl,ai.of hl,X2,hn,Ql,λvm H7 s7 Im=>?_⟩;have Il:=(htj.same hs).same s7;have mU:Same H H7:=((((ju.trans s3).trans s4).trans s5).trans hs).trans s7;refine⟨_,rfl,_,rfl,_,rfl,n,vj,vm,_,_,rfl,Il,Im,hn,λh9 H8 s8=>?_,λq hq d t H8 s8 oC hd=>kN q hq d t _ (mU.trans s8) oC hd⟩;have K9:=mU.trans s8;have hp8:H8 p=some (.ins C dx []):=K9 _ _ hp;have Io:TT H8 (.ref ra) n (qf R):=((((ht.same s4).same s5).same hs).same s7).same s8;refine⟨_,rfl,_,rfl,p,C,dx,[],rfl,hp8,TC.cl,TC.nC,by show 0<1000;decide,?_⟩;refine⟨_,rfl,_,rfl,n,_,R,rfl,Io.ins hp8,hn,λvp H9 s9 hpp=>?_⟩;have hp9:=s9 _ _ (ak (H:=H8) (a:=p) (o:=.ins C dx (bV "count" (.int n) [])));have SQ:=(Io.ins hp8 (o:=.ins C dx (bV "count" (.int n) []))).same s9;have SJ:=((Il.same s8).ins hp8 (o:=.ins C dx (bV "count" (.int n) []))).same s9;have SM:=((Im.same s8).ins hp8 (o:=.ins C dx (bV "count" (.int n) []))).same s9;have l1:(bV "count" (V.int n) []).length<=1:=oG _ _ _;have l2:(bV "pairs" vp (bV "count" (V.int n) [])).length<=2:=bN (oG _ _ _) (by omega);have l3:(bV "reach" (V.ref ra) (bV "pairs" vp (bV "count" (V.int n) []))).length<=3:=bN (oG _ _ _) (by omega);have l4:(bV "joins" vj (bV "reach" (V.ref ra) (bV "pairs" vp (bV "count" (V.int n) [])))).length<=4:=bN (oG _ _ _) (by omega);refine⟨_,rfl,p,C,dx,_,rfl,hp9,TC.cl,TC.nP,by omega,?_⟩;refine⟨_,rfl,_,rfl,p,C,dx,_,rfl,ak,TC.cl,TC.nR,by omega,?_⟩;refine⟨_,rfl,_,rfl,p,C,dx,_,rfl,ak,TC.cl,TC.nJ,by omega,?_⟩;refine⟨_,rfl,_,rfl,p,C,dx,_,rfl,ak,TC.cl,TC.nM,by omega,?_⟩;rw[DG,DG,DG];refine kQ h9 _ (λb o e HB=>?_) ⟨dx,vp,_,vj,vm,ak,hpp.ins hp9,SQ.ins hp9,SJ.ins hp9,SM.ins hp9⟩;rw[aA HB];refine s9 _ _ ?_;rw[aA HB];exact K9 _ _ e
end
theorem Np(p:Nat->Bool):∀n,(((List.range n).filter p).map λb=>2 ^ b).sum=dv p n
 |0=>rfl
 |n+1=>by
  rw[nB,Ei,gW,List.sum_append,Np p n];show _=if p n=true then dv p n ||| 2 ^ n else dv p n
  by_cases h:p n=true
  ·rw[az h,List.filter_cons_of_pos h,List.filter_nil]
   have:=OJ (Gd p n) 1;rw[Nat.mul_one]at this;rw[Nat.or_comm,<- this];simp[Nat.add_comm]
  ·rw[au h,List.filter_cons_of_neg h]
   simp
theorem Yz(l:List Nat):(l.map λb=>((2 ^ b:Nat):Int)).sum=(((l.map λb=>2 ^ b).sum:Nat):Int):=by
 induction l with
 |nil=>rfl
 |cons x r ih=>rw[cI,cI,jb,jb,ih];push_cast;rfl
section
variable {P:Program} {w:World} {K:W.Frag} {mg:Str->Option Value} {base:Heap} {f:Addr} {fd:FuncData}
abbrev vw:Stmt:=top 64
theorem LQ:bh ["_law_ups_here","_law_found","_law_a"] ["_law_ups_here"] (ay vw):=⟨rfl,rfl,rfl,by decide +kernel,rfl,by decide +kernel,by decide +kernel⟩
noncomputable def Cg(K:W.Frag):Sp:=λvs H Q _=>∃(u n:Nat) (R:Nat->Nat->Bool) (us:List Nat),vs = [.ref u]/\ai K H u (us.map nV)/\cL n R us/\n<=24/\∀L ds H',Same H H'->H' L=some (.lst (ds.map nV))->cL n (λa b=>R b a) ds->Q (.ref L) H'
theorem Vv (F:aT K "_law_downs" "_law_downs" vw f fd) (T:Txt mg):aN P w K mg base bf 1 f fd ["_law_ups_here"] (Cg K):=by
 refine F.ok LQ (λvs H Q E h=>?_) (λcdv A outer s H vs Q E hr h=>?_)
 ·obtain⟨u,n,R,us,rfl,_⟩:=h
  rfl
 ·obtain⟨u,n,R,us,rfl,hu,hU,hn,kk⟩:=h
  have nd:=LQ.nd;have en:=hU.len';have b1:-(2 ^ 62)<=((us.map nV).length:Int)/\((us.map nV).length:Int)<2 ^ 62:=by rw[aB,hU.len];exact bH (by omega)
  refine⟨_,(ao (aJ (i:=1) nd rfl (Or.inl rfl) (b9 ag))
   (ao (b_ cy rfl (cS rfl T.range (ae (aR (cj (K:=K) rfl) rfl T.len cw (ae (pv 0) ag)) ag)) (aY (i:=2) nd rfl (Or.inr rfl))
   (aq (c9 (cR (K:=K) rfl fU lQ nQ k_ (pv 1) (ae (aR (P9 (K:=K) rfl rfl) rfl T.sum boot_sum (ae (dg (own:=["_law_b"]) (fr:=[("_law_ups_here", 0),("_law_a", 2)]) rfl (cM (ay vw) ["_law_ups_here","_law_found","_law_a"] rfl rfl (by decide +kernel)) (cS rfl T.range (ae (aR (cj (K:=K) rfl) rfl T.len cw (ae (pv 0) ag)) ag)) (λ_ _ _ _=>⟨(aY (i:=0) (by decide +kernel:(["_law_b","_law_ups_here","_law_a"]:List Str).Nodup) rfl (Or.inl rfl)),(oX (aU bQ (av gq (av lb (aH (aX (K:=K) rfl) (pv 1) (pv 0) (λ_ _=>rfl)) (pv 2)) aj) aj (aP _))),(av gw aj (pv 0))⟩)) ag)) ag)))))
   (aq (aS (pv 1))))),?_⟩
  refine⟨by show 0<=sizeLine;decide,λL hL=>?_⟩;have sk:∀{H4:Hp} {o:HO},Same H H4->Same H (upd H4 L o):=λs4 b o e=>by
   rw[aA (cF e hL)];exact s4 _ _ e
  refine⟨_,rfl,u,_,rfl,.inl ((Same.put hL).seq hu),_,rfl,b1.1,b1.2,dZ (lo:=0) (n:=(((us.map nV).length:Int)).toNat) (λi σ H2=>∃v2:Option V,σ = [some (.ref u),some (.ref L),v2]/\Same H H2/\H2 L=some (.lst (((List.range i).map λa=>dv (λb=>R b a) n).map nV))) ⟨none,rfl,Same.put hL,ak⟩ ?_ ?_⟩
  ·rintro i σ H2 hi ⟨v2,rfl,s2,hl2⟩
   rw[en]at hi;refine⟨_,rfl,.inl ⟨rfl,_,ai.of hl2⟩,?_⟩;refine⟨_,rfl,u,_,rfl,.inl (s2.seq hu),_,rfl,b1.1,b1.2,λD hD=>qi (λb=>R b i) (λb=>nV (2 ^ b)) src_range hD (by rw[en];exact dM hn) (λj H3 Kt Kf hj hs hkt hkf=>?_) (λH3 hs3 hl3=>?_)⟩
   ·rw[en]at hj
    refine⟨_,rfl,_,rfl,u,_,_,_,rfl,rfl,(s2.trans hs).seq hu,at0 (hU.get hj),_,rfl,_,_,rfl,rfl,by omega,_,_,rfl,rfl,rfl,_,rfl,?_⟩;rw[qe,hU.bit j i hj hi];refine bB (λh=>?_) (λh=>?_)
    ·refine⟨_,rfl,_,_,rfl,rfl,⟨by omega,by omega,by decide⟩,?_⟩
     have e:(1:Int)*2 ^ ((0:Int)+(j:Int)).toNat=((2 ^ j:Nat):Int):=by
      rw[fb,bJ,jE];norm_cast
     dsimp only;rw[e];exact hkt _ h (Same.refl _)
    ·exact hkf _ (by simpa using h) (Same.refl _)
   ·rw[en]at hl3
    have el:((List.range n).filter λb=>R b i).map (λb=>nV (2 ^ b))=(((List.range n).filter λb=>R b i).map λb=>((2 ^ b:Nat):Int)).map V.int:=by rw[iy];rfl
    rw[el]at hl3;refine⟨D,_,rfl,ai.of hl3,?_,λx hx=>?_,?_⟩
    ·rw[aB]
     exact bN (rY _ _) (by rw[jG];omega)
    ·obtain⟨b,hb,rfl⟩:=cU.mp hx
     have hb:b<n:=by simpa using(rZ.mp hb).1
     have:2 ^ b<=2 ^ 24:=jd (by decide) (by omega)
     constructor
     ·exact wt _
     ·have yx:(2:Nat) ^ 24=16777216:=by decide
      rw[yx]at this;exact Int.le_trans (Int.ofNat_le.mpr this) (by decide)
    ·rw[Yz,Np]
     refine⟨L,_,_,rfl,rfl,hs3 _ _ hl2,cP (by rw[aB,aB,jG];omega),?_⟩;refine⟨_,rfl,sk (s2.trans hs3),?_⟩;rw[ak,nB,gW,gW];rfl
  ·rintro σ H2 ⟨v2,rfl,s2,hl2⟩
   rw[en]at hl2;exact⟨_,rfl,kk L _ _ s2 hl2 (cL.of n λa b=>R b a)⟩
end
theorem Q6{n:Nat}(P:Nat × Nat->Bool)(i:Nat)(hi:i<n):((List.range' i (n - i)).flatMap λl=>(List.range (n - (l+1))).map λj=>(l,l+1+j)).find? P =
  match((List.range (n - (i+1))).map λj=>(i,i+1+j)).find? P with
  |some p=>some p
  |none=>((List.range' (i+1) (n - (i+1))).flatMap λl=>(List.range (n - (l+1))).map λj=>(l,l+1+j)).find? P:=by
 have e:n - i=(n - (i+1))+1:=by omega
 rw[e,List.range'_succ,List.flatMap_cons,List.find?_append];cases((List.range (n - (i+1))).map λj=>(i,i+1+j)).find? P<;>rfl
noncomputable def iK(n i:Nat):List (Nat × Nat):=(List.range' i (n - i)).flatMap λl=>(List.range (n - (l+1))).map λj=>(l,l+1+j)
noncomputable def j4(n i k:Nat):List (Nat × Nat):=(List.range' k (n - (i+1) - k)).map λj=>(i,i+1+j)
theorem Hq(n:Nat):iK n 0=bF n:=by unfold iK bF;rw[wL,List.range_eq_range']
theorem Hf{n:Nat}(P:Nat × Nat->Bool){i:Nat}(hi:i<n):(iK n i).find? P=((j4 n i 0).find? P).or ((iK n (i+1)).find? P):=by
 unfold iK j4;rw[Q6 P i hi,wL,List.range_eq_range'];cases((List.range' 0 (n - (i+1))).map λj=>(i,i+1+j)).find? P<;>rfl
theorem Hg{n:Nat}(P:Nat × Nat->Bool){i k:Nat}(hk:k<n - (i+1)):(j4 n i k).find? P=if P (i,i+1+k)then some (i,i+1+k)else(j4 n i (k+1)).find? P:=by
 unfold j4;have e:n - (i+1) - k=(n - (i+1) - (k+1))+1:=by omega
 rw[e,List.range'_succ,cI,i_];cases P (i,i+1+k)<;>rfl
theorem K7{n i:Nat}:j4 n i (n - (i+1)) = []:=by unfold j4;rw[Ey];rfl
theorem Ho{n:Nat}:iK n n = []:=by unfold iK;rw[Ey];rfl
theorem Jp{n:Nat}{R R':Nat->Nat->Bool}:∀{i:Nat},i<=n->(∀a b,a<n->b<n->R a b=R' a b)->eV n R i=eV n R' i
 |0,_,_=>rfl
 |i+1,hi,h=>by
  rw[eV,eV,Jp (by omega) h,z9 λb hb=>h i b (by omega) hb]
theorem G7{n:Nat}{R R':Nat->Nat->Bool}(h:∀a b,a<n->b<n->R a b=R' a b){a b:Nat}(ha:a<n)(hb:b<n):bC n R a b=bC n R' a b:=by
 unfold bC;rw[Jp (aO n) h,z9 (q:=λx=>R' a x&&R' b x) λx hx=>by rw[h a x ha hx,h b x hb hx]]
theorem yj{n:Nat}{ps:List (Nat × Nat)}{R R':Nat->Nat->Bool}(h:Ev.gR n ps R)(h':Ev.gR n ps R'):∀a b,a<n->b<n->R a b=R' a b:=λa b ha hb=>by
 rw[gQ];exact⟨h.least R' h'.refl h'.has h'.trans a b ha hb,h'.least R h.refl h.has h.trans a b ha hb⟩
theorem zy{α:Type}{p q:α->Bool}:∀{l:List α},(∀x∈l,p x=q x)->l.find? p=l.find? q
 | [],_=>rfl
 |x::r,h=>by
  rw[i_,i_,h x cK,zy λy hy=>h y (bT _ hy)]
theorem xB{n:Nat}{R R':Nat->Nat->Bool}(h:∀a b,a<n->b<n->R a b=R' a b):(bF n).find? (bothW R)=(bF n).find? (bothW R'):=
 zy λp hp=>by
  obtain⟨h1,h2⟩:=ux hp;unfold bothW;rw[h p.1 p.2 (by omega) h2,h p.2 p.1 h2 (by omega)]
theorem Js{n:Nat}{R R':Nat->Nat->Bool}(h:∀a b,a<n->b<n->R a b=R' a b):(bF n).find? (cH (bC n R) (bC n λa b=>R b a))=(bF n).find? (cH (bC n R') (bC n λa b=>R' b a)):=
 zy λp hp=>by
  obtain⟨h1,h2⟩:=ux hp;unfold cH;rw[G7 h (by omega) h2,G7 (R:=λa b=>R b a) (R':=λa b=>R' b a) (λa b ha hb=>h b a hb ha) (by omega) h2]
theorem zS(m:Nat):∀F:List Nat,inV (nV m) (F.map nV)=decide (m∈F)
 | []=>by simp[inV]
 |x::r=>by
  have ih:=zS m r;unfold inV at ih ⊢;rw[cI,nq,ih];have e:jR (nV x) (nV m)=decide (x=m):=by
   show((x:Int)==(m:Int))=decide (x=m);rw[gQ];simp;omega
  rw[e];rw[gQ];simp only[rH,kH,bu]
  constructor
  ·rintro(h|h)
   ·exact .inl h.symm
   ·exact .inr h
  ·rintro(h|h)
   ·exact .inl h.symm
   ·exact .inr h
theorem Hh(F:List Nat):(F.map nV).all jm=true:=by
 rw[jF];intro x hx;obtain⟨y,_,rfl⟩:=cU.mp hx;rfl
theorem cL.both{n:Nat}{R:Nat->Nat->Bool}{us:List Nat}(h:cL n R us){u v:Nat}(hu:u<n)(hv:v<n):us.getD u 0&&& us.getD v 0∈us ↔ ∃c,c<n/\∀x,x<n->R c x=(R u x&&R v x):=by
 constructor
 ·intro hm
  obtain⟨c,hc,e⟩:=lM hm;have hcn:c<n:=by rw[<- h.len];exact hc
  have e':us.getD c 0=us.getD u 0&&& us.getD v 0:=by rw[aZ,aK hc];exact e
  refine⟨c,hcn,λx hx=>?_⟩;rw[<- h.bit c x hcn hx,<- h.bit u x hu hx,<- h.bit v x hv hx,e',si]
 ·rintro⟨c,hc,hx⟩
  have e:us.getD c 0=us.getD u 0&&& us.getD v 0:=by
   refine wH λx=>?_;rw[si]
   by_cases hxn:x<n
   ·rw[h.bit c x hc hxn,h.bit u x hu hxn,h.bit v x hv hxn]
    exact hx x hxn
   ·have z:∀a,a<n->(us.getD a 0).testBit x=false:=λa ha=>EY (cg (h.lt a ha) (jd (by decide) (by omega)))
    rw[z c hc,z u hu,z v hv];rfl
  rw[<- e,aZ,aK (by rw[h.len];exact hc)];exact ja _
theorem cL.lack{n:Nat}{R:Nat->Nat->Bool}{us:List Nat}(h:cL n R us)(dis:∀i j,i<n->j<n->(∀b,b<n->R i b=R j b)->i=j){u v:Nat}(hu:u<n)(hv:v<n):decide (bC n R u v = .non) = !decide (us.getD u 0&&& us.getD v 0∈us):=by
 by_cases q:∃c,c<n/\∀x,x<n->R c x=(R u x&&R v x)
 ·obtain⟨c,hc,hx⟩:=id q
  rw[QG dis hc hx,bE (λz=>nomatch z),bK ((h.both hu hv).mpr q)];rfl
 ·rw[QF λc hc hx=>q ⟨c,hc,hx⟩,bK rfl,bE λz=>q ((h.both hu hv).mp z)]
  rfl
section
variable {P:Program} {w:World} {K:W.Frag} {mg:Str->Option Value} {base:Heap} {f:Addr} {fd:FuncData}
abbrev BG:Stmt:=top 65
theorem Mp:bh ["_law_ups_here","_law_count","_law_u","_law_downs_here","_law_v"] ["_law_ups_here"] (ay BG):=⟨rfl,rfl,rfl,by decide +kernel,rfl,by decide +kernel,by decide +kernel⟩
noncomputable def qb(n:Nat)(R:Nat->Nat->Bool)(H:Hp)(Q:V->Hp->Prop):Prop:=
 (∀q,(bF n).find? (bothW R)=some q->∀r t H',Same H H'->H' t=some (.tup [.int (q.1:Nat),.int (q.2:Nat)])->H' r=some (.tup [.str "NoOrder", .ref t])->Q (.ref r) H') /\
 ((bF n).find? (bothW R)=none ->
  (∀q,(bF n).find? (cH (bC n R) (bC n λa b=>R b a))=some q->∀r t H',Same H H'->H' t=some (.tup [.int (q.1:Nat),.int (q.2:Nat)])->H' r=some (.tup [.str "NoJoin", .ref t])->Q (.ref r) H') /\
  ((bF n).find? (cH (bC n R) (bC n λa b=>R b a))=none->∀r H',Same H H'->H' r=some (.tup [.str "", .non])->Q (.ref r) H'))
noncomputable def Dh(K:W.Frag):Sp:=λvs H Q _=>∃(u n:Nat) (R:Nat->Nat->Bool) (us:List Nat),vs = [.ref u]/\ai K H u (us.map nV)/\cL n R us/\n<=24/\(∀a,a<n->R a a=true)/\qb n R H Q
theorem Wf (F:aT K "_law_two_due" "_law_two_due" BG f fd) (T:Txt mg) (xN:aF P w K mg base "_law_downs" ["_law_ups_here"] 1 (Cg K)):aN P w K mg base bf 2 f fd ["_law_ups_here"] (Dh K):=by
 refine F.ok Mp (λvs H Q E h=>?_) (λcdv A outer s H vs Q E hr h=>?_)
 ·obtain⟨u,n,R,us,rfl,_⟩:=h
  rfl
 ·obtain⟨a,n,R,us,rfl,hu,hU,hn,refl,kO,kJ⟩:=h
  have nd:=Mp.nd;have en:((n:Int)).toNat=n:=bJ n;have qF:∀{i k:Nat},i<n->k<n - (i+1)->i+1+k<n:=λh1 h2=>by omega
  refine⟨_,(ao (aJ (i:=1) nd rfl (Or.inl rfl) (aR (cj (K:=K) rfl) rfl T.len cw (ae (pv 0) ag)))
   (ao (b_ cy rfl (cS rfl T.range (ae (pv 1) ag)) (aY (i:=2) nd rfl (Or.inl rfl))
   (aq (b_ cy rfl (qR rfl T.range (ae (av dI (pv 2) aj) (ae (pv 1) ag))) (aY (i:=4) nd rfl (Or.inl rfl))
   (aq (bq (PW.pt (gK (aU bQ (av gq (av lb (aH (aX (K:=K) rfl) (pv 0) (pv 2) (λ_ _=>rfl)) (pv 4)) aj) aj (aP _)) (gN (aU bQ (av gq (av lb (aH (aX (K:=K) rfl) (pv 0) (pv 4) (λ_ _=>rfl)) (pv 2)) aj) aj (aP _))))) (aq (aS (cZ (ae bz (ae (cZ (ae (pv 2) (ae (pv 4) ag))) ag))))) bx)))))
   (ao (aJ (i:=3) nd rfl (Or.inl rfl) (bj xN hr rfl (ae (pv 0) ag)))
   (ao (b_ cy rfl (cS rfl T.range (ae (pv 1) ag)) (aY (i:=2) nd rfl (Or.inl rfl))
   (aq (b_ cy rfl (qR rfl T.range (ae (av dI (pv 2) aj) (ae (pv 1) ag))) (aY (i:=4) nd rfl (Or.inl rfl))
   (aq (bq (PW.pt (fN (aU (J7 (K:=K) rfl) (av gq (aH (aX (K:=K) rfl) (pv 0) (pv 2) (λ_ _=>rfl)) (aH (aX (K:=K) rfl) (pv 0) (pv 4) (λ_ _=>rfl))) (pv 0) (by with_unfolding_all rfl)) (gC (aU (J7 (K:=K) rfl) (av gq (aH (aX (K:=K) rfl) (pv 3) (pv 2) (λ_ _=>rfl)) (aH (aX (K:=K) rfl) (pv 3) (pv 4) (λ_ _=>rfl))) (pv 3) (by with_unfolding_all rfl))))) (aq (aS (cZ (ae bz (ae (cZ (ae (pv 2) (ae (pv 4) ag))) ag))))) bx)))))
   (aq (aS (cZ (ae bz (ae gB ag))))))))),?_⟩
  refine⟨_,rfl,a,_,rfl,.inl hu,?_⟩;rw[aB,hU.len];dsimp only[aW];show bD _ _ _ [some (.ref a),some (.int n),none,none,none] _;refine⟨_,rfl,n,rfl,(bH (by omega)).1,(bH (by omega)).2,dZ (lo:=0) (n:=((n:Int)).toNat) (λi σ H'=>∃v2 v4:Option V,σ = [some (.ref a),some (.int n),v2,none,v4]/\Same H H'/\(bF n).find? (bothW R)=(iK n i).find? (bothW R))
   ⟨none,none,rfl,Same.refl _,by rw[Hq]⟩ ?_ ?_⟩
  ·rintro i σ H6 hi ⟨v2,v4,rfl,s6,jT⟩
   have hin:i<n:=by omega
   rw[Hf _ hin]at jT;have ec:((n:Int) - (0+(i:Int)+1)).toNat=n - (i+1):=by omega
   refine⟨_,rfl,_,_,rfl,rfl,_,rfl,(0+(i:Int)+1),n,rfl,⟨by omega,by omega,by omega,by omega⟩,dZ (lo:=0+(i:Int)+1) (n:=((n:Int) - (0+(i:Int)+1)).toNat) (λk σ H'=>∃v4:Option V,σ = [some (.ref a),some (.int n),some (.int (0+(i:Int))),none,v4]/\Same H H'/\(bF n).find? (bothW R)=((j4 n i k).find? (bothW R)).or ((iK n (i+1)).find? (bothW R)))
    ⟨_,rfl,s6,jT⟩ ?_ ?_⟩
   ·rintro k σ H7 hk ⟨v4,rfl,s7,cz⟩
    rw[ec]at hk;have hv:=qF hin hk;rw[Hg _ hk]at cz;have ev:(0:Int)+(i:Int)+1+(k:Int)=((i+1+k:Nat):Int):=by push_cast;omega
    have ei:(0:Int)+(i:Int)=(i:Int):=by omega
    rw[ev,ei];refine⟨_,rfl,_,rfl,a,_,_,_,rfl,rfl,s7.seq hu,bp (hU.get hin),_,rfl,_,_,rfl,rfl,by omega,_,_,rfl,rfl,rfl,_,rfl,?_⟩;rw[xA,hU.bit i (i+1+k) hin hv];refine bB (λh=>?_) (λh=>?_)
    ·refine⟨_,rfl,_,rfl,a,_,_,_,rfl,rfl,s7.seq hu,bp (hU.get hv),_,rfl,_,_,rfl,rfl,by omega,_,_,rfl,rfl,rfl,_,rfl,?_⟩
     rw[xA,hU.bit (i+1+k) i hv hin];refine bB (λh'=>?_) (λh'=>?_)
     ·have hb2:bothW R (i,i+1+k)=true:=by unfold bothW;rw[h,h'];rfl
      rw[az hb2]at cz;refine⟨_,rfl,_,rfl,by show 2<=sizeLine;decide,λt ht=>⟨by show 2<=sizeLine;decide,λr hr'=>?_⟩⟩;exact kO (i,i+1+k) (by rw[cz];rfl) r t _ (s7.trans ((Same.put ht).trans (Same.put hr'))) (Same.put hr' _ _ ak) ak
     ·have hb2:bothW R (i,i+1+k)=false:=by unfold bothW;rw[h,jB];simpa using h'
      rw[au (by rw[hb2];exact bY)]at cz;exact⟨_,rfl,s7,cz⟩
    ·have hb2:bothW R (i,i+1+k)=false:=by unfold bothW;rw[show R i (i+1+k)=false by simpa using h,j_]
     rw[au (by rw[hb2];exact bY)]at cz;exact aI ⟨_,rfl,s7,cz⟩
   ·rintro σ H7 ⟨v4,rfl,s7,cz⟩
    rw[ec,K7]at cz;exact⟨_,_,rfl,s7,cz⟩
  ·rintro σ H6 ⟨v2,v4,rfl,s6,jT⟩
   rw[en,Ho]at jT;obtain⟨kN,kQ⟩:=kJ jT;have anti:=Gh refl jT;have dis:∀i j,i<n->j<n->(∀b,b<n->R i b=R j b)->i=j:=λi j hi hj h=>anti i j hi hj (by rw[h j hj];exact refl j hj) (by rw[<- h i hi];exact refl i hi);have Qm:∀i j,i<n->j<n->(∀b,b<n->R b i=R b j)->i=j:=λi j hi hj h=>anti i j hi hj (by rw[<- h i hi];exact refl i hi) (by rw[h j hj];exact refl j hj);refine⟨_,rfl,a,n,R,us,rfl,s6.seq hu,hU,hn,λL ds H8 s8 iL hD=>?_⟩;have vf:=s6.trans s8;dsimp only[aW];show bD _ _ _ [some (.ref a),some (.int n),v2,some (.ref L),v4] _;refine⟨_,rfl,n,rfl,(bH (by omega)).1,(bH (by omega)).2,dZ (lo:=0) (n:=((n:Int)).toNat) (λi σ H'=>∃v2 v4:Option V,σ = [some (.ref a),some (.int n),v2,some (.ref L),v4]/\Same H8 H'/\(bF n).find? (cH (bC n R) (bC n λa b=>R b a))=(iK n i).find? (cH (bC n R) (bC n λa b=>R b a)))
    ⟨_,_,rfl,Same.refl _,by rw[Hq]⟩ ?_ ?_⟩
   ·rintro i σ H6 hi ⟨v2,v4,rfl,s6,jT⟩
    have hin:i<n:=by omega
    rw[Hf _ hin]at jT;have ec:((n:Int) - (0+(i:Int)+1)).toNat=n - (i+1):=by omega
    refine⟨_,rfl,_,_,rfl,rfl,_,rfl,(0+(i:Int)+1),n,rfl,⟨by omega,by omega,by omega,by omega⟩,dZ (lo:=0+(i:Int)+1) (n:=((n:Int) - (0+(i:Int)+1)).toNat) (λk σ H'=>∃v4:Option V,σ = [some (.ref a),some (.int n),some (.int (0+(i:Int))),some (.ref L),v4]/\Same H8 H'/\(bF n).find? (cH (bC n R) (bC n λa b=>R b a))=((j4 n i k).find? (cH (bC n R) (bC n λa b=>R b a))).or ((iK n (i+1)).find? (cH (bC n R) (bC n λa b=>R b a))))
     ⟨_,rfl,s6,jT⟩ ?_ ?_⟩
    ·rintro k σ H7 hk ⟨v4,rfl,s7,cz⟩
     rw[ec]at hk;have hv:=qF hin hk;rw[Hg _ hk]at cz;have ev:(0:Int)+(i:Int)+1+(k:Int)=((i+1+k:Nat):Int):=by push_cast;omega
     have ei:(0:Int)+(i:Int)=(i:Int):=by omega
     rw[ev,ei];generalize S0:i+1+k=v at hv cz ⊢;have el:cH (bC n R) (bC n λa b=>R b a) (i,v)=(!decide (us.getD i 0&&& us.getD v 0∈us) || !decide (ds.getD i 0&&& ds.getD v 0∈ds)):=by
      unfold cH;rw[hU.lack dis hin hv,hD.lack Qm hin hv]
     have qy:=(vf.trans s7).seq hu;have gn:=ai.of (K:=K) (s7 _ _ iL);refine⟨_,rfl,_,rfl,a,_,_,_,rfl,rfl,qy,bp (hU.get hin),_,rfl,_,rfl,a,_,_,_,rfl,rfl,qy,bp (hU.get hv),_,_,rfl,rfl,?_⟩;dsimp only;rw[show Builtin.bitAnd ((us.getD i 0:Nat):Int) ((us.getD v 0:Nat):Int)=((us.getD i 0&&& us.getD v 0:Nat):Int)from jP _ _];refine⟨_,rfl,a,_,rfl,.inl qy,rfl,Hh us,_,rfl,?_⟩;rw[az rfl,zS];rw[el]at cz;cases h1:decide (us.getD i 0&&& us.getD v 0∈us)with
     |false =>
      rw[h1]at cz;rw[az (by rfl)]at cz;refine a_ (a_ ⟨_,rfl,_,rfl,by show 2<=sizeLine;decide,λt ht=>⟨by show 2<=sizeLine;decide,λr hr'=>?_⟩⟩);exact kN (i,v) (by rw[cz];rfl) r t _ (vf.trans (s7.trans ((Same.put ht).trans (Same.put hr')))) (Same.put hr' _ _ ak) ak
     |true =>
      rw[h1]at cz;refine aI ⟨_,rfl,_,rfl,L,_,_,_,rfl,rfl,gn,bp (hD.get hin),_,rfl,_,rfl,L,_,_,_,rfl,rfl,gn,bp (hD.get hv),_,_,rfl,rfl,?_⟩;dsimp only;rw[show Builtin.bitAnd ((ds.getD i 0:Nat):Int) ((ds.getD v 0:Nat):Int)=((ds.getD i 0&&& ds.getD v 0:Nat):Int)from jP _ _];refine⟨_,rfl,L,_,rfl,.inl gn,rfl,Hh ds,_,rfl,?_⟩;rw[az rfl,zS];cases h2:decide (ds.getD i 0&&& ds.getD v 0∈ds)with
      |false =>
       rw[h2]at cz;rw[az (by rfl)]at cz;refine a_ ⟨_,rfl,_,rfl,by show 2<=sizeLine;decide,λt ht=>⟨by show 2<=sizeLine;decide,λr hr'=>?_⟩⟩;exact kN (i,v) (by rw[cz];rfl) r t _ (vf.trans (s7.trans ((Same.put ht).trans (Same.put hr')))) (Same.put hr' _ _ ak) ak
      |true =>
       rw[h2]at cz;rw[au (by decide)]at cz;subst S0;exact aI ⟨_,rfl,s7,cz⟩
    ·rintro σ H7 ⟨v4,rfl,s7,cz⟩
     rw[ec,K7]at cz;exact⟨_,_,rfl,s7,cz⟩
   ·rintro σ H7 ⟨v2,v4,rfl,s7,cz⟩
    rw[en,Ho]at cz;refine⟨by show 2<=sizeLine;decide,λr hr'=>?_⟩;exact kQ cz r _ (vf.trans (s7.trans (Same.put hr'))) ak
end
structure rL (P:Program) (w:World) (K:W.Frag) (mg:Str->Option Value) (base:Heap) (C:Addr) (x:Str) (ps:List Str) (k:Nat) (sp:Sp):Prop where
 ex:∃(f:Addr) (fd:FuncData),aN P w K mg base (bA P w) k f fd ps sp/\Mk K C f/\mg x=some (.ref C)/\Binds K fd ps []
section
variable {X:Cx} {E:XK} {C:Addr} {x:Str} {ps:List Str} {k k':Nat} {sp:Sp} {e:Expr} {es:List Expr} {t:TA} {p pos:Pos}
theorem W8 (c:rL X.prog X.w X.K X.mg X.base C x ps k sp) (px:Passes (bA X.prog X.w) X E) (hr:bS k' X.A) (hg:Gl X x) (ha:PA X (e::es) t) (hk:k+1<=k':=by decide) (hdb:(x==("__debug__" : Str))=false:=by decide)
  (he:starEach (e::es) X.env=(false,eval e X.env)::starEach es X.env:=by rfl) (hpl:(backTo pos (starEach es X.env)).any (·.1)=false:=by rfl):PE X (.Call (.Name x p) (e::es) [] pos) (Nz C sp [] E t):=by
 obtain⟨f,fd,F,M,hm,b⟩:=c.ex;exact W7 M F (hr.mono hk) hg hm b .nil px ha hdb he hpl
end
theorem ClsAt.kF{P:Program}{w:World}{K:W.Frag}{mg:Str->Option Value}{base h:Heap}{x qual:Str}{st:Stmt}{C:Addr}{ps:List Str}{k:Nat}{sp:Sp}(A:ClsAt K x qual st C)(X:K.In h)(G:h.Ns mainGlobals mg)
  (hb:∀(kV doc pm:Value) (an:Option Addr) (cdv ct:Value) (us:List Value),us.length=ps.length->bindArgs (W.fnOf "__init__" qual (iI st) (f9 st) (ay st) .none kV doc pm an cdv ct) ⟨us,[]⟩=pure (ps.zip us))
  (ok:∀{f:Addr} {fd:FuncData},aT K "__init__" qual st f fd->aN P w K mg base (bA P w) k f fd ps sp):rL P w K mg base C x ps k sp:=by
 obtain⟨f,fd,F,M⟩:=A.ex;exact⟨f,fd,ok F,M,W.mg_of X G A.ns,F.binds hb⟩
noncomputable def fZ:List Str->Nat->Option Nat
 | [],_=>none
 |x::r,i=>if eU x=true then fZ r (i+1)else some i
noncomputable def gD (ws:List Str):Option Nat:=if cA (ws.headD "")=true then fZ ws.tail 1 else some 0
noncomputable def dy(x:Str):Int × Int:=(((mO x).1:Int),((mO x).2:Int))
theorem FQ{ws:List Str}{i k:Nat}{x:Str}(h:ws[i]?=some x):fZ (ws.drop i) k=if eU x=true then fZ (ws.drop (i+1)) (k+1)else some k:=by
 rw[ql h];rfl
theorem FT:∀{ws:List Str} {k:Nat},fZ ws k=none->∀x∈ws,eU x=true
 | [],_,_=>λ_ h=>nomatch h
 |y::r,k,h=>λx hx=>by
  unfold fZ at h
  by_cases hy:eU y=true
  ·rw[az hy]at h
   rcases bu.mp hx with rfl|hx
   ·exact hy
   ·exact FT h x hx
  ·rw[au hy]at h;cases h
theorem M_{x:Str}(h:cA x=true)(hl:x.length<=40):kA ((valN x:Nat):Int):=by
 have:=Zt h hl;unfold kA;rw[rP]
 by_cases h0:valN x=0
 ·rw[h0];decide
 ·exact(wJ h0).mpr (se this (by
   calc (10:Nat) ^ 40<2 ^ 200:=by decide
    _<=2 ^ 1920:=jd (by decide) (by decide)))
theorem Yr{x:Str}(h:eU x=true)(hl:x.length<=40):kA (dy x).1/\kA (dy x).2:=by
 obtain⟨a,b,e,ha,hb⟩:=zW h;unfold dy mO;rw[e];have l1:a.length<=x.length:=pj (c:=60) (show a∈Txt.split x "<" by rw[e];exact cK);have l2:b.length<=x.length:=pj (c:=60) (show b∈Txt.split x "<" by rw[e];exact bT _ cK);exact⟨M_ ha (bN l1 hl),M_ hb (bN l2 hl)⟩
noncomputable def O1(C cC cT cO cJ:Addr)(c:Int)(zs:List (Int × Int))(H:Hp)(Q:V->Hp->Prop)(E:XK):Prop:=
 (¬ (1<=c/\c<=24)->∀H',Same H H'->E (.ref cC) none H') /\
 ∀n:Nat,c=(n:Int)->1<=n->n<=24 ->
  (∀z,firstBad n zs=some z->∀d H',Same H H'->H' d=some (.xd [("thing", .int z)])->E (.ref cT) (some d) H') /\
  ∀ps R,zs=ft ps->(∀p∈ps,p.1<n/\p.2<n)->Ev.gR n ps R ->
   (∀q,(bF n).find? (bothW R)=some q->∀d t H',Same H H'->H' t=some (.tup [.int (q.1:Nat),.int (q.2:Nat)])->H' d=some (.xd [("things", .ref t)])->E (.ref cO) (some d) H') /\
   ((bF n).find? (bothW R)=none ->
    (∀q,(bF n).find? (cH (bC n R) (bC n λa b=>R b a))=some q->∀d t H',Same H H'->H' t=some (.tup [.int (q.1:Nat),.int (q.2:Nat)])->H' d=some (.xd [("things", .ref t)])->E (.ref cJ) (some d) H') /\
    ((bF n).find? (cH (bC n R) (bC n λa b=>R b a))=none->∀p H',Same H H'->nL C H' p n R->Q (.ref p) H'))
theorem Nf(x y:Str):Txt.split x y≠[]:=λe=>by
 have:=split_pos x y;rw[e]at this;exact absurd this (by decide)
theorem Qe(xs:List V)(k:Nat):dY xs (some (k:Int)) none=xs.drop k:=by
 unfold dY;rw[HT.Bi,HT.rg]
 by_cases h:k<=xs.length
 ·rw[sf h,nD (by simp)]
 ·rw[wK (by omega),nr,List.drop_of_length_le (by omega)];simp
section
variable {P:Program} {w:World} {K:W.Frag} {mg:Str->Option Value} {base:Heap} {f:Addr} {fd:FuncData} {a0 a1 a2 a3 a4 a5 a6 a7 a8 a9 a10 a11 a12 a13 a14 aE:Addr}
abbrev Bl:Stmt:=inClass (top 14) 0
theorem Lg:bh ["self","at"] ["self","at"] (ay Bl):=⟨rfl,rfl,rfl,by decide +kernel,rfl,by decide +kernel,by decide +kernel⟩
theorem Vp {fI:Addr} (F:aT K "__init__" "NoText.__init__" Bl f fd) (Er:kb mg a0 a1 a2 a3 a4 a5 a6 a7 a8 a9 a10 a11 a12 a13 a14 aE) (BI:nk K aE) (ic:iZ K a11 fI) (lG:jC K a11 "at"):aN P w K mg base bf 1 f fd ["self","at"] (gP a11 "at" ph):=by
 refine F.ok Lg (λvs H Q E h=>?_) (λcdv A outer s H vs Q E hr h=>?_)
 ·obtain⟨e,v,rfl,_⟩:=h
  rfl
 ·obtain⟨e,v,rfl,he,⟨i,rfl,hi⟩,kk⟩:=h
  have nd:=Lg.nd;refine⟨_,(ao (c9 (uX rfl Er.ClimbError BI.rd BI.sp BI.fc (ae (pv 0) (ae (Kn (pv 1)) ag))))
   (aq (u0 (pv 0) (pv 1) rfl))),?_⟩
  refine⟨_,rfl,_,rfl,i,rfl,hi,Kz hi (by decide),λy=>⟨e,a11,fI,_,rfl,he,ic,?_⟩⟩;refine⟨_,rfl,_,rfl,e,a11,rfl,ak,lG.xs,λdx hdx=>?_⟩;have hne:dx≠e:=λz=>by rw[z,ak]at hdx;cases hdx
  refine kk dx _ (by rw[aA hne]at hdx;exact hdx) ak (by rw[aA hne,ak]) λb h1 h2=>?_;rw[aA h1,aA h2,aA h1]
abbrev vF:Stmt:=top 42
theorem MJ:bh ["text","words","place","word"] ["text"] (ay vF):=⟨rfl,rfl,rfl,by decide +kernel,rfl,by decide +kernel,by decide +kernel⟩
noncomputable def Dd (C cX cC cT cO cJ:Addr):Sp:=λvs H Q E=>∃(x:Str) (ws:List Str),vs = [.str x]/\Txt.split x " " = ws/\x.length<=30000/\ws.length<=900/\(∀y∈ws,y.length<=40) /\
 (∀k,gD ws=some k->∀d H',Same H H'->H' d=some (.xd [("at", .int (k:Nat))])->E (.ref cX) (some d) H') /\
 (gD ws=none->O1 C cC cT cO cJ ((valN (ws.headD ""):Nat):Int) (ws.tail.map dy) H Q E)
theorem M9{k:Nat}(h:k<=1000):((k:Nat):Int).natAbs.log2<1920:=by
 rw[rP]
 by_cases h0:k=0
 ·rw[h0];decide
 ·exact(wJ h0).mpr (nG h (cg (show 1000<2 ^ 10 by decide) (jd (by decide) (by decide))))
theorem Ws {C:Addr} (F:aT K "read_order" "read_order" vF f fd) (T:Txt mg) (TC:pG K C) (sV:iX P w K mg base a11 "NoText" ["self","at"] 1 (gP a11 "at" ph)) (oh:aF P w K mg base "is_number" ["word"] 1 vJ) (xJ:aF P w K mg base "is_pair" ["word"] 2 Cv) (yg:aF P w K mg base "read_pair" ["word"] 1 De) (yl:rL P w K mg base C "Order" ["self","count","pairs"] 5 (Ct K C a2 a12 a9 a5)):aN P w K mg base (bA P w) 7 f fd ["text"] (Dd C a11 a2 a12 a9 a5):=by
 refine F.uN MJ (λvs H Q E h=>?_) (λcdv A outer s H vs Q E hr h=>?_)
 ·obtain⟨x,ws,rfl,_⟩:=h
  rfl
 ·obtain⟨x,ws,rfl,hws,hx,hwl,mD,kT,kk⟩:=h
  have nd:=MJ.nd;refine⟨_,(ao (aJ (i:=1) nd rfl (Or.inl rfl) (cR (K:=K) rfl je jK nU mI (pv 0) (ae bz ag)))
   (ao (bq (gJ (dh (bj oh hr rfl (ae (aH (aX (K:=K) rfl) (pv 1) aj (λ_ _=>rfl)) ag)))) (aq (qU sV u6 hr rfl rfl rfl (ae aj ag))) bx)
   (ao (b_ uW rfl (A_ (K:=K) true rfl rfl T.enumerate (ae (pv 1) ag)) (mQ (K:=K) (i:=2) (j:=3) rfl rfl nd rfl rfl rfl rfl)
   (aq (bq (PW.pt (gK (aU mM (pv 2) aj (aP _)) (gN (gJ (dh (bj xJ hr rfl (ae (pv 3) ag))))))) (aq (qU sV u6 hr rfl rfl rfl (ae (pv 2) ag))) bx)))
   (aq (aS (W8 yl Ax hr rfl (ae (dm tm rfl T.int lX (ae (aH (aX (K:=K) rfl) (pv 1) aj (λ_ _=>rfl)) ag)) (ae (dg (own:=["word"]) (fr:=[]) rfl (cM (ay vF) ["text","words","place","word"] rfl rfl (by decide +kernel)) (dJ (K:=K) rfl (mP (mX (K:=K) rfl) (pv 1) (h7 aj) Bc)) (λ_ _ _ _=>⟨(aY (i:=0) (by decide +kernel:(["word"]:List Str).Nodup) rfl (Or.inl rfl)),dz,(bj yg hr rfl (ae (pv 0) ag))⟩)) ag)))))))),?_⟩
  refine⟨_,rfl,rfl,_,_,rfl,rfl,rfl,bN hx (by decide),λl hl1=>?_⟩;rw[show Txt.split x " " = ws from hws];dsimp only[aW];have s1:=Same.put hl1 (o:=.lst (ws.map V.str));have q1:(upd H l (.lst (ws.map V.str))) l=some (.lst (ws.map V.str)):=ak;generalize upd H l (.lst (ws.map V.str))=H1 at s1 q1 ⊢;show bD _ _ _ [some (.str x),some (.ref l),none,none] _;cases ws with
  |nil=>exact absurd hws (Nf _ _)
  |cons w0 wr =>
  have h0:w0.length<=40:=mD _ cK;dsimp only[List.headD_cons,List.tail_cons]at kk;refine⟨_,rfl,l,_,0,_,rfl,rfl,ai.of q1,bp (j:=0) rfl,w0,rfl,by omega,λH2 s2=>⟨_,rfl,?_⟩⟩;have q2:=s2 _ _ q1
  by_cases hN:cA w0=true
  ·have tb:gD (w0::wr)=fZ wr 1:=az hN
   rw[tb]at kT kk;rw[hN];refine aI ?_;show bD _ _ _ [some (.str x),some (.ref l),none,none] _;refine⟨_,rfl,l,_,rfl,ai.of q2,zA (K:=K) (c:=true) (l:=l) (xs:=(w0::wr).map V.str) (λi σ H3=>∃(v2 v3:Option V),σ = [some (.str x),some (.ref l),v2,v3]/\Same H2 H3/\(1<=i->fZ wr 1=fZ (wr.drop (i - 1)) i)) ⟨none,none,rfl,Same.refl _,λh=>by omega⟩ (λi σ H3 ⟨_,_,_,s3,_⟩=>ai.of (s3 _ _ q2)) ?_ ?_⟩
   ·rintro i y σ H3 Tt hy zJ ⟨v2,v3,rfl,s3,hb⟩
    have sT:=Same.put zJ (o:=.tup [V.int (i:Int),y]);refine⟨Tt,_,rfl,aQ.of ak,rfl,_,_,rfl,_,_,rfl,rfl,?_⟩;dsimp only[aW];refine⟨_,rfl,_,_,rfl,rfl,_,rfl,?_⟩
    match i,hy,hb with
    |0,_,_=>exact aI (aI ⟨_,_,rfl,s3.trans sT,λ_=>rfl⟩)
    |i+1,hy,hb =>
     rw[bK (show(0:Int)<((i+1:Nat):Int)by omega)];have hy':(wr.map V.str)[i]?=some y:=hy;rw[dR]at hy';cases hp:wr[i]? with
     |none=>rw[hp]at hy';cases hy'
     |some p =>
      rw[hp]at hy';cases hy';have hb:=hb (by omega);rw[show i+1 - 1=i by omega,FQ hp]at hb;have hpl:=mD p (bT _ (eh hp));have hil:i<wr.length:=(cG.mp hp).1;refine a_ ⟨_,rfl,p,rfl,by omega,λH4 s4=>⟨_,rfl,?_⟩⟩
      by_cases hpp:eU p=true
      ·rw[hpp]
       rw[az hpp]at hb;exact aI ⟨_,_,rfl,s3.trans (sT.trans s4),λ_=>by rw[show i+1+1 - 1=i+1 by omega];exact hb⟩
      ·rw[show eU p=false by simpa using hpp]
       rw[au hpp]at hb;refine a_ ⟨_,rfl,by show 1<=sizeLine;decide,λe he=>?_⟩;have hlen:(w0::wr).length=wr.length+1:=rfl;exact o6 (λ_ _=>⟨_,rfl,M9 (by omega)⟩) he λdx H5 s5 kP=>kT (i+1) hb dx _ (s1.trans (s2.trans (s3.trans (sT.trans (s4.trans s5))))) kP
   ·rintro σ H3 ⟨v2,v3,rfl,s3,hb⟩
    have hlen:(w0::wr).length=wr.length+1:=rfl;have hb:=hb (by rw[aB];show 1<=wr.length+1;omega);rw[aB,show(w0::wr).length - 1=wr.length from rfl,nr]at hb;have hb:fZ wr 1=none:=hb;have hall:=FT hb;obtain⟨kC,kk⟩:=kk hb;have q3:=s3 _ _ q2;refine⟨_,rfl,l,_,0,_,rfl,rfl,ai.of q3,bp (j:=0) rfl,w0,_,rfl,qB hN (by omega),by omega,_,rfl,_,rfl,l,_,rfl,ai.of q3,λl2 hl2=>?_⟩;have t2:=Same.put hl2 (o:=.lst (wr.map V.str));have ec:dY ((w0::wr).map V.str) (some 1) none=wr.map V.str:=by
     rw[show(some (1:Int))=some ((1:Nat):Int)from rfl,Qe];rfl
    rw[ec];refine⟨l2,rfl,⟨_,ai.of ak⟩,λD hD=>qh (λi v H=>∃t,v = .ref t/\t≠D/\H t=some (.tup [.int (dy (wr.getD i "")).1,.int (dy (wr.getD i "")).2])) (src_list (ai.of ak)) hD (by rw[aB];exact cP (by omega)) (λi v H H' s ⟨b,e,hb,q⟩=>⟨b,e,hb,s _ _ hb q⟩) (λi H5 Kt hi hs hy hk=>?_) (λH5 ys hs bM tZ=>?_)⟩
    ·rw[aB]at hi
     obtain⟨zs,hz⟩:=hy;have em:wr.getD i "" ∈ wr:=by rw[aZ,aK hi];exact ja hi
     have ew:(wr.map V.str).getD i .non = .str (wr.getD i ""):=by
      rw[aZ,dR,aZ,aK hi];rfl
     have:=mD _ (bT w0 em);refine⟨_,rfl,wr.getD i "", by rw[ew];rfl,hall _ em,by omega,λt H6 s6 ht=>hk _ _ s6 ⟨t,rfl,λe=>?_,ht⟩⟩;rw[e,s6 _ _ hz]at ht;cases ht
    ·rw[aB]at tZ
     have sA:Same H H5:=s1.trans (s2.trans (s3.trans (t2.trans hs)));refine λz dx hz hdx hne=>?_;have s6:Same H5 (upd (upd H5 dx (.own z)) z (.ins C dx [])):=λb o e=>by
      rw[aA (cF e hz),aA (cF e hdx)];exact e
     have hpp:Paired (jY H5) (wr.map dy) ys:=by
      have e:wr.map dy=(List.range wr.length).map λi=>dy (wr.getD i ""):=by
       apply ki
       ·simp
       ·intro i h1 h2
        have h1':i<wr.length:=by simpa using h1
        simp[aZ,aK h1']
      rw[e];exact qO (Paired.c5 tZ λi v ⟨t,e,_,q⟩=>⟨t,e,q⟩)
     have q6:(upd (upd H5 dx (.own z)) z (.ins C dx [])) z=some (.ins C dx []):=ak;generalize upd (upd H5 dx (.own z)) z (.ins C dx [])=H6 at s6 q6 ⊢;refine⟨z,dx,D,_,wr.map dy,rfl,q6,⟨ys,ai.of (s6 _ _ bM),Paired.c5 hpp λ_ _ q=>q.same s6⟩,λy hy=>?_,λhc H7 s7=>kC hc _ (sA.trans (s6.trans s7)),λn hn n1 n2=>⟨λy hy d H7 s7 hd=>(kk n hn n1 n2).1 y hy d _ (sA.trans (s6.trans s7)) hd,λps R e hbb hC=>⟨λq hq d t H7 s7 ht hd=>((kk n hn n1 n2).2 ps R e hbb hC).1 q hq d t _ (sA.trans (s6.trans s7)) ht hd,λg0=>⟨λq hq d t H7 s7 ht hd=>(((kk n hn n1 n2).2 ps R e hbb hC).2 g0).1 q hq d t _ (sA.trans (s6.trans s7)) ht hd,λg9 H7 s7 hO=>⟨rfl,?_⟩⟩⟩⟩⟩
     ·obtain⟨x',hx',rfl⟩:=cU.mp hy
      exact Yr (hall _ hx') (mD _ (bT _ hx'))
     ·exact(((kk n hn n1 n2).2 ps R e hbb hC).2 g0).2 g9 z H7 (sA.trans λb o e=>s7 b o (s6 _ _ e) (cF e hz)) hO
  ·rw[show cA w0=false by simpa using hN]
   have tb:gD (w0::wr)=some 0:=au hN;rw[tb]at kT;refine a_ ⟨by show 1<=sizeLine;decide,λe he=>?_⟩;exact o6 (λ_ _=>⟨_,rfl,M9 (k:=0) (by omega)⟩) he λdx H5 s5 kP=>kT 0 rfl dx _ (s1.trans (s2.trans s5)) kP
end
noncomputable def fM(x:Str):V:=if cA x=true then .int (valN x:Nat)else .non
section
variable {P:Program} {w:World} {K:W.Frag} {mg:Str->Option Value} {base:Heap} {f:Addr} {fd:FuncData}
abbrev vC:Stmt:=top 61
theorem Mr:bh ["_law_word"] ["_law_word"] (ay vC):=⟨rfl,rfl,rfl,by decide +kernel,rfl,by decide +kernel,by decide +kernel⟩
noncomputable def Dj:Sp:=λvs H Q _=>∃x:Str,vs = [.str x]/\x.length<=600/\∀H',Same H H'->Q (fM x) H'
theorem Wi (F:aT K "_law_word_number" "_law_word_number" vC f fd) (T:Txt mg):aN P w K mg base bf 1 f fd ["_law_word"] Dj:=by
 refine F.ok Mr (λvs H Q E h=>?_) (λcdv A outer s H vs Q E hr h=>?_)
 ·obtain⟨x,rfl,_⟩:=h
  rfl
 ·obtain⟨x,rfl,hx,kk⟩:=h
  have nd:=Mr.nd;refine⟨_,(ao (bq (PW.pt (fN (aU bQ (pv 0) bz (aP _)) (gC (aU mM (aR (cj (K:=K) rfl) rfl T.len cw (ae (dg (own:=["_law_sign"]) (fr:=[]) rfl (cM (ay vC) ["_law_word"] rfl rfl (by decide +kernel)) (Kv (pv 0)) (λ_ _ _ _=>⟨(aY (i:=0) (by decide +kernel:(["_law_sign"]:List Str).Nodup) rfl (Or.inl rfl)),(oX (aU Wz (pv 0) bz (by with_unfolding_all rfl))),(pv 0)⟩)) ag)) aj (aP _))))) (aq (aS gB)) bx)
   (ao (bq (PW.pt (gK (aU bQ (aH Jg (pv 0) aj (λ_ _=>rfl)) bz (aP _)) (gN (aU jW (pv 0) bz (aP _))))) (aq (aS gB)) bx)
   (aq (aS (dm tm rfl T.int lX (ae (pv 0) ag)))))),?_⟩
  have hsz:x.cps.size<sizeLine:=M8 (by have:x.length<=600:=hx;exact bN this (by decide));refine⟨_,rfl,rfl,_,rfl,?_⟩
  by_cases h0:x = ""
  ·rw[bK (show V.str x=V.str "" by rw[h0])]
   have e:fM x = .non:=by unfold fM;rw[h0];rfl
   rw[e]at kk;exact a_ (a_ (kk _ (Same.refl _)))
  rw[bE (show ¬ V.str x=V.str "" from λe=>h0 (V.str.inj e))];refine aI ?_;refine⟨_,rfl,_,rfl,λD hD=>qi (λi=>!fj (x.cps.getD i 0)) (λi=>.str ⟨#[x.cps.getD i 0]⟩) Ng hD hsz (λi H3 Kt Kf hi hs h1 h2=>?_) (λH3 hs hl=>?_)⟩
  ·refine⟨_,rfl,_,_,rfl,rfl,_,rfl,?_⟩
   rw[show(!(Builtin.Str.occurrences "0123456789" ⟨#[x.cps.getD i 0]⟩ 0 ("0123456789" : Str).length 1).isEmpty)=fj (x.cps.getD i 0)from Hd _];cases hd:fj (x.cps.getD i 0)with
   |true=>exact h2 _ (by rw[hd];rfl) (Same.refl _)
   |false=>exact⟨_,rfl,h1 _ (by rw[hd];rfl) (Same.refl _)⟩
  have hall:(((List.range x.cps.size).filter λi=>!fj (x.cps.getD i 0)).map λi=>V.str ⟨#[x.cps.getD i 0]⟩).length=0 ↔ x.cps.toList.all fj=true:=by
   rw[aB,Ou,List.filter_eq_nil_iff,jF]
   constructor
   ·intro h c hc
    obtain⟨i,hi,e⟩:=lM hc;rw[dq]at hi;have:=h i (by simpa using hi);rw[wk,fP hi]at this;rw[<- e,Array.getElem_toList];simpa using this
   ·intro h i hi
    have hi':i<x.cps.size:=by simpa using hi
    rw[wk,fP hi'];have:=h x.cps[i] (by simp);simp[this]
  refine⟨D,_,rfl,.inl (ai.of hl),_,_,rfl,rfl,_,rfl,?_⟩;have e0:fM x=if cA x=true then .int (valN x:Nat)else .non:=rfl
  generalize hq:(((List.range x.cps.size).filter λi=>!fj (x.cps.getD i 0)).map λi=>V.str ⟨#[x.cps.getD i 0]⟩).length=q at hall ⊢
  by_cases ha:x.cps.toList.all fj=true
  ·have hq0:=hall.mpr ha
   subst hq0;rw[bE (show ¬ (0:Int)<((0:Nat):Int)by decide)];refine aI ?_;cases e2:x.cps.toList with
   |nil=>exact absurd (rB (by rw[e2];rfl)) h0
   |cons c r =>
    refine⟨_,rfl,_,0,c,rfl,rfl,dS hsz,by rw[e2];exact bp (j:=0) rfl,rfl,_,rfl,?_⟩
    by_cases hc:c=48
    ·subst hc
     rw[bK (show V.str ⟨#[48]⟩=V.str "0" from rfl)];refine a_ ⟨_,rfl,rfl,_,rfl,?_⟩
     by_cases h1:x = "0"
     ·have hN:cA x=true:=by rw[h1];decide +kernel
      rw[bK (show V.str x=V.str "0" by rw[h1])];rw[e0,az hN]at kk;exact aI ⟨_,rfl,_,_,rfl,qB hN (by omega),by omega,kk _ hs⟩
     ·have hN:cA x=false:=by
       unfold cA;rw[ha,bE h0,bE h1,e2];rfl
      rw[bE (show ¬ V.str x=V.str "0" from λe=>h1 (V.str.inj e))];rw[e0,au (by rw[hN];exact bY)]at kk;exact a_ (kk _ hs)
    ·have hN:cA x=true:=by
      unfold cA;rw[ha,bE h0,e2,bE (show ¬ (c::r).head? = some 48 from λz=>hc (dU z))];cases decide (x = "0")<;>rfl
     rw[bE (show ¬ V.str ⟨#[c]⟩=V.str "0" from λz=>hc (by
      have z2:=congrArg (λs:Str=>s.cps.toList) (V.str.inj z);exact El z2))]
     rw[e0,az hN]at kk;exact aI (aI ⟨_,rfl,_,_,rfl,qB hN (by omega),by omega,kk _ hs⟩)
  ·have hq1:q≠0:=λz=>ha (hall.mp z)
   have hN:cA x=false:=by
    unfold cA;rw[show x.cps.toList.all fj=false by simpa using ha];simp
   rw[bK (show(0:Int)<((q:Nat):Int)by omega)];rw[e0,au (by rw[hN];exact bY)]at kk;exact a_ (kk _ hs)
end
theorem WN{H:Hp}{L:Addr}{xs ys:List V}(hL:H L=some (.lst xs)){zs:List (Int × Int)}{us:List V}(h:Paired (jY H) zs us):Paired (jY (upd H L (.lst ys))) zs us:=Paired.c5 h λ_ _ ⟨t,e,q⟩=>⟨t,e,by rw[aA (mL q hL (λz=>nomatch z))];exact q⟩
theorem JW:∀ws:List Str,inV .non (ws.map fM) = !ws.all cA
 | []=>rfl
 |y::r=>by
  have ih:=JW r;unfold inV at ih ⊢;rw[cI,nq,ih,rR];unfold fM
  by_cases h:cA y=true
  ·rw[az h,h];rfl
  ·rw[au h,show cA y=false by simpa using h];rfl
theorem Q8(ws:List Str):(ws.map fM).all jm=true:=by
 rw[jF];intro x hx;obtain⟨y,_,rfl⟩:=cU.mp hx;unfold fM
 split<;>rfl
noncomputable def xm(k:Str)(v:V)(us:List Nat)(H:Hp)(Q:V->Hp->Prop):Prop:=∀r t l H',Same H H'->H' t=some (.tup [.str k,v])->H' l=some (.lst (us.map nV))->H' r=some (.tup [.ref t,.ref l])->Q (.ref r) H'
noncomputable def rn:Sp:=λvs H Q _=>∃(x:Str) (ws:List Str),vs = [.str x]/\Txt.split x " " = ws/\x.length<=30000/\ws.length<=900/\(∀y∈ws,y.length<=40) /\
 (∀k:Nat,gD ws=some k->xm "NoText" (.int k) [] H Q) /\
 (gD ws=none->(¬ (1<=(valN (ws.headD ""):Int)/\(valN (ws.headD ""):Int)<=24)->xm "NoCount" .non [] H Q) /\
  ∀n:Nat,valN (ws.headD "")=n->1<=n->n<=24->(∀z,firstBad n (ws.tail.map dy)=some z->xm "NoThing" (.int z) [] H Q) /\
   ∀ps,ws.tail.map dy=ft ps->(∀p∈ps,p.1<n/\p.2<n)->∀us R,cL n R us->Ev.gR n ps R->∀H1 l,Same H H1->H1 l=some (.lst (us.map nV))->qb n R H1 λv H2=>∀r H3,Same H2 H3->H3 r=some (.tup [v,.ref l])->Q (.ref r) H3)
theorem qb.mono{n:Nat}{R:Nat->Nat->Bool}{H:Hp}{q q':V->Hp->Prop}(m:∀v H',q v H'->q' v H')(h:qb n R H q):qb n R H q':=
 ⟨λp hp r t H' s h1 h2=>m _ _ (h.1 p hp r t H' s h1 h2),λh0=>⟨λp hp r t H' s h1 h2=>m _ _ ((h.2 h0).1 p hp r t H' s h1 h2),λh9 r H' s h1=>m _ _ ((h.2 h0).2 h9 r H' s h1)⟩⟩
section
variable {P:Program} {w:World} {K:W.Frag} {mg:Str->Option Value} {base:Heap} {f:Addr} {fd:FuncData}
abbrev vx:Stmt:=top 66
theorem L5:bh ["_law_text","_law_words","_law_count","_law_pairs_here","_law_at","_law_pair","_law_ups_here","_law_parts","_law_thing"] ["_law_text"] (ay vx):=⟨rfl,rfl,rfl,by decide +kernel,rfl,by decide +kernel,by decide +kernel⟩
theorem Vy (F:aT K "_law_due" "_law_due" vx f fd) (T:Txt mg) (tj:aF P w K mg base "_law_word_number" ["_law_word"] 1 Dj) (xM:aF P w K mg base "_law_closed" ["_law_count","_law_pairs_here"] 1 (Cd K)) (yb:aF P w K mg base "_law_two_due" ["_law_ups_here"] 2 (Dh K)) :
  aN P w K mg base bf 3 f fd ["_law_text"] rn:=by
 refine F.ok L5 (λvs H Q E h=>?_) (λcdv A outer s H vs Q E hr h=>?_)
 ·obtain⟨x,ws,rfl,_⟩:=h
  rfl
 ·obtain⟨x,ws,rfl,hws,hx,hwl,mD,kT,kk⟩:=h
  have nd:=L5.nd;refine⟨_,(ao (aJ (i:=1) nd rfl (Or.inl rfl) (cR (K:=K) rfl je jK nU mI (pv 0) (ae bz ag)))
   (ao (aJ (i:=2) nd rfl (Or.inl rfl) (bj tj hr rfl (ae (aH (aX (K:=K) rfl) (pv 1) aj (λ_ _=>rfl)) ag)))
   (ao (bq (aU oR (pv 2) gB (aP _)) (aq (aS (cZ (ae (cZ (ae bz (ae aj ag))) (ae (b9 ag) ag))))) bx)
   (ao (aJ (i:=3) nd rfl (Or.inl rfl) (b9 ag))
   (ao (b_ cy rfl (qR rfl T.range (ae aj (ae (aR (cj (K:=K) rfl) rfl T.len cw (ae (pv 1) ag)) ag))) (aY (i:=4) nd rfl (Or.inl rfl))
   (ao (uZ (i:=7) nd rfl rfl (own:=["_law_part"]) (fr:=[]) rfl (cM (ay vx) ["_law_text","_law_words","_law_count","_law_pairs_here","_law_at","_law_pair","_law_ups_here","_law_parts","_law_thing"] rfl rfl (by decide +kernel)) (dJ (K:=K) rfl (cR (K:=K) rfl je jK nU mI (aH (aX (K:=K) rfl) (pv 1) (pv 4) (λ_ _=>rfl)) (ae bz ag))) (λ_ _ _ _=>⟨(aY (i:=0) (by decide +kernel:(["_law_part"]:List Str).Nodup) rfl (Or.inl rfl)),dz,(bj tj hr rfl (ae (pv 0) ag))⟩))
   (ao (bq (PW.pt (fN (aU jW (aR (cj (K:=K) rfl) rfl T.len cw (ae (pv 7) ag)) aj (aP _)) (gC (aU (Wt (K:=K) rfl) gB (pv 7) (by with_unfolding_all rfl))))) (aq (aS (cZ (ae (cZ (ae bz (ae (pv 4) ag))) (ae (b9 ag) ag))))) bx)
   (aq (c9 (cR (K:=K) rfl fU lQ nQ k_ (pv 3) (ae (cZ (ae (aH (aX (K:=K) rfl) (pv 7) aj (λ_ _=>rfl)) (ae (aH (aX (K:=K) rfl) (pv 7) aj (λ_ _=>rfl)) ag))) ag)))))))
   (ao (bq (PW.pt (fN (aU la (pv 2) aj (aP _)) (gC (aU mM (pv 2) aj (aP _))))) (aq (aS (cZ (ae (cZ (ae bz (ae gB ag))) (ae (b9 ag) ag))))) bx)
   (ao (b_ cy rfl (dJ (K:=K) rfl (pv 3)) (aY (i:=5) nd rfl (Or.inl rfl))
   (aq (b_ cy rfl (Ba (K:=K) rfl (pv 5)) (aY (i:=8) nd rfl (Or.inl rfl))
   (aq (bq (aU J3 (pv 8) (pv 2) (aP _)) (aq (aS (cZ (ae (cZ (ae bz (ae (pv 8) ag))) (ae (b9 ag) ag))))) bx)))))
   (ao (aJ (i:=6) nd rfl (Or.inl rfl) (bj xM hr rfl (ae (pv 2) (ae (pv 3) ag))))
   (aq (aS (cZ (ae (bj yb hr rfl (ae (pv 6) ag)) (ae (pv 6) ag))))))))))))),?_⟩
  refine⟨_,rfl,rfl,_,_,rfl,rfl,rfl,bN hx (by decide),λl hl1=>?_⟩;rw[show Txt.split x " " = ws from hws];dsimp only[aW];have s1:=Same.put hl1 (o:=.lst (ws.map V.str));have q1:(upd H l (.lst (ws.map V.str))) l=some (.lst (ws.map V.str)):=ak;generalize upd H l (.lst (ws.map V.str))=H1 at s1 q1 ⊢;cases ws with
  |nil=>exact absurd hws (Nf _ _)
  |cons w0 wr =>
  have h0:w0.length<=40:=mD _ cK;have hlen:(w0::wr).length=wr.length+1:=rfl;dsimp only[List.headD_cons,List.tail_cons]at kk;show bD _ _ _ [some (.str x),some (.ref l),none,none,none,none,none,none,none] _;refine⟨_,rfl,l,_,0,_,rfl,rfl,ai.of q1,bp (j:=0) rfl,w0,rfl,by omega,λH2 s2=>?_⟩;have q2:=s2 _ _ q1;have ju:=s1.trans s2;dsimp only[aW]
  by_cases hN:cA w0=true
  ·have tb:gD (w0::wr)=fZ wr 1:=az hN
   rw[tb]at kT kk;have ev:fM w0 = .int (valN w0:Nat):=az hN;rw[ev];refine⟨_,rfl,rfl,_,rfl,aI ?_⟩;refine⟨by show 0<=sizeLine;decide,λL hL=>?_⟩;have sk:∀{H4:Hp} {o:HO},Same H H4->Same H (upd H4 L o):=λs4 b o e=>by
    rw[aA (cF (ju _ _ e) hL)];exact s4 _ _ e
   have U6:l≠L:=λe=>by rw[e]at q2;rw[q2]at hL;cases hL
   have en:((((w0::wr).map V.str).length:Int) - 1).toNat=wr.length:=by rw[aB,hlen];omega
   dsimp only[aW];refine⟨_,rfl,l,_,rfl,.inl (ai.of ((Same.put hL) _ _ q2)),1,((w0::wr).map V.str).length,rfl,⟨by decide,by decide,by omega,by rw[aB,hlen];omega⟩,dZ (lo:=1) (n:=((((w0::wr).map V.str).length:Int) - 1).toNat) (λi σ H3=>∃(v4 v7:Option V) (ys:List V),σ = [some (.str x),some (.ref l),some (.int (valN w0:Nat)),some (.ref L),v4,none,none,v7,none]/\Same H H3/\H3 l=some (.lst ((w0::wr).map V.str))/\H3 L=some (.lst ys)/\Paired (jY H3) ((wr.take i).map dy) ys/\fZ wr 1=fZ (wr.drop i) (i+1)/\ys.length<=i)
    ⟨none,none,[],rfl,ju.trans (Same.put hL),(Same.put hL) _ _ q2,ak,.nil,by rw[nu],aO _⟩ ?_ ?_⟩
   ·rintro i σ H3 hi ⟨v4,v7,ys,rfl,s3,q3,fk,hp3,hb,hyl⟩
    rw[en]at hi;have hp:wr[i]?=some wr[i]:=aK hi;generalize wr[i]=y at hp;have S_:=mD y (bT _ (eh hp));rw[FQ hp]at hb;have gx:((w0::wr).map V.str)[i+1]?=some (.str y):=by rw[cI,Om,dR,hp];rfl
    have e1:(1:Int)+(i:Int)=((i+1:Nat):Int):=by push_cast;omega
    rw[e1];refine⟨_,rfl,_,rfl,l,_,_,_,rfl,rfl,ai.of q3,bp gx,rfl,_,_,rfl,rfl,rfl,bN S_ (by decide),λD hD=>?_⟩;have hm:=Nc y 60;have hpl:∀p∈Txt.split y "<", p.length<=y.length:=λp h=>pj (c:=60) h;have hm:(Txt.split y "<").length<=y.length+1:=hm;have sD:=Same.put hD (o:=.lst ((Txt.split y "<").map V.str));refine⟨D,rfl,⟨_,ai.of ak⟩,λD2 hD2=>fF (λj=>fM ((Txt.split y "<").getD j "")) (src_list (ai.of ak)) hD2 (by rw[aB];exact cP (by omega)) (λj H5 Kt hj hs hk=>?_) (λH5 hs bM=>?_)⟩
    ·rw[aB]at hj
     have ew:((Txt.split y "<").map V.str).getD j .non = .str ((Txt.split y "<").getD j ""):=by
      rw[aZ,dR,aZ,aK hj];rfl
     have:=hpl ((Txt.split y "<").getD j "") (by rw[aZ,aK hj];exact ja hj);exact⟨_,rfl,_,by rw[ew];rfl,by omega,λH6 s6=>hk _ s6⟩
    ·have bM:H5 D2=some (.lst ((Txt.split y "<").map fM)):=by
      rw[bM,aB]
      congr 2
      apply ki
      ·simp
      ·intro j h1 h2
       have h1':j<(Txt.split y "<").length:=by simpa using h1
       simp[aZ,aK h1']
     have j6:Same H3 H5:=sD.trans hs;have cQ:=j6 _ _ fk;have q5:=j6 _ _ q3;dsimp only[aW];have bad:eU y≠true->∀(v4 v7:Option V),m6 (vT (dA (vT (dA (tC (.str "NoText")) (dA (dO 4) fw))) (dA (Dt fw) fw))) {nx:=λ_ H'=>Q .non H',rt:=Q} [some (.str x),some (.ref l),some (.int (valN w0:Nat)),some (.ref L),some (.int ((i+1:Nat):Int)),none,none,some (.ref D2),none] H5:=λhnp v4 v7=>by
      rw[au hnp]at hb;refine⟨_,rfl,by show 2<=sizeLine;decide,λt ht=>⟨by show 0<=sizeLine;decide,λe he=>⟨by show 2<=sizeLine;decide,λr hr'=>?_⟩⟩⟩;exact kT (i+1) hb r t e _ (s3.trans (j6.trans ((Same.put ht).trans ((Same.put he).trans (Same.put hr'))))) (Same.put hr' _ _ (Same.put he _ _ ak)) (Same.put hr' _ _ ak) ak
     refine⟨_,rfl,D2,_,rfl,.inl (ai.of bM),rfl,_,rfl,?_⟩;rw[aB]
     by_cases h2:(Txt.split y "<").length=2
     ·rw[h2]
      refine aI ⟨_,rfl,D2,_,rfl,.inl (ai.of bM),rfl,Q8 _,_,rfl,?_⟩;rw[au bY,JW];cases hall:(Txt.split y "<").all cA with
      |false =>
       refine a_ (bad (λz=>?_) v4 v7);unfold eU at z;rw[hall,Eb]at z;cases z
      |true =>
       have hP:eU y=true:=by unfold eU;rw[hall,bK h2];rfl
       rw[az hP]at hb;obtain⟨a,b,GX,ha,hb2⟩:=zW hP;have ez:dy y=((valN a:Int),(valN b:Int)):=by unfold dy mO;rw[GX];rfl
       rw[GX]at bM;have va:fM a = .int (valN a:Nat):=az ha;have vb:fM b = .int (valN b:Nat):=az hb2;rw[show[a,b].map fM = [V.int (valN a:Nat),V.int (valN b:Nat)]by rw[cI,cI,En,va,vb]]at bM;refine aI ⟨_,rfl,.inl ⟨rfl,_,ai.of cQ⟩,_,rfl,D2,_,0,_,rfl,rfl,ai.of bM,bp (j:=0) rfl,_,rfl,D2,_,1,_,rfl,rfl,ai.of bM,bp (j:=1) rfl,by show 2<=sizeLine;decide,λt ht=>⟨L,ys,_,rfl,rfl,Same.put ht _ _ cQ,cP (by omega),?_⟩⟩;have st:=Same.put (o:=.tup [V.int (valN a:Nat),V.int (valN b:Nat)]) ht;refine⟨_,_,ys++[.ref t],rfl,sk (s3.trans (j6.trans st)),by rw[aA U6];exact st _ _ q5,ak,?_,hb,by rw[dD];show ys.length+1<=_;omega⟩;rw[wF hi,gW];have Ta:wr[i]=y:=(cG.mp hp).2;rw[Ta];refine WN (st _ _ cQ) (lh (Paired.c5 hp3 λ_ _ q=>q.same (j6.trans st)) (.cons ⟨t,rfl,?_⟩ .nil));rw[ez];exact ak
     ·rw[bE (show ¬ V.int ((Txt.split y "<").length:Nat)=V.int 2 from λe=>h2 (by have:=V.int.inj e;omega))]
      refine a_ (a_ (bad (λz=>?_) v4 v7));unfold eU at z;rw[bE h2,j_]at z;cases z
   ·rintro σ H3 ⟨v4,v7,ys,rfl,s3,q3,fk,hp3,hb,hyl⟩
    rw[en,nr]at hb;rw[en,pR]at hp3;have hb:fZ wr 1=none:=hb;obtain⟨kC,kk⟩:=kk hb;dsimp only;show bD _ _ _ [some (.str x),some (.ref l),some (.int (valN w0:Nat)),some (.ref L),v4,none,none,v7,none] _;refine⟨_,rfl,_,_,rfl,rfl,_,rfl,?_⟩
    by_cases c0:((valN w0:Nat):Int)<1
    ·rw[bK c0]
     refine a_ (a_ ⟨by show 2<=sizeLine;decide,λt ht=>⟨by show 0<=sizeLine;decide,λe he=>⟨by show 2<=sizeLine;decide,λr hr'=>?_⟩⟩⟩);exact kC (λz=>by omega) r t e _ (s3.trans ((Same.put ht).trans ((Same.put he).trans (Same.put hr')))) (Same.put hr' _ _ (Same.put he _ _ ak)) (Same.put hr' _ _ ak) ak
    rw[bE c0];refine aI ⟨_,rfl,_,_,rfl,rfl,_,rfl,?_⟩
    by_cases xC:((valN w0:Nat):Int) > 24
    ·rw[bK xC]
     refine a_ ⟨by show 2<=sizeLine;decide,λt ht=>⟨by show 0<=sizeLine;decide,λe he=>⟨by show 2<=sizeLine;decide,λr hr'=>?_⟩⟩⟩;exact kC (λz=>by omega) r t e _ (s3.trans ((Same.put ht).trans ((Same.put he).trans (Same.put hr')))) (Same.put hr' _ _ (Same.put he _ _ ak)) (Same.put hr' _ _ ak) ak
    rw[bE xC];refine aI ?_;obtain⟨kZ,kR⟩:=kk (valN w0) rfl (by omega) (by omega);have n1:1<=valN w0:=by omega
    have hn:valN w0<=24:=by omega
    clear kk kC c0 xC;generalize valN w0=n at kZ kR n1 hn ⊢;have hz0:∀z∈wr.map dy,0<=z.1/\0<=z.2:=λz hz=>by
     obtain⟨y,_,rfl⟩:=cU.mp hz;exact⟨wt _,wt _⟩
    generalize wr.map dy=zs at hp3 kZ kR hz0;refine⟨_,rfl,L,rfl,⟨_,ai.of fk⟩,jn (K:=K) (a:=L) (xs:=ys) (λi σ H4=>∃v5 v8:Option V,σ = [some (.str x),some (.ref l),some (.int (n:Nat)),some (.ref L),v4,v5,none,v7,v8]/\Same H3 H4/\firstBad n zs=firstBad n (zs.drop i)) ⟨none,none,rfl,Same.refl _,by rw[nu]⟩ (λi σ H4 _ ⟨_,_,_,s4,_⟩=>ai.of (s4 _ _ fk)) ?_ ?_⟩
    ·rintro i y σ H4 hi ⟨v5,v8,rfl,s4,hf⟩
     obtain⟨z,hz,t,rfl,ht⟩:=jr hp3 hi;rw[ql hz,tK]at hf;obtain⟨z1,z2⟩:=hz0 z (eh hz);have oB:=s4 _ _ ht;refine⟨_,rfl,t,rfl,⟨_,aQ.of oB⟩,Ra (K:=K) (a:=t) (xs:=[.int z.1,.int z.2]) (λk σ H5=>∃v8:Option V,σ = [some (.str x),some (.ref l),some (.int (n:Nat)),some (.ref L),v4,some (.ref t),none,v7,v8]/\Same H4 H5/\(1<=k->iY n z.1)/\(2<=k->iY n z.2))
      ⟨_,rfl,Same.refl _,λh=>by omega,λh=>by omega⟩ (λk σ H5 _ ⟨_,_,s5,_⟩=>aQ.of (s5 _ _ oB)) ?_ ?_⟩
     ·rintro k y σ H5 hy ⟨v8,rfl,s5,i1,i2⟩
      obtain⟨q,rfl,hq⟩:∃q:Int,y = .int q/\((k=0/\q=z.1)\/(k=1/\q=z.2)):=by
       match k,hy with
       |0,hy=>cases hy;exact⟨_,rfl,.inl ⟨rfl,rfl⟩⟩
       |1,hy=>cases hy;exact⟨_,rfl,.inr ⟨rfl,rfl⟩⟩
      have hbad:¬ iY n q->firstBad n zs=some q:=λhq'=>by
       rcases hq with⟨rfl,rfl⟩|⟨rfl,rfl⟩
       ·rw[hf,au hq']
       ·rw[hf,az (i1 (aO _)),au hq']
      have q0:0<=q:=by rcases hq with⟨_,rfl⟩|⟨_,rfl⟩<;>omega
      refine⟨_,rfl,_,rfl,_,_,rfl,rfl,_,rfl,?_⟩;dsimp only
      by_cases x1:q>=(n:Int)
      ·rw[bK x1]
       refine a_ ⟨_,rfl,by show 2<=sizeLine;decide,λt ht=>⟨by show 0<=sizeLine;decide,λe he=>⟨by show 2<=sizeLine;decide,λr hr'=>?_⟩⟩⟩;exact kZ q (hbad λz=>by omega) r t e _ (s3.trans (s4.trans (s5.trans ((Same.put ht).trans ((Same.put he).trans (Same.put hr')))))) (Same.put hr' _ _ (Same.put he _ _ ak)) (Same.put hr' _ _ ak) ak
      ·rw[bE x1]
       have hin:iY n q:=⟨q0,by omega⟩;refine aI ⟨_,rfl,s5,λ_=>?_,λh=>?_⟩
       ·rcases hq with⟨rfl,rfl⟩|⟨rfl,rfl⟩
        ·exact hin
        ·exact i1 (aO _)
       ·rcases hq with⟨rfl,rfl⟩|⟨rfl,rfl⟩
        ·omega
        ·exact hin
     ·rintro σ H5 ⟨v8,rfl,s5,i1,i2⟩
      have j1:=i1 (by show 1<=2;decide);have j2:=i2 (aO _);exact⟨_,_,rfl,s4.trans s5,by rw[hf,az j1,az j2]⟩
    ·rintro σ H4 ⟨v5,v8,rfl,s4,hf⟩
     rw[<- cV hp3,nr]at hf;obtain⟨ps,rfl,hbb⟩:=zz hf;have hPI:kj K H4 L (ft ps):=⟨ys,ai.of (s4 _ _ fk),Paired.c5 hp3 λ_ _ q=>q.same s4⟩;dsimp only;refine⟨_,rfl,_,rfl,n,L,ps,rfl,hPI.nat,n1,hn,hbb,λL2 us R H5 s5 hL2 bM hU hC=>?_⟩;dsimp only[aW];have o9:=s3.trans (s4.trans s5);refine⟨_,rfl,L2,n,R,us,rfl,ai.of bM,hU,hn,hC.refl,?_⟩;refine(kR ps rfl hbb us R hU hC H5 L2 o9 bM).mono λv H6 h6=>?_;exact⟨_,rfl,by show 2<=sizeLine;decide,λr hr'=>h6 r _ (Same.put hr') ak⟩
  ·have tb:gD (w0::wr)=some 0:=au hN
   rw[tb]at kT;have ev:fM w0 = .non:=au hN;rw[ev];refine⟨_,rfl,rfl,_,rfl,a_ ⟨by show 2<=sizeLine;decide,λt ht=>⟨by show 0<=sizeLine;decide,λe he=>⟨by show 2<=sizeLine;decide,λr hr'=>?_⟩⟩⟩⟩;exact kT 0 rfl r t e _ (ju.trans ((Same.put ht).trans ((Same.put he).trans (Same.put hr')))) (Same.put hr' _ _ (Same.put he _ _ ak)) (Same.put hr' _ _ ak) ak
end
noncomputable def um:List Str:=["NoChain","NoClimb","NoCount","NoEnds","NoExchange","NoJoin","NoLine","NoName","NoNumber","NoOrder","NoPart","NotEven","NoText","NoThing","NoWord"]
noncomputable def posK(j:Nat):Nat:=if j<11 then j else if j=14 then 11 else j+1
noncomputable def dG(j:Nat):List Bool:=[decide (0=j),decide (1=j),decide (2=j),decide (3=j),decide (4=j),decide (5=j),decide (6=j),decide (7=j),decide (8=j),decide (9=j),decide (10=j),decide (14=j),decide (11=j),decide (12=j),decide (13=j)]
theorem Rb:∀j<15,((dG j).filter id).length=1/\(dG j).idxOf true=posK j/\true∈dG j:=by decide
theorem TQ:∀j<15,(um.map V.str)[posK j]?=some (.str (tJ.getD j ""))
 |0,_|1,_|2,_|3,_|4,_|5,_|6,_|7,_|8,_|9,_|10,_|11,_|12,_|13,_|14,_=>rfl
 |n+15,h=>absurd h (by omega)
section
variable {P:Program} {w:World} {K:W.Frag} {mg:Str->Option Value} {base:Heap} {f:Addr} {fd:FuncData} {a0 a1 a2 a3 a4 a5 a6 a7 a8 a9 a10 a11 a12 a13 a14 aE:Addr}
abbrev dn:Stmt:=top 59
theorem Mb:bh ["_law_e","_law_found","_law_words"] ["_law_e"] (ay dn):=⟨rfl,rfl,rfl,by decide +kernel,rfl,by decide +kernel,by decide +kernel⟩
theorem Ri:(ay dn).names.lookup ("ClimbError" : Str)=some .globalImplicit:=by decide +kernel
theorem Rj:(ay dn).names.lookup ("NoChain" : Str)=some .globalImplicit:=by decide +kernel
theorem Rk:(ay dn).names.lookup ("NoClimb" : Str)=some .globalImplicit:=by decide +kernel
theorem Rm:(ay dn).names.lookup ("NoCount" : Str)=some .globalImplicit:=by decide +kernel
theorem Rn:(ay dn).names.lookup ("NoEnds" : Str)=some .globalImplicit:=by decide +kernel
theorem Ro:(ay dn).names.lookup ("NoExchange" : Str)=some .globalImplicit:=by decide +kernel
theorem Rp:(ay dn).names.lookup ("NoJoin" : Str)=some .globalImplicit:=by decide +kernel
theorem Rq:(ay dn).names.lookup ("NoLine" : Str)=some .globalImplicit:=by decide +kernel
theorem Rr:(ay dn).names.lookup ("NoName" : Str)=some .globalImplicit:=by decide +kernel
theorem Rt:(ay dn).names.lookup ("NoNumber" : Str)=some .globalImplicit:=by decide +kernel
theorem Ru:(ay dn).names.lookup ("NoOrder" : Str)=some .globalImplicit:=by decide +kernel
theorem Rv:(ay dn).names.lookup ("NoPart" : Str)=some .globalImplicit:=by decide +kernel
theorem Rw:(ay dn).names.lookup ("NoText" : Str)=some .globalImplicit:=by decide +kernel
theorem Rx:(ay dn).names.lookup ("NoThing" : Str)=some .globalImplicit:=by decide +kernel
theorem Ry:(ay dn).names.lookup ("NoWord" : Str)=some .globalImplicit:=by decide +kernel
theorem RB:(ay dn).names.lookup ("NotEven" : Str)=some .globalImplicit:=by decide +kernel
theorem RC:(ay dn).names.lookup ("ValueError" : Str)=some .globalImplicit:=by decide +kernel
theorem eT:(ay dn).names.lookup ("isinstance" : Str)=some .globalImplicit:=by decide +kernel
theorem V0 (F:aT K "_law_kind" "_law_kind" dn f fd) (T:Txt mg) (Er:kb mg a0 a1 a2 a3 a4 a5 a6 a7 a8 a9 a10 a11 a12 a13 a14 aE) :
  aN P w K mg base bf 1 f fd ["_law_e"] (Cb λC j=>df K a0 a1 a2 a3 a4 a5 a6 a7 a8 a9 a10 a11 a12 a13 a14 aE C j):=by
 refine F.ok Mb (λvs H Q E h=>?_) (λcdv A outer s H vs Q E hr h=>?_)
 ·obtain⟨e,C,j,rfl,_⟩:=h
  rfl
 ·obtain⟨e,C,j,rfl,hx,hR,hj,kk⟩:=h
  have nd:=Mb.nd;refine⟨_,(ao (aJ (i:=1) nd rfl (Or.inl rfl) (b9 (ae (aR (eR (K:=K) (.ref a0) (.ref a0) (λ_ z=>z) rfl) eT T.isinstance cu (ae (pv 0) (ae (eE (v:=.ref a0) Rj Er.NoChain rfl) ag))) (ae (aR (eR (K:=K) (.ref a1) (.ref a1) (λ_ z=>z) rfl) eT T.isinstance cu (ae (pv 0) (ae (eE (v:=.ref a1) Rk Er.NoClimb rfl) ag))) (ae (aR (eR (K:=K) (.ref a2) (.ref a2) (λ_ z=>z) rfl) eT T.isinstance cu (ae (pv 0) (ae (eE (v:=.ref a2) Rm Er.NoCount rfl) ag))) (ae (aR (eR (K:=K) (.ref a3) (.ref a3) (λ_ z=>z) rfl) eT T.isinstance cu (ae (pv 0) (ae (eE (v:=.ref a3) Rn Er.NoEnds rfl) ag))) ag (bw nofun)) (bw nofun)) (bw nofun)) (bw nofun))))
   (ao (aJ (i:=1) nd rfl (Or.inl rfl) (av gu (pv 1) (b9 (ae (aR (eR (K:=K) (.ref a4) (.ref a4) (λ_ z=>z) rfl) eT T.isinstance cu (ae (pv 0) (ae (eE (v:=.ref a4) Ro Er.NoExchange rfl) ag))) (ae (aR (eR (K:=K) (.ref a5) (.ref a5) (λ_ z=>z) rfl) eT T.isinstance cu (ae (pv 0) (ae (eE (v:=.ref a5) Rp Er.NoJoin rfl) ag))) (ae (aR (eR (K:=K) (.ref a6) (.ref a6) (λ_ z=>z) rfl) eT T.isinstance cu (ae (pv 0) (ae (eE (v:=.ref a6) Rq Er.NoLine rfl) ag))) (ae (aR (eR (K:=K) (.ref a7) (.ref a7) (λ_ z=>z) rfl) eT T.isinstance cu (ae (pv 0) (ae (eE (v:=.ref a7) Rr Er.NoName rfl) ag))) ag (bw nofun)) (bw nofun)) (bw nofun)) (bw nofun)))))
   (ao (aJ (i:=1) nd rfl (Or.inl rfl) (av gu (pv 1) (b9 (ae (aR (eR (K:=K) (.ref a8) (.ref a8) (λ_ z=>z) rfl) eT T.isinstance cu (ae (pv 0) (ae (eE (v:=.ref a8) Rt Er.NoNumber rfl) ag))) (ae (aR (eR (K:=K) (.ref a9) (.ref a9) (λ_ z=>z) rfl) eT T.isinstance cu (ae (pv 0) (ae (eE (v:=.ref a9) Ru Er.NoOrder rfl) ag))) (ae (aR (eR (K:=K) (.ref a10) (.ref a10) (λ_ z=>z) rfl) eT T.isinstance cu (ae (pv 0) (ae (eE (v:=.ref a10) Rv Er.NoPart rfl) ag))) (ae (aR (eR (K:=K) (.ref a14) (.ref a14) (λ_ z=>z) rfl) eT T.isinstance cu (ae (pv 0) (ae (eE (v:=.ref a14) RB Er.NotEven rfl) ag))) ag (bw nofun)) (bw nofun)) (bw nofun)) (bw nofun)))))
   (ao (aJ (i:=1) nd rfl (Or.inl rfl) (av gu (pv 1) (b9 (ae (aR (eR (K:=K) (.ref a11) (.ref a11) (λ_ z=>z) rfl) eT T.isinstance cu (ae (pv 0) (ae (eE (v:=.ref a11) Rw Er.NoText rfl) ag))) (ae (aR (eR (K:=K) (.ref a12) (.ref a12) (λ_ z=>z) rfl) eT T.isinstance cu (ae (pv 0) (ae (eE (v:=.ref a12) Rx Er.NoThing rfl) ag))) (ae (aR (eR (K:=K) (.ref a13) (.ref a13) (λ_ z=>z) rfl) eT T.isinstance cu (ae (pv 0) (ae (eE (v:=.ref a13) Ry Er.NoWord rfl) ag))) ag (bw nofun)) (bw nofun)) (bw nofun)))))
   (ao (bq (PW.pt (fN (gJ (dh (aR (eR (K:=K) (.ty "ValueError") (.type "ValueError") (λ_ z=>z) rfl) eT T.isinstance cu (ae (pv 0) (ae (fu (v:=.ty "ValueError") RC Er.ve PX rfl) ag))))) (fN (gJ (dh (aR (eR (K:=K) (.ref aE) (.ref aE) (λ_ z=>z) rfl) eT T.isinstance cu (ae (pv 0) (ae (eE (v:=.ref aE) Ri Er.ClimbError rfl) ag))))) (gC (aU jW (aR (cj (K:=K) rfl) rfl T.len cw (ae (dg (own:=["_law_one"]) (fr:=[]) rfl (cM (ay dn) ["_law_e","_law_found","_law_words"] rfl rfl (by decide +kernel)) (dJ (K:=K) rfl (pv 1)) (λ_ _ _ _=>⟨(aY (i:=0) (by decide +kernel:(["_law_one"]:List Str).Nodup) rfl (Or.inl rfl)),(oX (dh (pv 0))),(pv 0)⟩)) ag)) aj (aP _)))))) (aq (aS bz)) bx)
   (ao (aJ (i:=2) nd rfl (Or.inl rfl) (b9 (uU ["NoChain","NoClimb","NoCount","NoEnds","NoExchange","NoJoin","NoLine","NoName","NoNumber"] rfl)))
   (ao (aJ (i:=2) nd rfl (Or.inl rfl) (av gu (pv 2) (b9 (uU ["NoOrder","NoPart","NotEven","NoText","NoThing","NoWord"] rfl))))
   (aq (aS (aH (aX (K:=K) rfl) (pv 2) (cR (K:=K) rfl fU O8 PySem.F.type_list_index (Uy (K:=K) rfl) (pv 1) (ae iQ ag)) (λ_ _=>rfl))))))))))),?_⟩
  refine⟨_,rfl,e,C,_,rfl,hx,hR.xc,hR.k0,_,rfl,e,C,_,rfl,hx,hR.xc,hR.k1,_,rfl,e,C,_,rfl,hx,hR.xc,hR.k2,_,rfl,e,C,_,rfl,hx,hR.xc,hR.k3,by show 4<=sizeLine;decide,λl1 hl1=>?_⟩;have s1:Same H (upd H l1 (.lst [.bl (decide (0=j)),.bl (decide (1=j)),.bl (decide (2=j)),.bl (decide (3=j))])):=Same.put hl1;have q1:(upd H l1 (.lst [.bl (decide (0=j)),.bl (decide (1=j)),.bl (decide (2=j)),.bl (decide (3=j))])) l1=some (.lst [.bl (decide (0=j)),.bl (decide (1=j)),.bl (decide (2=j)),.bl (decide (3=j))]):=ak;generalize upd H l1 (.lst [.bl (decide (0=j)),.bl (decide (1=j)),.bl (decide (2=j)),.bl (decide (3=j))])=H1 at s1 q1 ⊢;have hx1:=hx.same s1;refine⟨_,rfl,_,rfl,e,C,_,rfl,hx1,hR.xc,hR.k4,_,rfl,e,C,_,rfl,hx1,hR.xc,hR.k5,_,rfl,e,C,_,rfl,hx1,hR.xc,hR.k6,_,rfl,e,C,_,rfl,hx1,hR.xc,hR.k7,by show 4<=sizeLine;decide,λl2 hl2=>⟨l1,l2,_,_,rfl,rfl,Same.put hl2 _ _ q1,ak,by show 8<=sizeLine;decide,λl3 hl3=>?_⟩⟩;obtain⟨H3,s3,q3,e3⟩:∃H3:Hp,Same H1 H3/\H3 l3=some (.lst (((dG j).take 8).map V.bl))/\H3=upd (upd H1 l2 (.lst [.bl (decide (4=j)),.bl (decide (5=j)),.bl (decide (6=j)),.bl (decide (7=j))])) l3 (.lst (((dG j).take 8).map V.bl)):=⟨_,(Same.put hl2).trans (Same.put hl3),ak,rfl⟩;show bD _ _ _ [some (.ref e),some (.ref l3),none] (upd (upd H1 l2 (.lst [.bl (decide (4=j)),.bl (decide (5=j)),.bl (decide (6=j)),.bl (decide (7=j))])) l3 (.lst (((dG j).take 8).map V.bl)));rw[<- e3];have qz:=hx1.same s3;refine⟨_,rfl,_,rfl,e,C,_,rfl,qz,hR.xc,hR.k8,_,rfl,e,C,_,rfl,qz,hR.xc,hR.k9,_,rfl,e,C,_,rfl,qz,hR.xc,hR.k10,_,rfl,e,C,_,rfl,qz,hR.xc,hR.k14,by show 4<=sizeLine;decide,λl4 d8=>⟨l3,l4,_,_,rfl,rfl,Same.put d8 _ _ q3,ak,by show 12<=sizeLine;decide,λl5 bM=>?_⟩⟩;obtain⟨H5,s5,q5,e5⟩:∃H5:Hp,Same H3 H5/\H5 l5=some (.lst (((dG j).take 12).map V.bl))/\H5=upd (upd H3 l4 (.lst [.bl (decide (8=j)),.bl (decide (9=j)),.bl (decide (10=j)),.bl (decide (14=j))])) l5 (.lst (((dG j).take 12).map V.bl)):=⟨_,(Same.put d8).trans (Same.put bM),ak,rfl⟩;show bD _ _ _ [some (.ref e),some (.ref l5),none] (upd (upd H3 l4 (.lst [.bl (decide (8=j)),.bl (decide (9=j)),.bl (decide (10=j)),.bl (decide (14=j))])) l5 (.lst (((dG j).take 12).map V.bl)));rw[<- e5];have kP:=qz.same s5;refine⟨_,rfl,_,rfl,e,C,_,rfl,kP,hR.xc,hR.k11,_,rfl,e,C,_,rfl,kP,hR.xc,hR.k12,_,rfl,e,C,_,rfl,kP,hR.xc,hR.k13,by show 3<=sizeLine;decide,λl6 kK=>⟨l5,l6,_,_,rfl,rfl,Same.put kK _ _ q5,ak,by show 15<=sizeLine;decide,λl7 gn=>?_⟩⟩;obtain⟨H7,s7,q7,e7⟩:∃H7:Hp,Same H5 H7/\H7 l7=some (.lst ((dG j).map V.bl))/\H7=upd (upd H5 l6 (.lst [.bl (decide (11=j)),.bl (decide (12=j)),.bl (decide (13=j))])) l7 (.lst ((dG j).map V.bl)):=⟨_,(Same.put kK).trans (Same.put gn),ak,rfl⟩;show bD _ _ _ [some (.ref e),some (.ref l7),none] (upd (upd H5 l6 (.lst [.bl (decide (11=j)),.bl (decide (12=j)),.bl (decide (13=j))])) l7 (.lst ((dG j).map V.bl)));rw[<- e7];have Iw:=kP.same s7;obtain⟨f1,f2,f3⟩:=Rb j hj;refine⟨_,rfl,e,C,_,rfl,Iw,hR.xc,hR.kv,_,rfl,aI ⟨_,rfl,e,C,_,rfl,Iw,hR.xc,hR.ke,_,rfl,aI ?_⟩⟩;refine⟨_,rfl,l7,rfl,⟨_,ai.of q7⟩,λD hD=>qi (λi=>(dG j).getD i false) (λi=>.bl true) (src_list (ai.of q7)) hD (by show 15<sizeLine;decide) (λi H8 Kt Kf hi hs hkt hkf=>?_) (λH8 s8 iL=>?_)⟩
  ·have hi':i<15:=hi
   have eg:((dG j).map V.bl).getD i .non = .bl ((dG j).getD i false):=by
    rw[aZ,aZ,dR,aK (show i<(dG j).length from hi')];rfl
   refine⟨_,rfl,_,by rw[eg],bB (λh=>?_) (λh=>?_)⟩
   ·refine⟨_,rfl,?_⟩
    rw[eg,h];exact hkt _ h (Same.refl _)
   ·exact hkf _ (by simpa using h) (Same.refl _)
  ·have hlen:(((List.range 15).filter λi=>(dG j).getD i false).map λ_=>V.bl true).length=1:=by
    rw[aB];exact(show ∀j<15,((List.range 15).filter λi=>(dG j).getD i false).length=1 by decide) j hj
   refine⟨D,_,rfl,.inl (ai.of iL),rfl,_,rfl,?_⟩;rw[show((dG j).map V.bl).length=15 from rfl,hlen];refine aI ?_;refine⟨by show 9<=sizeLine;decide,λw1 hw1=>?_⟩;refine⟨_,rfl,by show 6<=sizeLine;decide,λw2 hw2=>⟨w1,w2,_,_,rfl,rfl,Same.put hw2 _ _ ak,ak,by show 15<=sizeLine;decide,λw3 Iu=>?_⟩⟩;have s9:=((Same.put (o:=.lst ((um.take 9).map V.str)) hw1).trans (Same.put (o:=.lst ((um.drop 9).map V.str)) hw2)).trans (Same.put (o:=.lst (um.map V.str)) Iu);have q9:=s9 _ _ (s8 _ _ q7);refine⟨_,rfl,_,rfl,.inl ⟨rfl,_,ai.of q9⟩,l7,dG j,rfl,rfl,ai.of q9,f3,?_⟩;rw[f2];refine⟨w3,_,_,.str (tJ.getD j ""),rfl,rfl,ai.of ak,bp ?_,kk _ ((((s1.trans s3).trans s5).trans s7).trans (s8.trans s9))⟩;exact TQ j hj
noncomputable def pK(cX cT cO cJ:Addr)(H:Hp)(k:Str)(e:Addr)(v:V):Prop:=
 (k = "NoCount" /\ v = .non)\/(∃d,k = "NoThing" /\ H e=some (eZ e cT (some d))/\H d=some (.xd [("thing", v)]))\/(∃d,k = "NoOrder" /\ H e=some (eZ e cO (some d))/\H d=some (.xd [("things", v)])) \/
 (∃d,k = "NoJoin" /\ H e=some (eZ e cJ (some d))/\H d=some (.xd [("things", v)]))\/(∃d,k = "NoText" /\ H e=some (eZ e cX (some d))/\H d=some (.xd [("at", v)]))
abbrev Bs:Stmt:=top 60
theorem L8:bh ["_law_kind_here","_law_e"] ["_law_kind_here","_law_e"] (ay Bs):=⟨rfl,rfl,rfl,by decide +kernel,rfl,by decide +kernel,by decide +kernel⟩
noncomputable def Cq(cX cT cO cJ:Addr):Sp:=λvs H Q _=>∃(k:Str) (e:Addr) (v:V),vs = [.str k,.ref e]/\pK cX cT cO cJ H k e v/\∀H',Same H H'->Q v H'
theorem VG (F:aT K "_law_field" "_law_field" Bs f fd) (T:Txt mg) (lz:df K a0 a1 a2 a3 a4 a5 a6 a7 a8 a9 a10 a11 a12 a13 a14 aE a12 12) (lr:df K a0 a1 a2 a3 a4 a5 a6 a7 a8 a9 a10 a11 a12 a13 a14 aE a9 9) (lq:df K a0 a1 a2 a3 a4 a5 a6 a7 a8 a9 a10 a11 a12 a13 a14 aE a5 5) (lu:df K a0 a1 a2 a3 a4 a5 a6 a7 a8 a9 a10 a11 a12 a13 a14 aE a11 11)
  (lH:jC K a12 "thing") (lF:jC K a9 "things") (lE:jC K a5 "things") (lG:jC K a11 "at") :
  aN P w K mg base bf 1 f fd ["_law_kind_here","_law_e"] (Cq a11 a12 a9 a5):=by
 refine F.ok L8 (λvs H Q E h=>?_) (λcdv A outer s H vs Q E hr h=>?_)
 ·obtain⟨k,e,v,rfl,_⟩:=h
  rfl
 ·obtain⟨k,e,v,rfl,hF,kk⟩:=h
  have nd:=L8.nd;refine⟨_,(ao (bq (aU bQ (pv 0) bz (aP _)) (aq (aS (uY (pv 1)))) bx)
   (ao (bq (PW.pt (fN (aU bQ (pv 0) bz (aP _)) (gC (aU bQ (pv 0) bz (aP _))))) (aq (aS (uY (pv 1)))) bx)
   (ao (bq (aU bQ (pv 0) bz (aP _)) (aq (aS (uY (pv 1)))) bx)
   (ao (bq (aU bQ (pv 0) bz (aP _)) (aq (aS (uY (pv 1)))) bx)
   (aq (aS gB)))))),?_⟩
  have kq:=kk H (Same.refl _)
  rcases hF with⟨rfl,rfl⟩|⟨d,rfl,he,hd⟩|⟨d,rfl,he,hd⟩|⟨d,rfl,he,hd⟩|⟨d,rfl,he,hd⟩
  ·refine⟨_,rfl,rfl,_,rfl,aI ?_⟩
   refine⟨_,rfl,rfl,_,rfl,aI ⟨_,rfl,rfl,_,rfl,aI ?_⟩⟩;refine⟨_,rfl,rfl,_,rfl,aI ?_⟩;exact⟨_,rfl,rfl,_,rfl,aI kq⟩
  ·refine⟨_,rfl,rfl,_,rfl,a_ ?_⟩
   exact⟨_,rfl,e,a12,d,_,_,rfl,he,hd,lz.xc,lH.hd,lH.xs.no,lH.ng,rfl,kq⟩
  ·refine⟨_,rfl,rfl,_,rfl,aI ?_⟩
   refine⟨_,rfl,rfl,_,rfl,a_ (a_ ?_)⟩;exact⟨_,rfl,e,a9,d,_,_,rfl,he,hd,lr.xc,lF.hd,lF.xs.no,lF.ng,rfl,kq⟩
  ·refine⟨_,rfl,rfl,_,rfl,aI ?_⟩
   refine⟨_,rfl,rfl,_,rfl,aI ⟨_,rfl,rfl,_,rfl,a_ ?_⟩⟩;exact⟨_,rfl,e,a5,d,_,_,rfl,he,hd,lq.xc,lE.hd,lE.xs.no,lE.ng,rfl,kq⟩
  ·refine⟨_,rfl,rfl,_,rfl,aI ?_⟩
   refine⟨_,rfl,rfl,_,rfl,aI ⟨_,rfl,rfl,_,rfl,aI ?_⟩⟩;refine⟨_,rfl,rfl,_,rfl,a_ ?_⟩;exact⟨_,rfl,e,a11,d,_,_,rfl,he,hd,lu.xc,lG.hd,lG.xs.no,lG.ng,rfl,kq⟩
end
inductive Dx (ws:List Str):Str->(V->Hp->Prop)->Prop
 |text (k:Nat):gD ws=some k->Dx ws "NoText" λv _=>v = .int (k:Nat)
 |count:gD ws=none->¬ (1<=(valN (ws.headD ""):Int)/\(valN (ws.headD ""):Int)<=24)->Dx ws "NoCount" λv _=>v = .non
 |thing (n:Nat) (z:Int):gD ws=none->valN (ws.headD "")=n->1<=n->n<=24->firstBad n (ws.tail.map dy)=some z->Dx ws "NoThing" λv _=>v = .int z
 |order (n:Nat) (ps:List (Nat × Nat)) (R:Nat->Nat->Bool) (q:Nat × Nat):gD ws=none->valN (ws.headD "")=n->1<=n->n<=24->ws.tail.map dy=ft ps->(∀p∈ps,p.1<n/\p.2<n)->Ev.gR n ps R->(bF n).find? (bothW R)=some q ->
   Dx ws "NoOrder" λv H=>∃t,v = .ref t/\H t=some (.tup [.int (q.1:Nat),.int (q.2:Nat)])
 |join (n:Nat) (ps:List (Nat × Nat)) (R:Nat->Nat->Bool) (q:Nat × Nat):gD ws=none->valN (ws.headD "")=n->1<=n->n<=24->ws.tail.map dy=ft ps->(∀p∈ps,p.1<n/\p.2<n)->Ev.gR n ps R->(bF n).find? (bothW R)=none->(bF n).find? (cH (bC n R) (bC n λa b=>R b a))=some q ->
   Dx ws "NoJoin" λv H=>∃t,v = .ref t/\H t=some (.tup [.int (q.1:Nat),.int (q.2:Nat)])
theorem uB:∀{ps qs:List (Nat × Nat)},ft ps=ft qs->ps=qs
 | [],[],_=>rfl
 | [],_::_,h=>nomatch h
 |_::_,[],h=>nomatch h
 |p::ps,q::qs,h=>by
  unfold ft at h;rw[cI,cI,rT,Fd]at h;obtain⟨⟨h1,h2⟩,h3⟩:=h;rw[uB h3,show p=q from Prod.ext (by omega) (by omega)]
theorem sP{n:Nat}{ps:List (Nat × Nat)}(h:∀p∈ps,p.1<n/\p.2<n):firstBad n (ft ps)=none:=by
 induction ps with
 |nil=>rfl
 |cons p r ih =>
  have h1:=h p cK;show firstBad n (((p.1:Int),(p.2:Int))::ft r)=none;rw[tK,az ⟨by show(0:Int)<=(p.1:Int);omega,by show(p.1:Int)<n;omega⟩,az ⟨by show(0:Int)<=(p.2:Int);omega,by show(p.2:Int)<n;omega⟩];exact ih λq hq=>h q (bT _ hq)
theorem Qu {x k:Str} {ws:List Str} {F:V->Hp->Prop} {H:Hp} {Q:VK} {E:XK} (d:Dx ws k F) (e:Txt.split x " " = ws) (hx:x.length<=30000) (hl:ws.length<=900) (mx:∀y∈ws,y.length<=40)
  (kq:∀r t l v H',Same H H'->H' t=some (.tup [.str k,v])->F v H'->H' r=some (.tup [.ref t,.ref l])->Q (.ref r) H'):rn [.str x] H Q E:=by
 refine⟨x,ws,rfl,e,hx,hl,mx,?_⟩;cases d with
 |text k h=>exact⟨λk' h' r t l H' s h1 _ h3=>kq r t l _ H' s h1 (by rw[h]at h';cases h';rfl) h3,λh'=>(by rw[h]at h';cases h')⟩
 |count h hc=>exact⟨λk' h'=>(by rw[h]at h';cases h'),λ_=>⟨λ_ r t l H' s h1 _ h3=>kq r t l _ H' s h1 rfl h3,λn hn n1 n2=>absurd ⟨by omega,by omega⟩ hc⟩⟩
 |thing n z h hn n1 n2 hz =>
  refine⟨λk' h'=>(by rw[h]at h';cases h'),λ_=>⟨λhc=>absurd ⟨by omega,by omega⟩ hc,λm hm m1 m2=>?_⟩⟩;obtain rfl:m=n:=by omega
  refine⟨λz' hz' r t l H' s h1 _ h3=>kq r t l _ H' s h1 (by rw[hz]at hz';cases hz';rfl) h3,λps e' hb=>?_⟩;rw[e',sP hb]at hz;cases hz
 |order n ps R q h hn n1 n2 e' hb hC hq =>
  refine⟨λk' h'=>(by rw[h]at h';cases h'),λ_=>⟨λhc=>absurd ⟨by omega,by omega⟩ hc,λm hm m1 m2=>?_⟩⟩;obtain rfl:m=n:=by omega
  refine⟨λz hz=>(by rw[e',sP hb]at hz;cases hz),λps' e'' hb' us R' hU hC' H1 l s1 hl1=>?_⟩;obtain rfl:=uB (e'.symm.trans e'');have hR:=yj hC hC';rw[xB hR]at hq;exact⟨λq' hq' r t H' s h1 h2 r2 H3 s3 h3=>kq r2 r l _ H3 (s1.trans (s.trans s3)) (s3 _ _ h2) (by rw[hq]at hq';cases hq';exact⟨t,rfl,s3 _ _ h1⟩) h3,λh0=>(by rw[hq]at h0;cases h0)⟩
 |join n ps R q h hn n1 n2 e' hb hC hq0 hq =>
  refine⟨λk' h'=>(by rw[h]at h';cases h'),λ_=>⟨λhc=>absurd ⟨by omega,by omega⟩ hc,λm hm m1 m2=>?_⟩⟩;obtain rfl:m=n:=by omega
  refine⟨λz hz=>(by rw[e',sP hb]at hz;cases hz),λps' e'' hb' us R' hU hC' H1 l s1 hl1=>?_⟩;obtain rfl:=uB (e'.symm.trans e'');have hR:=yj hC hC';rw[xB hR]at hq0;rw[Js hR]at hq;exact⟨λq' hq'=>(by rw[hq0]at hq';cases hq'),λ_=>⟨λq' hq' r t H' s h1 h2 r2 H3 s3 h3=>kq r2 r l _ H3 (s1.trans (s.trans s3)) (s3 _ _ h2) (by rw[hq]at hq';cases hq';exact⟨t,rfl,s3 _ _ h1⟩) h3,λh0=>(by rw[hq]at h0;cases h0)⟩⟩
theorem Qv {x:Str} {ws:List Str} {n:Nat} {ps:List (Nat × Nat)} {R:Nat->Nat->Bool} {H:Hp} {Q:VK} {E:XK} (e:Txt.split x " " = ws) (hx:x.length<=30000) (hl:ws.length<=900) (mx:∀y∈ws,y.length<=40)
  (h:gD ws=none) (hn:valN (ws.headD "")=n) (n1:1<=n) (n2:n<=24) (e':ws.tail.map dy=ft ps) (hb:∀p∈ps,p.1<n/\p.2<n) (hC:Ev.gR n ps R) (hq0:(bF n).find? (bothW R)=none) (hq:(bF n).find? (cH (bC n R) (bC n λa b=>R b a))=none)
  (kq:∀r t l us H',Same H H'->H' t=some (.tup [.str "", .non])->H' l=some (.lst (us.map nV))->cL n R us->H' r=some (.tup [.ref t,.ref l])->Q (.ref r) H'):rn [.str x] H Q E:=by
 refine⟨x,ws,rfl,e,hx,hl,mx,λk' h'=>(by rw[h]at h';cases h'),λ_=>⟨λhc=>absurd ⟨by omega,by omega⟩ hc,λm hm m1 m2=>?_⟩⟩;obtain rfl:m=n:=by omega
 refine⟨λz hz=>(by rw[e',sP hb]at hz;cases hz),λps' e'' hb' us R' hU hC' H1 l s1 hl1=>?_⟩;obtain rfl:=uB (e'.symm.trans e'');have hR:=yj hC hC';rw[xB hR]at hq0;rw[Js hR]at hq;have hU':cL m R us:=⟨hU.len,λa b ha hb=>by rw[hU.bit a b ha hb,hR a b ha hb],hU.lt⟩;exact⟨λq' hq'=>(by rw[hq0]at hq';cases hq'),λ_=>⟨λq' hq'=>(by rw[hq]at hq';cases hq'),λ_ r H' s h1 r2 H3 s3 h3=>kq r2 r l us H3 (s1.trans (s.trans s3)) (s3 _ _ h1) ((s.trans s3) _ _ hl1) hU' h3⟩⟩
section
variable {n:Nat} {R:Nat->Nat->Bool} {a b c d:Nat}
end
noncomputable def pX(C:Addr)(H:Hp)(p n:Nat)(R:Nat->Nat->Bool):Prop:=∃R',nL C H p n R'/\∀a b,a<n->b<n->R' a b=R a b
theorem pX.same{C:Addr}{H H':Hp}{p n:Nat}{R:Nat->Nat->Bool}(s:Same H H')(h:pX C H p n R):pX C H' p n R:=by
 obtain⟨R',a,b⟩:=h;exact⟨R',a.same s,b⟩
section
variable {P:Program} {w:World} {K:W.Frag} {mg:Str->Option Value} {base:Heap} {f:Addr} {fd:FuncData}
abbrev Bz:Stmt:=top 47
theorem Ml:bh ["_law_found","_law_due_here","_law_k"] ["_law_found","_law_due_here"] (ay Bz):=⟨rfl,rfl,rfl,by decide +kernel,rfl,by decide +kernel,by decide +kernel⟩
noncomputable def h_(R:Hp->V->V->Prop):Sp:=λvs H Q _=>∃x y,vs = [x,y]/\R H x y/\∀H',Same H H'->Q (.bl true) H'
set_option maxHeartbeats 0 in
theorem uP {k:Nat} {R:Hp->V->V->Prop} (mono:∀H H' x y,Same H H'->R H x y->R H' x y) (F:aT K "_law_same" "_law_same" Bz f fd) (T:Txt mg) (kE:aF P w K mg base "_law_same" ["_law_found","_law_due_here"] k (h_ R)) :
  aN P w K mg base bf (k+1) f fd ["_law_found","_law_due_here"] (h_ (Like R)):=by
 refine F.ok Ml (λvs H Q E h=>?_) (λcdv A outer s H vs Q E hr h=>?_)
 ·obtain⟨x,y,rfl,_⟩:=h
  rfl
 ·obtain⟨x,y,rfl,hL,kk⟩:=h
  have nd:=Ml.nd;obtain⟨c,hL⟩:∃c:Bool,(Leaf x/\x=y)\/∃(a b:Nat) (xs ys:List V),x = .ref a/\y = .ref b/\jD c H a xs/\jD c H b ys/\Paired (R H) xs ys/\xs.length<=1000:=by
   rcases hL with h|⟨c,h⟩
   ·exact⟨true,.inl h⟩
   ·exact⟨c,.inr h⟩
  refine⟨_,(ao (bq (PW.pt (fN (dh (aR (fE (K:=K) "tuple" rfl) rfl T.isinstance cu (ae (pv 1) (ae (fu (v:=.ty "tuple") rfl T.tuple iF rfl) ag)))) (gC (dh (aR (fE (K:=K) "list" rfl) rfl T.isinstance cu (ae (pv 1) (ae (fu (v:=.ty "list") rfl T.list qg rfl) ag))))))) (ao (bq (PW.pt (fN (aU jW (aR (fE (K:=K) "tuple" rfl) rfl T.isinstance cu (ae (pv 0) (ae (fu (v:=.ty "tuple") rfl T.tuple iF rfl) ag))) (aR (fE (K:=K) "tuple" rfl) rfl T.isinstance cu (ae (pv 1) (ae (fu (v:=.ty "tuple") rfl T.tuple iF rfl) ag))) (aP _)) (gC (aU jW (aR (fE (K:=K) "list" rfl) rfl T.isinstance cu (ae (pv 0) (ae (fu (v:=.ty "list") rfl T.list qg rfl) ag))) (aR (fE (K:=K) "list" rfl) rfl T.isinstance cu (ae (pv 1) (ae (fu (v:=.ty "list") rfl T.list qg rfl) ag))) (aP _))))) (aq (aS iQ)) bx)
   (ao (bq (aU jW (aR (cj (K:=K) rfl) rfl T.len cw (ae (pv 0) ag)) (aR (cj (K:=K) rfl) rfl T.len cw (ae (pv 1) ag)) (aP _)) (aq (aS iQ)) bx)
   (ao (b_ cy rfl (cS rfl T.range (ae (aR (cj (K:=K) rfl) rfl T.len cw (ae (pv 1) ag)) ag)) (aY (i:=2) nd rfl (Or.inl rfl))
   (aq (bq (gJ (dh (bj kE hr rfl (ae (aH (z0 (K:=K) c rfl) (pv 0) (pv 2) (λ_ _=>rfl)) (ae (aH (z0 (K:=K) c rfl) (pv 1) (pv 2) (λ_ _=>rfl)) ag)) (aO _)))) (aq (aS iQ)) bx)))
   (aq (aS iQ))))) bx)
   (ao (bq (dh (aR (fE (K:=K) "bool" rfl) rfl T.isinstance cu (ae (pv 1) (ae (fu (v:=.ty "bool") rfl T.bool sS rfl) ag)))) (aq (aS (jt (aR (fE (K:=K) "bool" rfl) rfl T.isinstance cu (ae (pv 0) (ae (fu (v:=.ty "bool") rfl T.bool sS rfl) ag))) (iR (hZ bQ (pv 0) (pv 1) (aP _)))))) bx)
   (ao (bq (dh (aR (fE (K:=K) "int" rfl) rfl T.isinstance cu (ae (pv 1) (ae (fu (v:=.ty "int") rfl T.int lX rfl) ag)))) (aq (aS (jt (aR (fE (K:=K) "int" rfl) rfl T.isinstance cu (ae (pv 0) (ae (fu (v:=.ty "int") rfl T.int lX rfl) ag))) (jt (Kq (aR (fE (K:=K) "bool" rfl) rfl T.isinstance cu (ae (pv 0) (ae (fu (v:=.ty "bool") rfl T.bool sS rfl) ag)))) (iR (hZ bQ (pv 0) (pv 1) (aP _))))))) bx)
   (ao (bq (dh (aR (fE (K:=K) "str" rfl) rfl T.isinstance cu (ae (pv 1) (ae (fu (v:=.ty "str") rfl T.str kD rfl) ag)))) (aq (aS (jt (aR (fE (K:=K) "str" rfl) rfl T.isinstance cu (ae (pv 0) (ae (fu (v:=.ty "str") rfl T.str kD rfl) ag))) (iR (hZ bQ (pv 0) (pv 1) (aP _)))))) bx)
   (aq (aS (jt (hZ oR (pv 1) gB (aP _)) (iR (hZ oR (pv 0) gB (aP _)))))))))),?_⟩
  rcases hL with⟨⟨i,rfl⟩|rfl|⟨b,rfl⟩|⟨t,rfl⟩,rfl⟩|⟨a,b,xs,ys,rfl,rfl,hx,hy,hp,hlen⟩
  ·skip
   refine⟨_,rfl,_,_,_,rfl,.int i,rfl,_,rfl,aI ?_⟩;refine⟨_,rfl,_,_,_,rfl,.int i,rfl,_,rfl,aI ?_⟩;refine⟨_,rfl,_,_,_,rfl,.int i,rfl,_,rfl,aI ?_⟩;refine⟨_,rfl,_,_,_,rfl,.int i,rfl,_,rfl,a_ ?_⟩;refine⟨_,rfl,_,_,_,rfl,.int i,rfl,_,rfl,a_ ?_⟩;refine⟨_,rfl,_,_,_,rfl,.int i,rfl,_,rfl,_,rfl,a_ ?_⟩;refine⟨_,rfl,_,rfl,rfl,?_⟩;rw[bK rfl];exact kk _ (Same.refl _)
  ·skip
   refine⟨_,rfl,_,_,_,rfl,.non,rfl,_,rfl,aI ?_⟩;refine⟨_,rfl,_,_,_,rfl,.non,rfl,_,rfl,aI ?_⟩;refine⟨_,rfl,_,_,_,rfl,.non,rfl,_,rfl,aI ?_⟩;refine⟨_,rfl,_,_,_,rfl,.non,rfl,_,rfl,aI ?_⟩;refine⟨_,rfl,_,_,_,rfl,.non,rfl,_,rfl,aI ?_⟩;refine⟨_,rfl,rfl,_,rfl,?_⟩;rw[bK rfl];refine a_ ⟨_,rfl,rfl,?_⟩;rw[bK rfl];exact kk _ (Same.refl _)
  ·skip
   refine⟨_,rfl,_,_,_,rfl,.bl b,rfl,_,rfl,aI ?_⟩;refine⟨_,rfl,_,_,_,rfl,.bl b,rfl,_,rfl,aI ?_⟩;refine⟨_,rfl,_,_,_,rfl,.bl b,rfl,_,rfl,a_ ?_⟩;refine⟨_,rfl,_,_,_,rfl,.bl b,rfl,_,rfl,a_ ?_⟩;refine⟨_,rfl,_,rfl,rfl,?_⟩;rw[bK rfl];exact kk _ (Same.refl _)
  ·skip
   refine⟨_,rfl,_,_,_,rfl,.str t,rfl,_,rfl,aI ?_⟩;refine⟨_,rfl,_,_,_,rfl,.str t,rfl,_,rfl,aI ?_⟩;refine⟨_,rfl,_,_,_,rfl,.str t,rfl,_,rfl,aI ?_⟩;refine⟨_,rfl,_,_,_,rfl,.str t,rfl,_,rfl,aI ?_⟩;refine⟨_,rfl,_,_,_,rfl,.str t,rfl,_,rfl,a_ ?_⟩;refine⟨_,rfl,_,_,_,rfl,.str t,rfl,_,rfl,a_ ?_⟩;refine⟨_,rfl,_,rfl,rfl,?_⟩;rw[bK rfl];exact kk _ (Same.refl _)
  ·have hlen2:ys.length=xs.length:=(cV hp).symm
   have el:((ys.length:Int)).toNat=ys.length:=bJ _;have lx:ai K H a xs\/aQ K H a xs:=by
    cases c with
    |true=>exact .inl (ai.of hx)
    |false=>exact .inr (aQ.of hx)
   have ly:ai K H b ys\/aQ K H b ys:=by
    cases c with
    |true=>exact .inl (ai.of hy)
    |false=>exact .inr (aQ.of hy)
   have body:∀(D:Ends),D.rt=Q->(Ds (zR (dA (mZ (o5 K) (dA (dO 1) fw)) fw)) (aW 2)
     (rC (Du (tB (pA (h_ R) [] E0 (dA (ig (qW K c) (dO 0) (dO 2)) (dA (ig (qW K c) (dO 1) (dO 2)) fw))))) (m6 (tC (.bl false))) vS)) {D with nx:=λσ H=>m6 (tC (.bl true)) D σ H} [some (.ref a),some (.ref b),none] H:=by
    intro D hD;refine⟨_,rfl,b,_,rfl,ly,_,rfl,(bH (by omega)).1,(bH (by omega)).2,dZ (lo:=0) (n:=((ys.length:Int)).toNat) (λi σ H2=>∃v2,σ = [some (.ref a),some (.ref b),v2]/\Same H H2) ⟨none,rfl,Same.refl _⟩ ?_ ?_⟩
    ·rintro i σ H2 hi ⟨v2,rfl,s2⟩
     rw[el]at hi;obtain⟨p,hp1,hp2⟩:=jr hp (show ys[i]?=some ys[i]from aK hi);refine⟨_,rfl,_,rfl,a,xs,_,p,rfl,rfl,s2.sq hx.sq,at0 hp1,_,rfl,_,rfl,b,ys,_,ys[i],rfl,rfl,s2.sq hy.sq,at0 (aK hi),_,_,rfl,mono _ _ _ _ s2 hp2,λH3 s3=>⟨_,rfl,aI ⟨_,rfl,s2.trans s3⟩⟩⟩
    ·rintro σ H2 ⟨v2,rfl,s2⟩
     show D.rt (.bl true) H2;rw[hD];exact kk _ s2
   have lens:∀(D:Ends),D.rt=Q->(bD (rC (Dv (ig KY (mZ (o5 K) (dA (dO 0) fw)) (mZ (o5 K) (dA (dO 1) fw)))) (m6 (tC (.bl false))) vS)
     (bD (Ds (zR (dA (mZ (o5 K) (dA (dO 1) fw)) fw)) (aW 2)
      (rC (Du (tB (pA (h_ R) [] E0 (dA (ig (qW K c) (dO 0) (dO 2)) (dA (ig (qW K c) (dO 1) (dO 2)) fw))))) (m6 (tC (.bl false))) vS)) (m6 (tC (.bl true))))) D [some (.ref a),some (.ref b),none] H:=by
    intro D hD;refine⟨_,rfl,a,_,rfl,lx,_,rfl,b,_,rfl,ly,rfl,_,rfl,?_⟩;rw[hlen2];refine TB rfl ?_;exact body D hD
   cases c with
   |true =>
    refine⟨_,rfl,_,_,_,rfl,.lst hy,rfl,_,rfl,aI ?_⟩;refine⟨_,rfl,_,_,_,rfl,.lst hy,rfl,_,rfl,a_ ?_⟩;refine⟨_,rfl,_,_,_,rfl,.lst hx,rfl,_,rfl,_,_,_,rfl,.lst hy,rfl,rfl,_,rfl,aI ?_⟩;refine⟨_,rfl,_,_,_,rfl,.lst hx,rfl,_,rfl,_,_,_,rfl,.lst hy,rfl,rfl,_,rfl,aI ?_⟩;exact lens _ rfl
   |false =>
    refine⟨_,rfl,_,_,_,rfl,.tup hy,rfl,_,rfl,a_ (a_ ?_)⟩;refine⟨_,rfl,_,_,_,rfl,.tup hx,rfl,_,rfl,_,_,_,rfl,.tup hy,rfl,rfl,_,rfl,aI ?_⟩;refine⟨_,rfl,_,_,_,rfl,.tup hx,rfl,_,rfl,_,_,_,rfl,.tup hy,rfl,rfl,_,rfl,aI ?_⟩;exact lens _ rfl
end
theorem Wb {P:Program} {w:World} {K:W.Frag} {mg:Str->Option Value} {base:Heap} {f:Addr} {fd:FuncData}:aN P w K mg base bf 0 f fd ["_law_found","_law_due_here"] (h_ λ_ _ _=>False):=
 ⟨λ_ _ _ _ ⟨_,_,_,h,_⟩=>h.elim,λ_ _ _ _ _ _ _ _ _ _ _ _ _ ⟨_,_,_,h,_⟩=>h.elim⟩
abbrev R4:=Like R3
section
variable {P:Program} {w:World} {K:W.Frag} {mg:Str->Option Value} {base:Heap} {f:Addr} {fd:FuncData}
abbrev Bu:Stmt:=top 57
theorem L_:bh ["_law_order","_law_ups_here"] ["_law_order","_law_ups_here"] (ay Bu):=⟨rfl,rfl,rfl,by decide +kernel,rfl,by decide +kernel,by decide +kernel⟩
noncomputable def Cu(K:W.Frag)(C:Addr):Sp:=λvs H Q _=>∃(p u n:Nat) (R:Nat->Nat->Bool) (us:List Nat),vs = [.ref p,.ref u]/\pX C H p n R/\ai K H u (us.map nV)/\cL n R us/\n<=24/\∀H',Same H H'->Q (.bl true) H'
theorem VJ {C:Addr} (F:aT K "_law_is" "_law_is" Bu f fd) (T:Txt mg) (TC:pG K C) (oq:aF P w K mg base "_law_pairs" ["_law_ups_here"] 1 (vN K)) (kE:aF P w K mg base "_law_same" ["_law_found","_law_due_here"] 4 (h_ R4)) :
  aN P w K mg base bf 5 f fd ["_law_order","_law_ups_here"] (Cu K C):=by
 refine F.ok L_ (λvs H Q E h=>?_) (λcdv A outer s H vs Q E hr h=>?_)
 ·obtain⟨p,u,n,R,us,rfl,_⟩:=h
  rfl
 ·obtain⟨p,u,n,R,us,rfl,⟨R',hO,hR⟩,hu,hU,hn,kk⟩:=h
  have nd:=L_.nd;obtain⟨dx,vp,vr,vj,vm,o1,o2,_⟩:=id hO;refine⟨_,(aq (aS (bj kE hr rfl (ae (cZ (ae (Km (K:=K) rfl (pv 0) rfl) (ae (Km (K:=K) rfl (pv 0) rfl) ag))) (ae (cZ (ae (aR (cj (K:=K) rfl) rfl T.len cw (ae (pv 1) ag)) (ae (dm (kG (K:=K) rfl) rfl T.tuple iF (ae (bj oq hr rfl (ae (pv 1) ag)) ag)) ag))) ag))))),?_⟩;refine⟨_,rfl,p,C,dx,_,_,rfl,o1,TC.cl,TC.nC,Q9 _ _ _ _ _,_,rfl,p,C,dx,_,_,rfl,o1,TC.cl,TC.nP,Q_ _ _ _ _ _,by show 2<=sizeLine;decide,λt ht=>?_⟩;have s1:=Same.put ht (o:=.tup [V.int (n:Int),vp]);refine⟨_,rfl,u,_,rfl,.inl (s1.seq hu),_,rfl,u,n,R,us,rfl,s1.seq hu,hU,hn,λl ws H2 s2 hl0 hl hwl Sw=>?_⟩;refine⟨l,ws,rfl,.inl ⟨ai.of hl,λq hq=>?_⟩⟩;have s3:=Same.put hq (o:=.tup ws);refine⟨by show 2<=sizeLine;decide,λt2 zP=>?_⟩;have s4:=Same.put zP (o:=.tup [V.int (((us.map nV).length:Nat):Int),.ref q]);have K_:=s2.trans (s3.trans s4);have o8:=s1.trans K_;obtain⟨a,xs,rfl,q1,q2⟩:=o2.same o8;rw[WR hR]at q2;have Ib:=gI.same (s3.trans s4) Sw;have Iy:xs.length<=1000:=by
   have h1:=cV q2;have h2:=cV Ib;omega
  refine⟨.ref t,.ref t2,rfl,.inr ⟨false,t,t2,_,_,rfl,rfl,K_ _ _ ak,ak,.cons (.inl ⟨.inl ⟨_,rfl⟩,?_⟩) (.cons (.inr ⟨false,a,q,xs,ws,rfl,rfl,q1,s4 _ _ ak,?_,Iy⟩) .nil),by show 2<=1000;decide⟩,λH5 s5=>kk H5 (o8.trans s5)⟩
  ·rw[aB,hU.len]
  ·exact Kg (F:=cY _) (G:=cY _) (R:=sI _) (λp x y h1 h2=>WQ h1 h2) q2 Ib
end
end My
namespace L2
open PySem PySem.Spec PyProof.Rows
section
variable {X:Cx} {e:Expr} {te:TE} {a:Str} {j} {p1 p2 pos:Pos}
end
noncomputable def Pg(X:Cx)(XE:XK)(σ0:St):Value->Shared->Prop:=λex s'=>∃pins H1 s1,Inv X pins σ0 H1 s1/\bA X.prog X.w X.stack H1 s1 XE ex s'
abbrev Cx.jy (X:Cx) (pins:List (Addr × Obj)) (XE:XK) (σ0:St):Cx:=(X.oY pins).wish (Pg (X.oY pins) XE σ0)
noncomputable def YH(σ0:St)(sp:Sp)(E:XK)(t:TA):TE:=λσ H Q=>σ=σ0/\pA sp [] E t σ H Q
section
variable {X:Cx} {pins:List (Addr × Obj)} {XE:XK} {σ0:St} {x:Str} {ps:List Str} {k k':Nat} {sp:Sp} {e:Expr} {es:List Expr} {t:TA} {p pos:Pos}
theorem X5{CX:fQ}{f:Addr}{fd:FuncData}{dF:List V}{ds:List Value}{E:XK}{pins:List (Addr × Obj)}{σ:St}{H:Hp}{s:Shared}{Q:VK}{us:List Value}{vs:List V}(F:aN X.prog X.w X.K X.mg X.base CX k f fd ps sp)(hr:bS k X.A)(hb:Binds X.K fd ps ds)(hd:Vals dF ds)(hx:∀e s',CX X.stack H s E e s'->X.xe e s')(I:Inv X pins σ H s)(r:Vals vs us)(h:sp (vs++dF) H Q E):wpAny (model X.prog X.w) X.A (call (.ref f) us) (EP X pins σ Q) X.xe s:=by
 have r2:Vals (vs++dF) (us++ds):=r.append hd;have hl:(us++ds).length=ps.length:=by rw[<- r2.length];exact F.len _ _ _ _ h
 refine ku (jL (F.run X.A X.stack s H ⟨us,[]⟩ (us++ds) (vs++dF) Q E hr I.env0 (hb s us I.cn hl) r2 h) λr s' hq=>?_);cases r with
 |error e=>exact hx e s' hq
 |ok fl =>
  cases fl with
  |ret u=>exact I.after hq
  |next=>exact False.elim hq
  |brk=>exact False.elim hq
  |cont=>exact False.elim hq
theorem WY (c:fC X.prog X.w X.K X.mg X.base x ps k sp) (hr:bS k' X.A) (hg:Gl (X.jy pins XE σ0) x) (ha:PA (X.jy pins XE σ0) (e::es) t) (hk:k<=k':=by decide) (hdb:(x==("__debug__" : Str))=false:=by decide)
  (he:starEach (e::es) (X.jy pins XE σ0).env=(false,eval e (X.jy pins XE σ0).env)::starEach es (X.jy pins XE σ0).env:=by rfl) (hpl:(backTo pos (starEach es (X.jy pins XE σ0).env)).any (·.1)=false:=by rfl):PE (X.jy pins XE σ0) (.Call (.Name x p) (e::es) [] pos) (YH σ0 sp XE t):=by
 obtain⟨f,fd,F,hm,kp,b⟩:=c.ex;intro lj s σ H Q I h;obtain⟨rfl,h⟩:=h;refine sC (kY I hg hm ?_ hdb);refine W.callWith_K (h₀:=X.base) I.ok.mod.iN kp (aG (ha pos lj s σ H _ I h) λus s1 ⟨vs,H1,I1,r,q⟩=>⟨I1.cn,?_⟩) he hpl;exact X5 (X:=X.jy pins XE σ) F (hr.mono hk) b .nil (λe s' hcx=>⟨lj,H1,s1,I1.fA,hcx⟩) I1 r q
end
noncomputable def Y2(K:W.Frag)(Dc:Addr)(i:Nat)(tb:XK->St->TS)(ts:TS):TS:=λD σ H=>∃XE:XK,tb XE σ D σ H/\∀cls dx H',XE cls dx H'->∃C,cls = .ref C/\W.exmOne K (.ref C) (.ref Dc)=some true /\
 ∀e,H' e=none->ts {nx:=λσ' Od=>D.nx (σ'.set i none) Od,rt:=λ_ _=>False} (σ.set i (some (.ref e))) (upd H' e (eZ e C dx))
section
variable {X:Cx} {body suite:List Stmt} {b0:Stmt} {c n:Str} {np hpos pos:Pos} {i:Nat} {Dc:Addr} {tb:XK->St->TS} {ts:TS}
theorem SP.vY{XE:XK}{σ0:St}{pins:List (Addr × Obj)}{D:Ends}{f:Flow}{s':Shared}(h:SP (X.jy pins XE σ0) [] D f s'):SP X pins D f s':=by
 cases f with
 |next=>obtain⟨σ',H',I,q⟩:=h;exact⟨σ',H',I.fA.rE,q⟩
 |brk=>obtain⟨σ',H',I,q⟩:=h;exact⟨σ',H',I.fA.rE,q⟩
 |cont=>obtain⟨σ',H',I,q⟩:=h;exact⟨σ',H',I.fA.rE,q⟩
 |ret u=>obtain⟨v,σ',H',I,r,q⟩:=h;exact⟨v,σ',H',I.fA.rE,r,q⟩
theorem Xk(hN:X.N.Nodup)(hi:X.N[i]?=some n)(hloc:X.env.scope.names.lookup n=some .local)(hg:Gl X c)(hm:X.mg c=some (.ref Dc))(hst:X.stack=X.env::X.outer)(hf:X.env.frame=some X.env.locals)(R_:X.ex = [])
  (hb:∀XE pins σ0,dE (X.jy pins XE σ0) body (tb XE σ0)) (hs:∀e,dE (X.marked e) (b0::suite) ts) (hd:(c==("__debug__" : Str))=false:=by decide) :
  PS X (.Try body [.ExceptHandler (some (.Name c np)) (some n) (b0::suite) hpos] [] [] pos) (Y2 X.K Dc i tb ts):=by
 intro pins s σ H D I h;obtain⟨XE,h⟩:=h;refine wpAny_Try_except (dX (hb XE pins σ [] s σ H D (I.oY.wish _) h.1) (λf s1 q=>?_) λex s2 hx=>?_)
 ·cases f with
  |next=>exact sE q.vY
  |brk=>exact q.vY
  |cont=>exact q.vY
  |ret u=>exact q.vY
 obtain⟨lj,H1,s1,I1,ea,C,dx,T,H2,rfl,os,bare,un,hok,xr,n1,n2,f1,f2,hE⟩:=hx;obtain⟨C',hC',hex,hs'⟩:=h.2 _ _ _ hE;cases hC';have hfr:X.A.frames=some (X.env::X.outer):=by rw[<- hst];exact I1.ok.frames
 have nx:∀b:Addr,b ∉ ([]:List Addr):=λb z=>nomatch z;have hl:s2.heap.FunFrames X.base (X.env::X.outer):=by
  rw[<- hst];exact tN (λb hb o e=>un.any e (I1.pq b hb) (nx b)) I1.stack
 have nf:∀b∈frs X.stack,H2 b=none:=λb hb=>by
  obtain⟨_,o,ho,_⟩:=I1.stack.mem hb;exact un.free b o ho (I1.pq b hb) (nx b)
 have hc:∀b∈[ea,T],s1.heap.get? b=none:=λb z=>by
  rcases bu.mp z with z|z
  ·rw[z];exact f1
  ·rw[bW.mp z];exact f2
 have nc:∀b∈[ea,T],H2 b=none:=λb z=>by
  rcases bu.mp z with z|z
  ·rw[z];exact n1
  ·rw[bW.mp z];exact n2
 have h0:X.s₀.heap.get? ea=none:=by
  cases z:X.s₀.heap.get? ea with
  |none=>rfl
  |some o =>
   obtain⟨o',z'⟩:=I1.base.there ea o z (by show ea ∉ X.ex;rw[R_];exact nx ea);rw[f1]at z';cases z'
 have hpn:∀p∈X.pn++pins,p.1≠ea:=λp hp z=>by
  have:=(I1.pin p (pQ _ hp)).1;rw[z,f1]at this;cases this
 have at_:∀{h5:Heap} {T5:Addr} {fl:Value},Un (frs X.stack) [] H1 H2 s1.heap h5->bI X.prog X.w H2 h5->eQ h5 ea (.ref C) dx T5 fl->Inv X pins σ (upd H2 ea (eZ ea C dx)) {s2 with heap:=h5}:=by
  intro h5 T5 fl Zn Sv x5;obtain⟨hh,gg,dd,tt,oo⟩:=s2;obtain rfl:oo=s1.os:=os;have J:Inv X pins σ H2 {s1 with heap:=h5,gens:=gg,drawn:=dd,toks:=tt}:=(I1.call (h':=h5) (g':=gg) (d':=dd) (t':=tt) (ch:=[]) Zn Sv bare (λb z=>absurd z (nx b))).rE;obtain⟨oe,vs,e1,e2,e3,e4,_⟩:=x5.ex;exact J.track e1 e4 n1 h0 hpn (QT e1 e2 e3 e4)
 refine As hfr hl hf xr λh3 T' m hT x=>?_;refine tM x λh4 m4 x4=>?_;have M4:Moved (frs X.stack) [ea,T] s2.heap h4:=by rw[hst];exact m.fresh m4 hT
 have N0:=N2 un M4 hc;have H_:=kM hok M4 nf nc;have J4:=at_ N0 H_ x4;obtain⟨oe,vs,e1,e2,e3,e4,_⟩:=x4.ex;refine wpAny_handleBy_cons (codeAny_handlers_test (kY (X:=X.marked ea) J4.marked hg hm ?_ hd)) (by intro q;cases q);have LT:W.Looks (model X.prog X.w) h4 (typeOf (.ref ea)) (.ref C):=e2▸(W.Looks.ld e1).andThen .now;refine W.exm_one (K:=X.K) J4.cn LT hex _ _ _ _ (λ_ _ z=>z) ?_;refine codeAny_handlers_suite_as (tM x4 λh5 m5 x5=>?_);have M5:Moved (frs X.stack) [T'] h4 h5:=m5.mono (λ_ z=>nomatch z) λ_ z=>z;have fT:∀b∈[T'],s1.heap.get? b=none:=λb z=>by rw[bW.mp z];exact uF un hT
 have J5:=at_ (N2 N0 M5 fT) (kM H_ M5 nf λb z=>by rw[bW.mp z];exact hok.fresh hT) x5;refine Dp J5 hN hi (.inl hloc) (show RelV (.ref ea) (Value.ref ea)from rfl) (λs6 I6 _=>?_) (.inr hloc);refine dX (hs ea pins s6 _ _ _ I6.marked (hs' ea n1)) (λf s7 q7=>?_) λ_ _ z=>False.elim z;cases f with
 |next =>
  obtain⟨σ7,H7,I7,q⟩:=q7;have I7:=I7.unmarked I.ok;obtain⟨m7,HY,_⟩:=id I7.loc;refine wpAny_nameGoes_keeps hloc HY (by rw[I7.ok.kind];rfl) λh8 v Si t_=>?_;exact⟨_,_,I7.gone hN hi hloc HY Si (λx hx=>au hx) t_,q⟩
 |brk=>obtain⟨_,_,_,q⟩:=q7;exact False.elim q
 |cont=>obtain⟨_,_,_,q⟩:=q7;exact False.elim q
 |ret u=>obtain⟨_,_,_,_,_,q⟩:=q7;exact False.elim q
end
end L2
namespace My
open PySem PySem.Spec PyProof.Rows L2
theorem Dx.keep{ws:List Str}{k:Str}{F:V->Hp->Prop}(d:Dx ws k F){v:V}{H H':Hp}(s:Same H H')(h:F v H):F v H':=by
 cases d with
 |text _ _=>exact h
 |count _ _=>exact h
 |thing _ _ _ _ _ _ _=>exact h
 |order _ _ _ _ _ _ _ _ _ _ _ _=>obtain⟨t,e,q⟩:=h;exact⟨t,e,s _ _ q⟩
 |join _ _ _ _ _ _ _ _ _ _ _ _ _=>obtain⟨t,e,q⟩:=h;exact⟨t,e,s _ _ q⟩
theorem Dx.like{ws:List Str}{k:Str}{F:V->Hp->Prop}(d:Dx ws k F){v v':V}{H:Hp}(h:F v H)(h':F v' H):R3 H v v':=by
 cases d with
 |text _ _=>cases h;cases h';exact .inl ⟨.inl ⟨_,rfl⟩,rfl⟩
 |count _ _=>cases h;cases h';exact .inl ⟨.inr (.inl rfl),rfl⟩
 |thing _ _ _ _ _ _ _=>cases h;cases h';exact .inl ⟨.inl ⟨_,rfl⟩,rfl⟩
 |order _ _ _ _ _ _ _ _ _ _ _ _ =>
  obtain⟨t,rfl,q⟩:=h;obtain⟨t',rfl,q'⟩:=h';exact .inr ⟨false,t,t',_,_,rfl,rfl,q,q',.cons (.inl ⟨.inl ⟨_,rfl⟩,rfl⟩) (.cons (.inl ⟨.inl ⟨_,rfl⟩,rfl⟩) .nil),by show 2<=1000;decide⟩
 |join _ _ _ _ _ _ _ _ _ _ _ _ _ =>
  obtain⟨t,rfl,q⟩:=h;obtain⟨t',rfl,q'⟩:=h';exact .inr ⟨false,t,t',_,_,rfl,rfl,q,q',.cons (.inl ⟨.inl ⟨_,rfl⟩,rfl⟩) (.cons (.inl ⟨.inl ⟨_,rfl⟩,rfl⟩) .nil),by show 2<=1000;decide⟩
theorem Ub{H:Hp}{r r':Addr}{k:Str}{v v':V}(h1:H r=some (.tup [.str k,v]))(h2:H r'=some (.tup [.str k,v']))(h:R3 H v v'):R4 H (.ref r) (.ref r'):=
 .inr ⟨false,r,r',_,_,rfl,rfl,h1,h2,.cons (.inl ⟨.inr (.inr (.inr ⟨_,rfl⟩)),rfl⟩) (.cons h .nil),by show 2<=1000;decide⟩
noncomputable def Rz(a2 a5 a9 a11 a12:Addr)(H:Hp)(k:Str)(C j:Nat)(dx:Option Addr)(v:V):Prop:=
 (k = "NoCount" /\ C=a2/\j=2/\dx=none/\v = .non)\/(∃d,k = "NoThing" /\ C=a12/\j=12/\dx=some d/\H d=some (.xd [("thing", v)]))\/(∃d,k = "NoOrder" /\ C=a9/\j=9/\dx=some d/\H d=some (.xd [("things", v)])) \/
 (∃d,k = "NoJoin" /\ C=a5/\j=5/\dx=some d/\H d=some (.xd [("things", v)]))\/(∃d,k = "NoText" /\ C=a11/\j=11/\dx=some d/\H d=some (.xd [("at", v)]))
theorem Rz.word {a2 a5 a9 a11 a12:Addr} {H:Hp} {k:Str} {C j:Nat} {dx:Option Addr} {v:V} (h:Rz a2 a5 a9 a11 a12 H k C j dx v):j<15/\tJ.getD j "" = k:=by
 rcases h with⟨rfl,_,rfl,_⟩|⟨_,rfl,_,rfl,_⟩|⟨_,rfl,_,rfl,_⟩|⟨_,rfl,_,rfl,_⟩|⟨_,rfl,_,rfl,_⟩<;>exact⟨by decide,rfl⟩
theorem Rz.fld{a2 a5 a9 a11 a12:Addr}{H:Hp}{k:Str}{C j:Nat}{dx:Option Addr}{v:V}{e:Addr}(h:Rz a2 a5 a9 a11 a12 H k C j dx v)(he:H e=none):pK a11 a12 a9 a5 (upd H e (eZ e C dx)) k e v/\lV (upd H e (eZ e C dx)) e C:=by
 have nx:∀{d:Addr} {o:HO},H d=some o->(upd H e (eZ e C dx)) d=some o:=λhd=>Same.put he _ _ hd
 rcases h with⟨rfl,rfl,_,rfl,rfl⟩|⟨d,rfl,rfl,_,rfl,hd⟩|⟨d,rfl,rfl,_,rfl,hd⟩|⟨d,rfl,rfl,_,rfl,hd⟩|⟨d,rfl,rfl,_,rfl,hd⟩
 ·exact⟨.inl ⟨rfl,rfl⟩,⟨_,ak,λd q=>nomatch q⟩⟩
 ·exact⟨.inr (.inl ⟨d,rfl,ak,nx hd⟩),⟨_,ak,λd' q=>by cases q;exact⟨_,nx hd⟩⟩⟩
 ·exact⟨.inr (.inr (.inl ⟨d,rfl,ak,nx hd⟩)),⟨_,ak,λd' q=>by cases q;exact⟨_,nx hd⟩⟩⟩
 ·exact⟨.inr (.inr (.inr (.inl ⟨d,rfl,ak,nx hd⟩))),⟨_,ak,λd' q=>by cases q;exact⟨_,nx hd⟩⟩⟩
 ·exact⟨.inr (.inr (.inr (.inr ⟨d,rfl,ak,nx hd⟩))),⟨_,ak,λd' q=>by cases q;exact⟨_,nx hd⟩⟩⟩
theorem pK.same{a5 a9 a11 a12:Addr}{H H':Hp}{k:Str}{e:Addr}{v:V}(s:Same H H')(h:pK a11 a12 a9 a5 H k e v):pK a11 a12 a9 a5 H' k e v:=by
 rcases h with h|⟨d,h,h1,h2⟩|⟨d,h,h1,h2⟩|⟨d,h,h1,h2⟩|⟨d,h,h1,h2⟩
 ·exact .inl h
 ·exact .inr (.inl ⟨d,h,s _ _ h1,s _ _ h2⟩)
 ·exact .inr (.inr (.inl ⟨d,h,s _ _ h1,s _ _ h2⟩))
 ·exact .inr (.inr (.inr (.inl ⟨d,h,s _ _ h1,s _ _ h2⟩)))
 ·exact .inr (.inr (.inr (.inr ⟨d,h,s _ _ h1,s _ _ h2⟩)))
section
variable {P:Program} {w:World} {K:W.Frag} {mg:Str->Option Value} {base:Heap} {f:Addr} {fd:FuncData} {a0 a1 a2 a3 a4 a5 a6 a7 a8 a9 a10 a11 a12 a13 a14 aE:Addr}
abbrev By:Stmt:=top 67
theorem Mj:bh ["_law_text","_law_kept","_law_found","_law_kind_here","_law_due_here","_law_ups_here","_law_e"] ["_law_text"] (ay By):=⟨rfl,rfl,rfl,by decide +kernel,rfl,by decide +kernel,by decide +kernel⟩
noncomputable def Df:Sp:=λvs H Q _=>∃(x:Str) (ws:List Str),vs = [.str x]/\Txt.split x " " = ws/\x.length<=30000/\ws.length<=900/\(∀y∈ws,y.length<=40)/\∀H',Same H H'->Q (.bl true) H'
theorem Wa {C:Addr} (F:aT K "_law_right" "_law_right" By f fd) (T:Txt mg) (TC:pG K C) (Er:kb mg a0 a1 a2 a3 a4 a5 a6 a7 a8 a9 a10 a11 a12 a13 a14 aE)
  (lz:df K a0 a1 a2 a3 a4 a5 a6 a7 a8 a9 a10 a11 a12 a13 a14 aE a12 12) (qX:df K a0 a1 a2 a3 a4 a5 a6 a7 a8 a9 a10 a11 a12 a13 a14 aE a2 2) (lr:df K a0 a1 a2 a3 a4 a5 a6 a7 a8 a9 a10 a11 a12 a13 a14 aE a9 9) (lq:df K a0 a1 a2 a3 a4 a5 a6 a7 a8 a9 a10 a11 a12 a13 a14 aE a5 5) (lu:df K a0 a1 a2 a3 a4 a5 a6 a7 a8 a9 a10 a11 a12 a13 a14 aE a11 11)
  (yq:fC P w K mg base "read_order" ["text"] 7 (Dd C a11 a2 a12 a9 a5)) (xP:aF P w K mg base "_law_due" ["_law_text"] 3 rn) (xT:aF P w K mg base "_law_is" ["_law_order","_law_ups_here"] 5 (Cu K C)) (xV:aF P w K mg base "_law_kind" ["_law_e"] 1 (Cb λC j=>df K a0 a1 a2 a3 a4 a5 a6 a7 a8 a9 a10 a11 a12 a13 a14 aE C j))
  (xR:aF P w K mg base "_law_field" ["_law_kind_here","_law_e"] 1 (Cq a11 a12 a9 a5)) (kE:aF P w K mg base "_law_same" ["_law_found","_law_due_here"] 4 (h_ R4)) :
  aN P w K mg base bf 8 f fd ["_law_text"] Df:=by
 refine F.ok Mj (λvs H Q E h=>?_) (λcdv A outer s H vs Q E hr h=>?_)
 ·obtain⟨x,ws,rfl,_⟩:=h
  rfl
 ·obtain⟨x,ws,rfl,he,hx,hl,mx,kk⟩:=h
  have nd:=Mj.nd;have rz:∀{H':Hp} {k:Str} {D j:Nat} {dx:Option Addr} {v:V},Rz a2 a5 a9 a11 a12 H' k D j dx v->df K a0 a1 a2 a3 a4 a5 a6 a7 a8 a9 a10 a11 a12 a13 a14 aE D j:=λh=>by
   rcases h with⟨_,rfl,rfl,_⟩|⟨_,_,rfl,rfl,_⟩|⟨_,_,rfl,rfl,_⟩|⟨_,_,rfl,rfl,_⟩|⟨_,_,rfl,rfl,_⟩
   ·exact qX
   ·exact lz
   ·exact lr
   ·exact lq
   ·exact lu
  refine⟨_,(ao (aJ (i:=1) nd rfl (Or.inl rfl) gB)
   (ao (aJ (i:=2) nd rfl (Or.inl rfl) gB)
   (ao (Xk (i:=6) nd rfl rfl rfl Er.ClimbError rfl rfl rfl (λXE pins σ0=>(aq (aJ (i:=2) nd rfl (Or.inl rfl) (WY yq hr rfl (ae (pv 0) ag))))) (λe=>(aq (aJ (i:=1) nd rfl (Or.inl rfl) (pv 6)))))
   (ao (ll (bj xP hr rfl (ae (pv 0) ag)) (Ku (K:=K) rfl rfl (oW (aY (i:=4) nd rfl (Or.inl rfl)) (oW (aY (i:=5) nd rfl (Or.inl rfl)) Az))))
   (ao (bq (aU oR (pv 1) gB (aP _)) (aq (aS (jt (hZ bQ (aH (cW (K:=K) rfl) (pv 4) aj (λ_ _=>rfl)) bz (aP _)) (iR (bj xT hr rfl (ae (pv 2) (ae (pv 5) ag))))))) bx)
   (ao (aJ (i:=3) nd rfl (Or.inl rfl) (bj xV hr rfl (ae (pv 1) ag)))
   (aq (aS (bj kE hr rfl (ae (cZ (ae (pv 3) (ae (bj xR hr rfl (ae (pv 3) (ae (pv 1) ag))) ag))) (ae (pv 4) ag))))))))))),?_⟩
  refine⟨λcls dx H'=>∃(k:Str) (G:V->Hp->Prop) (v:V) (D j:Nat),Same H H'/\Dx ws k G/\G v H'/\cls = .ref D/\Rz a2 a5 a9 a11 a12 H' k D j dx v,?_,λcls dx H' hx'=>?_⟩
  ·refine⟨rfl,_,rfl,x,ws,rfl,he,hx,hl,mx,λk hk d H' s hd=>⟨_,_,.int k,a11,11,s,.text k hk,rfl,rfl,.inr (.inr (.inr (.inr ⟨d,rfl,rfl,rfl,rfl,hd⟩)))⟩,λhb=>⟨λhc H' s=>⟨_,_,.non,a2,2,s,.count hb hc,rfl,rfl,.inl ⟨rfl,rfl,rfl,rfl,rfl⟩⟩,λn hn n1 n2=>?_⟩⟩
   have hn':valN (ws.headD "")=n:=by omega
   refine⟨λz hz d H' s hd=>⟨_,_,.int z,a12,12,s,.thing n z hb hn' n1 n2 hz,rfl,rfl,.inr (.inl ⟨d,rfl,rfl,rfl,rfl,hd⟩)⟩,λps R e' hbb hC=>⟨λq hq d t H' s ht hd=>⟨_,_,.ref t,a9,9,s,.order n ps R q hb hn' n1 n2 e' hbb hC hq,⟨t,rfl,ht⟩,rfl,.inr (.inr (.inl ⟨d,rfl,rfl,rfl,rfl,hd⟩))⟩,λh0=>⟨λq hq d t H' s ht hd=>⟨_,_,.ref t,a5,5,s,.join n ps R q hb hn' n1 n2 e' hbb hC h0 hq,⟨t,rfl,ht⟩,rfl,.inr (.inr (.inr (.inl ⟨d,rfl,rfl,rfl,rfl,hd⟩)))⟩,λh9 p H' s hO=>?_⟩⟩⟩;dsimp only[aW];show bD _ _ _ [some (.str x),some .non,some (.ref p),none,none,none,none] _;refine⟨_,rfl,Qv (E:=E0) he hx hl mx hb hn' n1 n2 e' hbb hC h0 h9 λr t l us H2 s2 h1 h2 hU h3=>?_⟩;refine⟨r,_,rfl,aQ.of h3,rfl,_,_,rfl,_,_,rfl,rfl,?_⟩;dsimp only[aW];refine⟨_,rfl,rfl,_,rfl,a_ ?_⟩;refine⟨_,rfl,t,_,0,_,rfl,rfl,aQ.of h1,rfl,rfl,_,rfl,a_ ?_⟩;exact⟨_,rfl,_,rfl,p,l,n,R,us,rfl,pX.same s2 ⟨R,hO,λ_ _ _ _=>rfl⟩,ai.of h2,hU,n2,λH3 s3=>kk _ (s.trans (s2.trans s3))⟩
  ·obtain⟨k,G,v,D,j,s1,d,hG,rfl,hz⟩:=hx'
   refine⟨D,rfl,(rz hz).QV,λe hen=>⟨_,rfl,?_⟩⟩;obtain⟨hF,hX⟩:=hz.fld hen;obtain⟨hj,hw⟩:=hz.word;have s2:=Same.put (o:=eZ e D dx) hen;have hJ:=d.keep s2 hG;generalize upd H' e (eZ e D dx)=H2 at hF hX s2 hJ ⊢;dsimp only[aW];show bD _ _ _ [some (.str x),some (.ref e),some .non,none,none,none,none] _;refine⟨_,rfl,Qu (E:=E0) d he hx hl mx λr t l v' H3 s3 h1 h2 h3=>?_⟩;refine⟨r,_,rfl,aQ.of h3,rfl,_,_,rfl,_,_,rfl,rfl,?_⟩;dsimp only[aW];refine⟨_,rfl,rfl,_,rfl,aI ?_⟩;refine⟨_,rfl,e,D,j,rfl,hX.same s3,rz hz,hj,λH4 s4=>?_⟩;rw[hw];dsimp only[aW];refine⟨_,rfl,_,rfl,_,rfl,k,e,v,rfl,hF.same (s3.trans s4),λH5 s5=>⟨by show 2<=sizeLine;decide,λtp htp=>⟨_,rfl,_,_,rfl,?_,λH6 s6=>?_⟩⟩⟩
   ·have sp:=Same.put (o:=.tup [.str k,v]) htp
    have j6:=(s4.trans s5).trans sp;exact Ub ak (j6 _ _ h1) (d.like (d.keep (s3.trans j6) hJ) (d.keep j6 h2))
   ·exact kk _ (s1.trans (s2.trans (s3.trans (s4.trans (s5.trans ((Same.put htp).trans s6))))))
end
theorem Hb:∀n,n<6->Fam ((List.range (1+n)).map λk=>2 ^ k - 1)/\∀x∈(List.range (1+n)).map λk=>2 ^ k - 1,x<256:=by
 have h:∀n,n<6->((List.range (1+n)).map λk=>2 ^ k - 1).Nodup/\(∀x∈(List.range (1+n)).map λk=>2 ^ k - 1,∀y∈(List.range (1+n)).map λk=>2 ^ k - 1,x&&& y∈(List.range (1+n)).map λk=>2 ^ k - 1) /\
   (∃t∈(List.range (1+n)).map λk=>2 ^ k - 1,∀x∈(List.range (1+n)).map λk=>2 ^ k - 1,x&&& t=x)/\∀x∈(List.range (1+n)).map λk=>2 ^ k - 1,x<256:=by decide +kernel
 intro n hn;obtain⟨h1,h2,h3,h4⟩:=h n hn;exact⟨⟨h1,h2,h3⟩,h4⟩
noncomputable def ie(n:Nat):List Nat:=[0]++(List.range n).map (λk=>2 ^ k)++[2 ^ n - 1]
theorem Hc:∀n,n<4->Fam (ie (2+n))/\∀x∈ie (2+n),x<256:=by
 have h:∀n,n<4->(ie (2+n)).Nodup/\(∀x∈ie (2+n),∀y∈ie (2+n),x&&& y∈ie (2+n)) /\
   (∃t∈ie (2+n),∀x∈ie (2+n),x&&& t=x)/\∀x∈ie (2+n),x<256:=by decide +kernel
 intro n hn;obtain⟨h1,h2,h3,h4⟩:=h n hn;exact⟨⟨h1,h2,h3⟩,h4⟩
noncomputable def lg:List (List Nat):=[[0,1],[0,1,3],[0,1,2,3],[0,1,2,4,7],[0,1,3,7]]
theorem QZ:∀O∈lg,Fam O/\O.length<=5/\∀x∈O,x<8:=by
 have h:∀O∈lg,O.Nodup/\(∀x∈O,∀y∈O,x&&& y∈O)/\(∃t∈O,∀x∈O,x&&& t=x)/\O.length<=5/\∀x∈O,x<8:=by decide +kernel
 intro O hO;obtain⟨h1,h2,h3,h4,h5⟩:=h O hO;exact⟨⟨h1,h2,h3⟩,h4,h5⟩
noncomputable def g6(F O:List Nat):List Nat:=O.flatMap λm=>F.map λx=>x ||| m*2 ^ 8
theorem J9{x y:Nat}(hx:x<256)(hy:y<256)(m k:Nat):(x ||| m*2 ^ 8)&&& (y ||| k*2 ^ 8)=(x&&& y) ||| (m&&& k)*2 ^ 8:=by
 apply wH
 intro i;simp only[<- Nat.shiftLeft_eq,si,lO,Nat.testBit_shiftLeft]
 by_cases hi:8<=i
 ·have h1:x.testBit i=false:=EY (cg hx (jd (n:=2) (i:=8) (by decide) hi))
  have h2:y.testBit i=false:=EY (cg hy (jd (n:=2) (i:=8) (by decide) hi));simp[h1,h2,hi]
 ·simp[hi]
theorem J8{x y m k:Nat}(hx:x<256)(hy:y<256)(h:x ||| m*2 ^ 8=y ||| k*2 ^ 8):x=y/\m=k:=by
 have e:∀{z n:Nat},z<256->z ||| n*2 ^ 8=2 ^ 8*n+z:=λ{z n} hz=>by
  rw[OJ (i:=8) hz,Nat.or_comm,Nat.mul_comm]
 rw[e hx,e hy]at h;omega
theorem Fam.PB{F O:List Nat}(hF:Fam F)(hb:∀x∈F,x<256)(hO:Fam O):Fam (g6 F O):=by
 have mem:∀z,z∈g6 F O ↔ ∃m∈O,∃x∈F,z=x ||| m*2 ^ 8:=λz=>by
  unfold g6;rw[wC]
  constructor
  ·rintro⟨m,hm,h⟩
   obtain⟨x,hx,rfl⟩:=cU.mp h;exact⟨m,hm,x,hx,rfl⟩
  ·rintro⟨m,hm,x,hx,rfl⟩
   exact⟨m,hm,cU.mpr ⟨x,hx,rfl⟩⟩
 refine⟨?_,λz hz z2 hz2=>?_,?_⟩
 ·unfold g6 List.Nodup
  rw[List.pairwise_flatMap];refine⟨λm _=>Eu.mpr (hF.nd.imp_of_mem λ{x y} hx hy hne e=>hne (J8 (hb x hx) (hb y hy) e).1),hO.nd.imp λhne z hz z2 hz2 e=>?_⟩;obtain⟨x,hx,rfl⟩:=cU.mp hz;obtain⟨y,hy,rfl⟩:=cU.mp hz2;exact hne (J8 (hb x hx) (hb y hy) e).2
 ·obtain⟨m,hm,x,hx,rfl⟩:=(mem z).mp hz
  obtain⟨k,hk,y,hy,rfl⟩:=(mem z2).mp hz2;rw[J9 (hb x hx) (hb y hy)];exact(mem _).mpr ⟨m&&& k,hO.meet m hm k hk,x&&& y,hF.meet x hx y hy,rfl⟩
 ·obtain⟨t,ht,zP⟩:=hF.top
  obtain⟨u,hu,hu2⟩:=hO.top;refine⟨t ||| u*2 ^ 8,(mem _).mpr ⟨u,hu,t,ht,rfl⟩,λz hz=>?_⟩;obtain⟨m,hm,x,hx,rfl⟩:=(mem z).mp hz;show _&&& _=_;rw[J9 (hb x hx) (hb t ht),zP x hx,hu2 m hm]
theorem FW(F O:List Nat):(g6 F O).length=O.length*F.length:=by
 unfold g6
 induction O with
 |nil=>simp
 |cons m O ih=>rw[List.flatMap_cons,dD,ih,aB,dr,Ez];omega
noncomputable def qE:List Expr->Option (List (List Int))
 | []=>some []
 |.List es _::r=>match intsOf es,qE r with
  |some is,some qC=>some (is::qC)
  |_,_=>none
 |_=>none
noncomputable def Ny:List (List Int)->TA
 | []=>fw
 |is::r=>dA (Dt λ_ H Q=>Q (is.map V.int) H) (Ny r)
theorem Kd{X:Cx}:∀{es:List Expr} (qC:List (List Int)),qE es=some qC->PA X es (Ny qC)
 | [],_,h=>by
  cases h;exact ag
 |e::es,qC,h=>by
  cases e
  case List es2 pos =>
   unfold qE at h;cases h1:intsOf es2 with
   |none=>rw[h1]at h;simp at h
   |some is =>
    cases h2:qE es with
    |none=>rw[h1,h2]at h;simp at h
    |some Tz =>
     rw[h1,h2]at h;cases h;exact ae (b9 (WM is h1)) (Kd Tz h2) (bw nofun)
  all_goals (simp[qE]at h)
noncomputable def pJ(H H1:Hp)(d most:Nat)(kd:Nat)(Lp:Addr)(c:List V->Prop)(σ:L2.St)(H':Hp):Prop:=∃(v5 v6 v7 v8:Option V) (L:Addr) (xs:List V),σ = [some (.ref d),some (.int most),some (.int kd),some (.ref Lp),some (.ref L),v5,v6,v7,v8]/\Same H1 H'/\H L=none/\H' L=some (.lst xs)/\c xs
noncomputable def zx(xs:List V):Prop:=∃G:List Nat,xs=G.map nV/\Fam G/\G.length<=24/\∀x∈G,x<256
noncomputable def QW(xs:List V):Prop:=∃G:List Nat,xs=G.map nV/\Fam G/\G.length<=120
noncomputable def QX(xs:List V):Prop:=xs.length<=24->∃G:List Nat,xs=G.map nV/\Fam G
theorem yk(xs:List V)(k m:Nat)(h:m<=xs.length):dY xs (some (k:Int)) (some (m:Int))=(xs.drop k).take (m - k):=by
 unfold dY;rw[HT.rg,HT.rg,sf h]
 by_cases hk:k<=xs.length
 ·rw[sf hk]
 ·rw[wK (by omega),show m - k=0 by omega,show m - xs.length=0 by omega];simp
section
variable {P:Program} {w:World} {K:W.Frag} {mg:Str->Option Value} {base:Heap} {f:Addr} {fd:FuncData}
abbrev mV:Stmt:=top 51
theorem L7:bh ["_law_draws_here","_law_most","_law_kind_here","_law_plain","_law_found","_law_size","_law_other","_law_grown","_law_mask"] ["_law_draws_here","_law_most"] (ay mV):=⟨rfl,rfl,rfl,by decide +kernel,rfl,by decide +kernel,by decide +kernel⟩
noncomputable def Cp(K:W.Frag):Sp:=λvs H Q _=>∃(d most:Nat) (ns:List Int),vs = [.ref d,.int most]/\ai K H d (ns.map V.int)/\Small ns/\ns.length=40/\1<=most/\most<=24 /\
 ∀L F H',Same H H'->H L=none->H' L=some (.lst (F.map nV))->Fam F->F.length<=most->Q (.ref L) H'
theorem VF (F:aT K "_law_family" "_law_family" mV f fd) (T:Txt mg) (ow:mg "set" = none) (om:aF P w K mg base "_law_masks" ["_law_numbers","_law_wide","_law_most"] 1 (vM K)) (xY:aF P w K mg base "_law_planes" ["_law_wide"] 2 (CZ K)):aN P w K mg base bf 3 f fd ["_law_draws_here","_law_most"] (Cp K):=by
 refine F.ok L7 (λvs H Q E h=>?_) (λcdv A outer s H vs Q E hr h=>?_)
 ·obtain⟨d,most,ns,rfl,_⟩:=h
  rfl
 ·obtain⟨d,most,ns,rfl,hd,hs,hl,hm1,hm2,kk⟩:=h
  have nd:=L7.nd;have hr0:=hr.mono (eK 2);refine⟨_,(@ao _ _ _ _ _ (aJ (i:=2) nd rfl (Or.inl rfl) (av cq (aH (aX (K:=K) rfl) (pv 0) aj (λ_ _=>rfl)) aj))
   (@ao _ _ _ _ _ (aJ (i:=3) nd rfl (Or.inl rfl) (bj om hr rfl (ae (mP (mX (K:=K) rfl) (pv 0) (h7 aj) (h7 aj)) (ae (av dI aj (av cq (aH (aX (K:=K) rfl) (pv 0) aj (λ_ _=>rfl)) aj)) (ae (pv 1) ag (bw nofun)) (bw nofun)) (bw nofun))))
   (@ao _ _ _ _ _ (uZ (i:=4) nd rfl rfl (own:=["_law_k"]) (fr:=[]) rfl (cM (ay mV) ["_law_draws_here","_law_most","_law_kind_here","_law_plain","_law_found","_law_size","_law_other","_law_grown","_law_mask"] rfl rfl (by decide +kernel)) (cS rfl T.range (ae (av dI aj (av cq (aH (aX (K:=K) rfl) (pv 0) aj (λ_ _=>rfl)) aj)) ag)) (λ_ _ _ _=>⟨(aY (i:=0) (by decide +kernel:(["_law_k"]:List Str).Nodup) rfl (Or.inl rfl)),dz,(av qL (av gw aj (pv 0)) aj)⟩))
   (@ao _ _ _ _ _ (bq (aU bQ (av cq (aH (aX (K:=K) rfl) (pv 0) aj (λ_ _=>rfl)) aj) aj (aP _)) (@ao _ _ _ _ _ (aJ (i:=5) nd rfl (Or.inl rfl) (av dI aj (av cq (aH (aX (K:=K) rfl) (pv 0) aj (λ_ _=>rfl)) aj)))
   (aq (aJ (i:=4) nd rfl (Or.inl rfl) (av gu (av gu (b9 (ae aj ag)) (dg (own:=["_law_k"]) (fr:=[]) rfl (cM (ay mV) ["_law_draws_here","_law_most","_law_kind_here","_law_plain","_law_found","_law_size","_law_other","_law_grown","_law_mask"] rfl rfl (by decide +kernel)) (cS rfl T.range (ae (pv 5) ag)) (λ_ _ _ _=>⟨(aY (i:=0) (by decide +kernel:(["_law_k"]:List Str).Nodup) rfl (Or.inl rfl)),dz,(av gw aj (pv 0))⟩))) (b9 (ae (av qL (av gw aj (pv 5)) aj) ag)))))) bx)
   (@ao _ _ _ _ _ (bq (aU bQ (av cq (aH (aX (K:=K) rfl) (pv 0) aj (λ_ _=>rfl)) aj) aj (aP _)) (aq (aJ (i:=4) nd rfl (Or.inl rfl) (bj xY hr rfl (ae (av dI aj (av cq (aH (aX (K:=K) rfl) (pv 0) aj (λ_ _=>rfl)) aj)) ag)))) bx)
   (@ao _ _ _ _ _ (bq (aU mM (pv 2) aj (aP _)) (@ao _ _ _ _ _ (@aJ _ _ 6 _ _ _ _ nd rfl (Or.inl rfl) (@aH _ _ _ _ _ _ _ (aX (K:=K) rfl) (@b9 _ _ _ _ (@Kd _ _ [[0,1],[0,1,3],[0,1,2,3],[0,1,2,4,7],[0,1,3,7]] rfl)) (av cq (aH (aX (K:=K) rfl) (pv 0) aj (λ_ _=>rfl)) aj) (λ_ _=>rfl)) (by rfl) (by first|exact .inl rfl|exact .inr rfl))
   (@ao _ _ _ _ _ (aJ (i:=7) nd rfl (Or.inl rfl) (b9 ag))
   (@ao _ _ _ _ _ (b_ cy rfl (dJ (K:=K) rfl (pv 6)) (aY (i:=8) nd rfl (Or.inr rfl))
   (aq (aJ (i:=7) nd rfl (Or.inl rfl) (av gu (pv 7) (dg (own:=["_law_one"]) (fr:=[("_law_mask", 8)]) rfl (cM (ay mV) ["_law_draws_here","_law_most","_law_kind_here","_law_plain","_law_found","_law_size","_law_other","_law_grown","_law_mask"] rfl rfl (by decide +kernel)) (dJ (K:=K) rfl (pv 4)) (λ_ _ _ _=>⟨(aY (i:=0) (by decide +kernel:(["_law_one","_law_mask"]:List Str).Nodup) rfl (Or.inl rfl)),dz,(av qK (pv 0) (av gw (pv 1) aj))⟩))))))
   (aq (aJ (i:=4) nd rfl (Or.inl rfl) (pv 7)))))) bx)
   (@ao _ _ _ _ _ (bq (aU mM (pv 2) aj (aP _)) (@ao _ _ _ _ _ (aJ (i:=8) nd rfl (Or.inr rfl) (av cq (aH (aX (K:=K) rfl) (pv 0) aj (λ_ _=>rfl)) aj))
   (aq (aJ (i:=4) nd rfl (Or.inl rfl) (aR (Gq hr0) rfl T.sorted Gg (ae (dm (Gm (K:=K) rfl hr0) rfl ow Gi (ae (av gu (pv 4) (dg (own:=["_law_one"]) (fr:=[("_law_mask", 8)]) rfl (cM (ay mV) ["_law_draws_here","_law_most","_law_kind_here","_law_plain","_law_found","_law_size","_law_other","_law_grown","_law_mask"] rfl rfl (by decide +kernel)) (dJ (K:=K) rfl (pv 4)) (λ_ _ _ _=>⟨(aY (i:=0) (by decide +kernel:(["_law_one","_law_mask"]:List Str).Nodup) rfl (Or.inl rfl)),dz,(av gq (pv 0) (pv 1))⟩))) ag)) ag))))) bx)
   (@ao _ _ _ _ _ (bq (PW.pt (fN (aU la (pv 2) aj (aP _)) (gC (aU mM (aR (cj (K:=K) rfl) rfl T.len cw (ae (pv 4) ag)) (pv 1) (aP _))))) (aq (aS (pv 3))) bx)
   (aq (aS (pv 4))))))))))),?_⟩
  obtain⟨rk,hrk,ek⟩:=gG (ns.getD 0 0) 10 (by decide);obtain⟨r7,hr7,e7⟩:=gG (ns.getD 10 0) 7 (by decide);obtain⟨r6,Ii,e6⟩:=gG (ns.getD 1 0) 6 (by decide);obtain⟨r4,Ih,e4⟩:=gG (ns.getD 1 0) 4 (by decide);obtain⟨r2,hr2,e2⟩:=gG (ns.getD 1 0) 2 (by decide);obtain⟨r5,Sy,e5⟩:=gG (ns.getD 3 0) 5 (by decide);obtain⟨rm,hrm,em⟩:=gG (ns.getD 4 0) 2048 (by decide);have ek:ns.getD 0 0 % 10=(rk:Int):=ek;have e7:ns.getD 10 0 % 7=(r7:Int):=e7;have e6:ns.getD 1 0 % 6=(r6:Int):=e6;have e4:ns.getD 1 0 % 4=(r4:Int):=e4;have e2:ns.getD 1 0 % 2=(r2:Int):=e2;have e5:ns.getD 3 0 % 5=(r5:Int):=e5;have em:ns.getD 4 0 % 2048=(rm:Int):=em;refine⟨_,rfl,d,_,0,_,rfl,rfl,hd,bp (dk (i:=0) (by omega)),_,_,rfl,rfl,(by show(0:Int)<10;decide),?_⟩;dsimp only[aW];rw[ek];show bD _ _ _ [some (.ref d),some (.int most),some (.int rk),none,none,none,none,none,none] _;refine⟨_,rfl,_,rfl,_,rfl,d,_,rfl,hd,λp1 hp1=>?_⟩;rw[show dY (ns.map V.int) (some 1) (some 10)=((ns.drop 1).take 9).map V.int by rw[nA,pO];exact yk (ns.map V.int) 1 10 (by rw[aB];omega)];have BZ:=Same.put hp1 (o:=.lst (((ns.drop 1).take 9).map V.int));refine⟨_,rfl,d,_,10,_,rfl,rfl,BZ.seq hd,bp (dk (i:=10) (by omega)),_,_,rfl,rfl,(by show(0:Int)<7;decide),_,_,rfl,rfl,_,rfl,p1,2+r7,most,(ns.drop 1).take 9,by dsimp only;rw[e7];push_cast;rfl,ai.of ak,λx hx=>(hs x (Eo (r0 hx))).1,by omega,hm1,hm2,λLp Gp H1 s1 RT hlp RM RN _=>?_⟩;have iT:=BZ.trans s1;have RV:H Lp=none:=Same.none BZ RT;dsimp only[aW];show bD _ _ _ [some (.ref d),some (.int most),some (.int rk),some (.ref Lp),none,none,none,none,none] _;refine⟨_,rfl,d,_,1,_,rfl,rfl,iT.seq hd,bp (dk (i:=1) (by omega)),_,_,rfl,rfl,(by show(0:Int)<6;decide),_,_,rfl,rfl,_,rfl,by rw[e6];omega,by rw[e6];omega,λD hD=>fF (λj=>nV (2 ^ j - 1)) src_range hD (by rw[e6];exact dM (by omega)) (λj H3 Kt hj hs kt=>?_) (λH3 hs3 hl3=>?_)⟩
  ·rw[e6]at hj
   refine⟨_,rfl,_,_,rfl,rfl,⟨by omega,by omega,by decide⟩,_,_,rfl,rfl,?_⟩;dsimp only;have:(1:Int)*2 ^ ((0:Int)+(j:Int)).toNat - 1=((2 ^ j - 1:Nat):Int):=by
    have:=wM j;rw[fb,bJ,jE,Int.natCast_sub this];push_cast;rfl
   rw[this];exact kt _ (Same.refl _)
  rw[e6]at hl3;have c0:pJ H H1 d most rk Lp zx [some (.ref d),some (.int most),some (.int rk),some (.ref Lp),some (.ref D),none,none,none,none] H3:=by
   refine⟨none,none,none,none,D,_,rfl,hs3,Same.none iT hD,hl3,_,?_,(Hb r6 Ii).1,by simp;omega,(Hb r6 Ii).2⟩;rw[show((1:Int)+(r6:Int)).toNat=1+r6 by omega,iy];rfl
  dsimp only[aW];show bD _ _ _ [some (.ref d),some (.int most),some (.int rk),some (.ref Lp),some (.ref D),none,none,none,none] _;refine jv (pJ H H1 d most rk Lp zx) (λD' hD' next=>?_) ?_
  ·refine⟨_,rfl,d,_,2,_,rfl,rfl,(iT.trans hs3).seq hd,bp (dk (i:=2) (by omega)),_,_,rfl,rfl,(by show(0:Int)<3;decide),rfl,_,rfl,bB (λh=>?_) (λh=>next _ _ c0)⟩
   have o7:=iT.trans hs3;refine⟨_,rfl,d,_,1,_,rfl,rfl,o7.seq hd,bp (dk (i:=1) (by omega)),_,_,rfl,rfl,(by show(0:Int)<4;decide),_,_,rfl,rfl,?_⟩;have e4':(2:Int)+ns.getD 1 0 % 4=((2+r4:Nat):Int):=by rw[e4];push_cast;rfl
   dsimp only[aW];rw[e4'];show pz _ _ _ [some (.ref d),some (.int most),some (.int rk),some (.ref Lp),some (.ref D),some (.int ((2+r4:Nat):Int)),none,none,none] _;have sh:(1:Int)*2 ^ (((2+r4:Nat):Int)).toNat - 1=((2 ^ (2+r4) - 1:Nat):Int):=by
    have:=wM (2+r4);rw[bJ,jE,Int.natCast_sub this];push_cast;rfl
   refine⟨by show 1<=sizeLine;decide,λq1 hq1=>⟨_,rfl,_,rfl,(bH (by omega)).1,(bH (by omega)).2,λD2 hD2=>fF (λj=>nV (2 ^ j)) src_range hD2 (by rw[bJ];exact dM (by omega)) (λj H4 Kt hj hs kt=>?_) (λH4 zO d8=>?_)⟩⟩
   ·rw[bJ]at hj
    refine⟨_,rfl,_,_,rfl,rfl,⟨by omega,by omega,by decide⟩,?_⟩;dsimp only;rw[show(1:Int)*2 ^ ((0:Int)+(j:Int)).toNat=((2 ^ j:Nat):Int)by rw[fb,bJ,jE];push_cast;rfl];exact kt _ (Same.refl _)
   ·rw[bJ]at d8
    refine⟨q1,D2,_,_,rfl,rfl,zO _ _ ak,d8,by simp;exact dS (cP (by omega)),λq2 hq2=>?_⟩;refine⟨_,rfl,_,_,rfl,rfl,⟨by omega,by omega,by decide⟩,_,_,rfl,rfl,by show 1<=sizeLine;decide,λq3 t8=>?_⟩;refine⟨q2,q3,_,_,rfl,rfl,Same.put t8 _ _ ak,ak,by simp;exact dS (cP (by omega)),λq4 zN=>?_⟩;refine next _ _ ⟨_,none,none,none,q4,_,rfl,((((hs3.trans (Same.put hq1)).trans zO).trans (Same.put hq2)).trans (Same.put t8)).trans (Same.put zN),?_,ak,ie (2+r4),?_,(Hc r4 Ih).1,by simp[ie];omega,(Hc r4 Ih).2⟩
    ·exact Same.none (((((iT.trans hs3).trans (Same.put hq1)).trans zO).trans (Same.put hq2)).trans (Same.put t8)) zN
    ·dsimp only
     rw[sh];simp[ie]
  rintro σ1 H4 ⟨v5,v6,v7,v8,L1,xs1,rfl,s4,hL1,hl1,hc1⟩;have o8:=iT.trans s4;show bD _ _ _ [some (.ref d),some (.int most),some (.int rk),some (.ref Lp),some (.ref L1),v5,v6,v7,v8] _;refine jv (pJ H H1 d most rk Lp zx) (λD' hD' next=>?_) ?_
  ·refine⟨_,rfl,d,_,2,_,rfl,rfl,o8.seq hd,bp (dk (i:=2) (by omega)),_,_,rfl,rfl,(by show(0:Int)<3;decide),rfl,_,rfl,bB (λh=>?_) (λh=>next _ _ ⟨v5,v6,v7,v8,L1,xs1,rfl,s4,hL1,hl1,hc1⟩)⟩
   refine⟨_,rfl,d,_,1,_,rfl,rfl,o8.seq hd,bp (dk (i:=1) (by omega)),_,_,rfl,rfl,(by show(0:Int)<2;decide),_,_,rfl,rfl,2+r2,by dsimp only;rw[e2];push_cast;rfl,by omega,λL2 G2 H5 s5 hL2 hl2 hJ tR zE=>?_⟩;exact next _ _ ⟨v5,v6,v7,v8,L2,_,rfl,s4.trans s5,Same.none o8 hL2,hl2,G2,rfl,hJ,tR,zE⟩
  rintro σ2 H5 ⟨v5,v6,v7,v8,L2,xs2,rfl,s5,hL2,hl2,G2,rfl,hJ,tR,zE⟩;have o9:=iT.trans s5;show bD _ _ _ [some (.ref d),some (.int most),some (.int rk),some (.ref Lp),some (.ref L2),v5,v6,v7,v8] _;refine jv (pJ H H1 d most rk Lp QW) (λD' hD' next=>?_) ?_
  ·refine⟨_,rfl,_,_,rfl,rfl,_,rfl,bB (λh=>?_) (λh=>next _ _ ⟨v5,v6,v7,v8,L2,_,rfl,s5,hL2,hl2,G2,rfl,hJ,by omega⟩)⟩
   refine⟨by show 2<=sizeLine;decide,λp1 hp1=>⟨by show 3<=sizeLine;decide,λp2 hp2=>⟨by show 4<=sizeLine;decide,λp3 hp3=>⟨by show 5<=sizeLine;decide,λp4 mz=>⟨by show 4<=sizeLine;decide,λp5 tZ=>⟨by show 5<=sizeLine;decide,λp6 t7=>?_⟩⟩⟩⟩⟩⟩;generalize hB:upd (upd (upd (upd (upd (upd H5 p1 _) p2 _) p3 _) p4 _) p5 _) p6 _=B;have t1:=Same.put hp1 (o:=.lst (([0,1]:List Int).map V.int));have t2:=Same.put hp2 (o:=.lst (([0,1,3]:List Int).map V.int));have t3:=Same.put hp3 (o:=.lst (([0,1,2,3]:List Int).map V.int));have t4:=Same.put mz (o:=.lst (([0,1,2,4,7]:List Int).map V.int));have t5:=Same.put tZ (o:=.lst (([0,1,3,7]:List Int).map V.int));have t6:=Same.put t7 (o:=.lst [V.ref p1,V.ref p2,V.ref p3,V.ref p4,V.ref p5]);have sB:Same H5 B:=by rw[<- hB];exact t1.trans (t2.trans (t3.trans (t4.trans (t5.trans t6))))
   have b6:B p6=some (.lst [V.ref p1,V.ref p2,V.ref p3,V.ref p4,V.ref p5]):=by rw[<- hB];exact ak
   have b5:B p5=some (.lst (([0,1,3,7]:List Nat).map nV)):=by rw[<- hB];exact t6 _ _ ak
   have b4:B p4=some (.lst (([0,1,2,4,7]:List Nat).map nV)):=by rw[<- hB];exact t6 _ _ (t5 _ _ ak)
   have b3:B p3=some (.lst (([0,1,2,3]:List Nat).map nV)):=by rw[<- hB];exact t6 _ _ (t5 _ _ (t4 _ _ ak))
   have b2:B p2=some (.lst (([0,1,3]:List Nat).map nV)):=by rw[<- hB];exact t6 _ _ (t5 _ _ (t4 _ _ (t3 _ _ ak)))
   have b1:B p1=some (.lst (([0,1]:List Nat).map nV)):=by rw[<- hB];exact t6 _ _ (t5 _ _ (t4 _ _ (t3 _ _ (t2 _ _ ak))))
   obtain⟨q,O,hq,Ic,hO⟩:∃(q:Addr) (O:List Nat),[V.ref p1,V.ref p2,V.ref p3,V.ref p4,V.ref p5][r5]?=some (.ref q)/\B q=some (.lst (O.map nV))/\O∈lg:=by
    match r5,Sy with
    |0,_=>exact⟨p1,_,rfl,b1,by simp[lg]⟩
    |1,_=>exact⟨p2,_,rfl,b2,by simp[lg]⟩
    |2,_=>exact⟨p3,_,rfl,b3,by simp[lg]⟩
    |3,_=>exact⟨p4,_,rfl,b4,by simp[lg]⟩
    |4,_=>exact⟨p5,_,rfl,b5,by simp[lg]⟩
   obtain⟨hOf,R0,RZ⟩:=QZ O hO;refine⟨_,rfl,d,_,3,_,rfl,rfl,(o9.trans sB).seq hd,bp (dk (i:=3) (by omega)),_,_,rfl,rfl,(by show(0:Int)<5;decide),p6,_,_,_,rfl,rfl,ai.of b6,by rw[e5];exact bp hq,?_⟩;dsimp only[aW];show bD _ _ _ [some (.ref d),some (.int most),some (.int rk),some (.ref Lp),some (.ref L2),v5,some (.ref q),v7,v8] _;refine⟨by show 0<=sizeLine;decide,λg0 hg0=>?_⟩;dsimp only[aW];show bD _ _ _ [some (.ref d),some (.int most),some (.int rk),some (.ref Lp),some (.ref L2),v5,some (.ref q),some (.ref g0),v8] _;have sg:=Same.put hg0 (o:=.lst ([]:List V));refine⟨_,rfl,q,rfl,⟨_,ai.of (sg _ _ Ic)⟩,jn (K:=K) (a:=q) (xs:=O.map nV) (λi σ H6=>∃(v8:Option V) (gl:Addr),σ = [some (.ref d),some (.int most),some (.int rk),some (.ref Lp),some (.ref L2),v5,some (.ref q),some (.ref gl),v8]/\Same B H6/\B gl=none/\H6 gl=some (.lst ((g6 G2 (O.take i)).map nV)))
    ⟨v8,g0,rfl,sg,hg0,ak⟩ (λi σ H6 _ ⟨_,_,_,s6,_⟩=>ai.of (s6 _ _ Ic)) ?_ ?_⟩
   ·rintro i x σ H6 hx ⟨v8,gl,rfl,s6,HN,hg⟩
    have hi:i<O.length:=by have:=(cG.mp hx).1;rwa [aB]at this
    have ex:x=nV (O.getD i 0):=by rw[gH hi]at hx;exact(dU hx).symm
    subst ex;have Z_:=RZ _ (Ev.getD_mem hi);have kK:H6 L2=some (.lst (G2.map nV)):=s6 _ _ (sB _ _ hl2);refine⟨_,rfl,_,rfl,L2,rfl,⟨_,ai.of kK⟩,λD hD=>fF (λj=>nV (G2.getD j 0 ||| O.getD i 0*2 ^ 8)) (src_list (ai.of kK)) hD (dM (by rw[aB];omega)) (λj H7 Kt hj hs kt=>?_) (λH7 mC gn=>?_)⟩
    ·rw[aB]at hj
     refine⟨_,rfl,_,rfl,_,_,rfl,rfl,⟨by decide,by decide,by rw[rP];omega⟩,_,_,by rw[aZ,gH hj];rfl,rfl,?_⟩;dsimp only;rw[show((O.getD i 0:Nat):Int)*2 ^ (8:Int).toNat=((O.getD i 0*2 ^ 8:Nat):Int)by push_cast;rfl,qM];exact kt _ (Same.refl _)
    ·have Z':(g6 G2 (O.take i)).length<=5*24:=by
      rw[FW,gU];exact Nat.mul_le_mul (by omega) tR
     refine⟨gl,D,_,_,rfl,rfl,mC _ _ hg,gn,by simp;exact dS (cP (by omega)),λg2 hg2=>?_⟩;refine⟨_,g2,rfl,(s6.trans mC).trans (Same.put hg2),Same.none (s6.trans mC) hg2,?_⟩;rw[ak,wF hi];have eb:g6 G2 (O.take i++[O[i]])=g6 G2 (O.take i)++G2.map λx=>x ||| O[i]*2 ^ 8:=by unfold g6;rw[List.flatMap_append,List.flatMap_singleton]
     rw[eb,gW]
     congr 3
     rw[aB,iy];apply ki
     ·simp
     ·intro k h1 h2
      simp only[aB,jG]at h1;simp[aZ,aK h1,aK hi]
   ·rintro σ H6 ⟨v8,gl,rfl,s6,HN,hg⟩
    rw[aB,pR]at hg;refine⟨_,rfl,next _ _ ⟨_,_,_,_,gl,_,rfl,(s5.trans sB).trans s6,Same.none (o9.trans sB) HN,hg,g6 G2 O,rfl,hJ.PB zE hOf,?_⟩⟩;rw[FW];exact bN (Nat.mul_le_mul R0 tR) (by decide)
  rintro σ3 H6 ⟨v5,v6,v7,v8,L3,xs3,rfl,s6,fk,tY,G3,rfl,tS,Z9⟩;have K8:=iT.trans s6;show bD _ _ _ [some (.ref d),some (.int most),some (.int rk),some (.ref Lp),some (.ref L3),v5,v6,v7,v8] _;refine jv (pJ H H1 d most rk Lp QX) (λD' hD' next=>?_) ?_
  ·refine⟨_,rfl,_,_,rfl,rfl,_,rfl,bB (λh=>?_) (λh=>next _ _ ⟨v5,v6,v7,v8,L3,_,rfl,s6,fk,tY,λ_=>⟨G3,rfl,tS⟩⟩)⟩
   refine⟨_,rfl,d,_,4,_,rfl,rfl,K8.seq hd,bp (dk (i:=4) (by omega)),_,_,rfl,rfl,(by show(0:Int)<2048;decide),?_⟩;dsimp only[aW];rw[em];show pz _ _ _ [some (.ref d),some (.int most),some (.int rk),some (.ref Lp),some (.ref L3),v5,v6,v7,some (.int rm)] _;refine⟨_,rfl,_,rfl,L3,rfl,⟨_,ai.of tY⟩,λD hD=>fF (λj=>nV (G3.getD j 0&&& rm)) (src_list (ai.of tY)) hD (by rw[aB];exact cP (by omega)) (λj H7 Kt hj hs kt=>?_) (λH7 mC gn=>?_)⟩
   ·rw[aB]at hj
    refine⟨_,rfl,_,rfl,_,_,by rw[aZ,gH hj];rfl,rfl,?_⟩;dsimp only;rw[jP];exact kt _ (Same.refl _)
   ·refine⟨L3,D,_,_,rfl,rfl,mC _ _ tY,gn,by simp;exact dS (cP (by omega)),λp hp=>?_⟩
    rw[Gz];have s8:=Same.put (o:=.lst ((iH G3 rm).map V.int)) hp;refine⟨p,iH G3 rm,rfl,ai.of ak,by rw[tG];omega,λq ks hq hnd hks=>?_⟩;have hkl:ks.length<=2*G3.length:=by
     rw[<- tG G3 rm];exact Ap hnd λk hk=>(hks k).mp hk
    refine⟨q,ks,rfl,ak,by omega,λr ms hr hml hms=>?_⟩;have s9:=Same.put (o:=lU P w q ks) hq;have X7:=Same.put (o:=.lst (ms.map V.int)) hr;refine next _ _ ⟨_,_,_,_,r,_,rfl,(s6.trans mC).trans (s8.trans (s9.trans X7)),Same.none ((K8.trans mC).trans (s8.trans s9)) hr,ak,λhlen=>?_⟩;rw[aB]at hlen;obtain⟨hmp,_⟩:=hms (by omega);obtain⟨G',eG,hG',_⟩:=tS.grown hnd hks hmp;exact⟨G',eG,hG'⟩
  rintro σ4 H7 ⟨v5,v6,v7,v8,L4,Oa,rfl,s7,ox,d8,hc4⟩;have mU:=iT.trans s7;have hpl:Q (.ref Lp) H7:=kk Lp Gp H7 mU RV (s7 _ _ hlp) RM RN;refine⟨_,rfl,_,_,rfl,rfl,_,rfl,bB (λh=>?_) (λh=>?_)⟩
  ·exact a_ ⟨_,rfl,hpl⟩
  ·refine⟨_,rfl,L4,_,rfl,.inl (ai.of d8),_,rfl,_,_,rfl,rfl,_,rfl,bB (λh2=>?_) (λh2=>?_)⟩
   ·exact⟨_,rfl,hpl⟩
   ·have hle:Oa.length<=most:=by
     have:¬ ((most:Int)<(Oa.length:Int)):=λz=>h2 (bK z);omega
    obtain⟨G4,rfl,RL⟩:=hc4 (by omega);rw[aB]at hle;exact⟨_,rfl,kk L4 G4 H7 mU ox d8 RL hle⟩
abbrev Bq:Stmt:=top 53
theorem LR:bh ["_law_cell","_law_most","_law_draws_here"] ["_law_cell","_law_most"] (ay Bq):=⟨rfl,rfl,rfl,by decide +kernel,rfl,by decide +kernel,by decide +kernel⟩
noncomputable def Ci:Sp:=λvs H Q _=>∃(c:Int) (most:Nat),vs = [.int c,.int most]/\1<=most/\most<=24 /\
 ∀L us M H',Same H H'->H L=none->H' L=some (.lst (us.map nV))->Ev.kh M->M.length<=most->cL M.length (Ev.eB M) us->Q (.ref L) H'
theorem Vw (F:aT K "_law_drawn" "_law_drawn" Bq f fd) (T:Txt mg) (lY:aF P w K mg base "_law_draws" ["_law_cell","_law_many"] 2 vI) (xQ:aF P w K mg base "_law_family" ["_law_draws_here","_law_most"] 3 (Cp K)) (yc:aF P w K mg base "_law_ups" ["_law_family_here","_law_numbers"] 1 (Di K)):aN P w K mg base bf 4 f fd ["_law_cell","_law_most"] Ci:=by
 refine F.ok LR (λvs H Q E h=>?_) (λcdv A outer s H vs Q E hr h=>?_)
 ·obtain⟨c,most,rfl,_⟩:=h
  rfl
 ·obtain⟨c,most,rfl,hm1,hm2,kk⟩:=h
  have nd:=LR.nd;refine⟨_,(ao (aJ (i:=2) nd rfl (Or.inl rfl) (bj lY hr rfl (ae (pv 0) (ae aj ag))))
   (aq (aS (bj yc hr rfl (ae (bj xQ hr rfl (ae (pv 2) (ae (pv 1) ag))) (ae (mP (mX (K:=K) rfl) (pv 2) (h7 aj) (h7 aj)) ag)))))),?_⟩
  refine⟨_,rfl,c,40,rfl,by decide,λd ns H1 s1 hd0 hd hnl hsm=>?_⟩;dsimp only[aW];refine⟨_,rfl,_,rfl,d,most,ns,rfl,ai.of hd,hsm,hnl,hm1,hm2,λL F H2 s2 hL hl hF RK=>?_⟩;refine⟨_,rfl,_,rfl,_,rfl,d,_,rfl,ai.of (s2 _ _ hd),λp hp=>?_⟩;rw[show dY (ns.map V.int) (some 12) (some 36)=((ns.drop 12).take 24).map V.int by rw[nA,pO];exact yk (ns.map V.int) 12 36 (by rw[aB];omega)];have s3:=Same.put hp (o:=.lst (((ns.drop 12).take 24).map V.int));refine⟨L,p,F,(ns.drop 12).take 24,rfl,ai.of (s3 _ _ hl),ai.of ak,by rw[gU,nz];omega,by omega,λL3 us M H4 s4 fk hl3 hM hU=>?_⟩;have o7:=(s1.trans s2).trans s3;exact kk L3 us M H4 (o7.trans s4) (Same.none o7 fk) hl3 ((hF.lat (by omega)).perm hM.symm) (by rw[hM.length_eq];exact RK) hU
end
theorem Qh(ns:List Int)(lo hi:Option Int):∃ms:List Int,dY (ns.map V.int) lo hi=ms.map V.int/\ms.length<=ns.length:=by
 unfold dY;refine⟨_,by rw[<- pO,<- nA],?_⟩;rw[gU,nz];omega
theorem Qf(xs:List V)(k:Nat):dY xs none (some (k:Int))=xs.take k:=by
 unfold dY;rw[HT.Bi,HT.rg,nu,wL]
 by_cases h:k<=xs.length
 ·rw[sf h]
 ·rw[wK (by omega),nD (by omega),nD (by omega)]
theorem DS {ws:List Str} (h:Wd ws) (hl:ws.length<=700):(ws.map λt=>t.length+(" " : Str).length).sum<=28700:=by
 have h1:=sum_bound (g:=λt:Str=>t.length+(" " : Str).length) (B:=41) ws λt ht=>by
  have:=(h t ht).2;show t.length+1<=41;omega
 omega
theorem DQ {ws:List Str} (h:Wd ws) (hl:ws.length<=700):(Txt.join " " ws).length<=30000:=by
 rw[show Txt.join " " ws=Str.join " " ws from Fq _ _]
 by_cases h0:ws = []
 ·rw[h0];exact eK _
 ·have h1:=uk (c:=32) h0
  have h2:=DS h hl;have h3:(ws.map λt=>t.length+(" " : Str).length).sum=(ws.map λp=>p.length+1).sum:=rfl;have h4:(Str.join ⟨#[32]⟩ ws).length=(Str.join " " ws).length:=rfl;omega
theorem DR {ws:List Str} (h:Wd ws) (hl:ws.length<=700):∃zs,Txt.split (Txt.join " " ws) " " = zs/\zs.length<=900/\∀y∈zs,y.length<=40:=by
 by_cases h0:ws = []
 ·refine⟨[""],by rw[h0];rfl,by decide,λy hy=>?_⟩
  rw[bW.mp hy];decide
 ·refine⟨ws,?_,by omega,λy hy=>(h y hy).2⟩
  rw[show(" " : Str)=⟨#[32]⟩from rfl];exact Nb (c:=32) h0 λp hp=>(h p hp).1
theorem Y_{n:Nat}{ps:List (Nat × Nat)}(hn:n<=24)(h:∀p∈ps,p.1<n/\p.2<n):Wd (ik n ps):=λt ht=>by
 refine⟨NC t ht,?_⟩
 rcases bu.mp ht with rfl|ht
 ·have:=jV (n:=n) (by omega)
  omega
 ·obtain⟨p,hp,rfl⟩:=cU.mp ht
  obtain⟨h1,h2⟩:=h p hp;have:=Kc (a:=p.1) (b:=p.2) (by omega) (by omega);show(nS p.1 ++ "<" ++ nS p.2).length<=40;omega
section
variable {P:Program} {w:World} {K:W.Frag} {mg:Str->Option Value} {base:Heap} {f:Addr} {fd:FuncData}
abbrev o_:Stmt:=top 68
theorem Lx:bh ["_law_script","_law_ups_here","_law_good","_law_cell","_law_draws_here","_law_words"] ["_law_script"] (ay o_):=⟨rfl,rfl,rfl,by decide +kernel,rfl,by decide +kernel,by decide +kernel⟩
theorem V1 (F:aT K "law" "law" o_ f fd) (T:Txt mg) (tf:aF P w K mg base "_law_cell_at" ["_law_script","_law_k"] 1 (Ca K)) (lY:aF P w K mg base "_law_draws" ["_law_cell","_law_many"] 2 vI) (xO:aF P w K mg base "_law_drawn" ["_law_cell","_law_most"] 4 Ci)
  (xZ:aF P w K mg base "_law_spread" ["_law_ups_here","_law_numbers"] 3 (Cz K)) (sX:aF P w K mg base "_law_bent" ["_law_words","_law_draws_here","_law_count"] 1 (B_ K)) (lZ:aF P w K mg base "_law_right" ["_law_text"] 8 Df):aN P w K mg base bf 9 f fd ["_law_script"] (vL K):=by
 refine F.ok Lx (λvs H Q E h=>?_) (λcdv A outer s H vs Q E hr h=>?_)
 ·obtain⟨a,ns,rfl,_⟩:=h
  rfl
 ·obtain⟨a,ns,rfl,hS,hns,kk⟩:=h
  have nd:=Lx.nd;refine⟨_,(@ao _ _ _ _ _ (aJ (i:=1) nd rfl (Or.inl rfl) (bj xO hr rfl (ae (bj tf hr rfl (ae (pv 0) (ae aj ag))) (ae aj ag))))
   (@ao _ _ _ _ _ (aJ (i:=2) nd rfl (Or.inl rfl) (bj xZ hr rfl (ae (pv 1) (ae (bj lY hr rfl (ae (bj tf hr rfl (ae (pv 0) (ae aj ag))) (ae aj ag))) ag))))
   (@ao _ _ _ _ _ (bq (PW.pt (fN (gJ (dh (bj lZ hr rfl (ae bz ag)))) (gC (gJ (dh (bj lZ hr rfl (ae (pv 2) ag))))))) (aq (aS iQ)) bx)
   (@ao _ _ _ _ _ (b_ cy rfl (dJ (K:=K) rfl (av gu (b9 (ae aj (ae aj ag))) (mP (mX (K:=K) rfl) (pv 0) (h7 aj) (h7 aj)))) (aY (i:=3) nd rfl (Or.inl rfl))
   (@ao _ _ _ _ _ (aJ (i:=4) nd rfl (Or.inl rfl) (bj lY hr rfl (ae (pv 3) (ae aj ag))))
   (@ao _ _ _ _ _ (aJ (i:=5) nd rfl (Or.inl rfl) (bj sX hr rfl (ae (cR (K:=K) rfl je jK nU mI (pv 2) (ae bz ag)) (ae (mP (mX (K:=K) rfl) (pv 4) Bc (h7 aj)) (ae (aR (cj (K:=K) rfl) rfl T.len cw (ae (pv 1) ag)) ag (bw nofun)) (bw nofun)) (bw nofun))))
   (@ao _ _ _ _ _ (bq (gJ (dh (bj lZ hr rfl (ae (cR (K:=K) rfl je wU wY (uz (K:=K) rfl) bz (ae (pv 5) ag)) ag)))) (aq (aS iQ)) bx)
   (aq (bq (PW.pt (gK (aU bQ (av cq (aH (aX (K:=K) rfl) (pv 4) aj (λ_ _=>rfl)) aj) aj (aP _)) (gN (gJ (dh (bj lZ hr rfl (ae (cR (K:=K) rfl je wU wY (uz (K:=K) rfl) bz (ae (bj sX hr rfl (ae (pv 5) (ae (mP (mX (K:=K) rfl) (pv 4) (h7 aj) (h7 aj)) (ae (aR (cj (K:=K) rfl) rfl T.len cw (ae (pv 1) ag)) ag (bw nofun)) (bw nofun)) (bw nofun))) ag)) ag))))))) (aq (aS iQ)) bx))))))
   (aq (aS (bj lZ hr rfl (ae (pv 2) ag)))))))),?_⟩
  refine⟨_,rfl,a,0,ns,rfl,hS,λz H1 s1=>⟨z,12,rfl,by decide,by decide,λu us M H2 s2 hu0 hu hM RW hU=>?_⟩⟩;have hpos:=hM.pos;have ju:=s1.trans s2;dsimp only[aW];show bD _ _ _ [some (.ref a),some (.ref u),none,none,none,none] _;refine⟨_,rfl,_,rfl,a,1,ns,rfl,ju.seq hS,λz' H3 s3=>⟨z',12,rfl,by decide,λd0 Qr H4 s4 aac hd0 aad aae=>?_⟩⟩;have La:=s3.trans s4;refine⟨u,d0,M.length,Ev.eB M,us,Qr,rfl,ai.of (La _ _ hu),ai.of hd0,hU,hpos,by omega,by omega,by omega,Ev.T9 _ _,λps H5 s5 hpl hand=>?_⟩;have Lb:=La.trans s5;have SX:=Lb _ _ hu;have o9:=ju.trans Lb;have hG:Wd (ik M.length ps):=Y_ (by omega) hand.lt;have tT:(ik M.length ps).length<=601:=by unfold ik;simp;omega
  dsimp only[aW];show bD _ _ _ [some (.ref a),some (.ref u),some (.str (textOf M.length ps)),none,none,none] _;refine⟨"", [""],rfl,rfl,by decide,by decide,λy hy=>by rw[bW.mp hy];decide,λH6 s6=>⟨_,rfl,aI ?_⟩⟩;obtain⟨zG,eG,tQ,hJ⟩:=DR hG (by omega);have zH:=DQ hG (by omega);refine⟨_,rfl,_,zG,rfl,eG,zH,tQ,hJ,λH7 s7=>⟨_,rfl,aI ?_⟩⟩;have Lc:=s6.trans s7;have mU:=o9.trans Lc;have qy:=Lc _ _ SX;dsimp only;show bD _ _ _ [some (.ref a),some (.ref u),some (.str (textOf M.length ps)),none,none,none] _;refine⟨by show 2<=sizeLine;decide,λp1 hp1=>⟨_,rfl,_,rfl,_,rfl,a,_,rfl,(mU.trans (Same.put hp1)).seq hS,λp2 hp2=>?_⟩⟩;obtain⟨ms,QC,hms⟩:=Qh ns (some 2) (some 18);rw[QC];refine⟨p1,p2,_,_,rfl,rfl,Same.put hp2 _ _ ak,ak,by rw[aB];show 2+ms.length<=sizeLine;exact dS (cP (by omega)),λp3 hp3=>?_⟩;generalize hB:upd (upd (upd H7 p1 _) p2 _) p3 _=B;have sB:Same H7 B:=by rw[<- hB];exact((Same.put hp1).trans (Same.put hp2)).trans (Same.put hp3)
  have hl3:B p3=some (.lst (([0,7]++ms).map V.int)):=by rw[<- hB,ak,gW];rfl
  have Ip:=sB _ _ qy;have eu:(((us.map nV).length:Nat):Int)=(M.length:Int):=by rw[aB,hU.len]
  refine⟨p3,rfl,⟨_,ai.of hl3⟩,jn (K:=K) (a:=p3) (xs:=([0,7]++ms).map V.int) (λi σ H8=>∃(v3 v4 v5:Option V),σ = [some (.ref a),some (.ref u),some (.str (textOf M.length ps)),v3,v4,v5]/\Same B H8)
   ⟨none,none,none,rfl,Same.refl _⟩ (λi σ H8 _ ⟨_,_,_,_,s8⟩=>ai.of (s8 _ _ hl3)) ?_ ?_⟩
  ·rintro i y σ H8 hy ⟨v3,v4,v5,rfl,s8⟩
   obtain⟨zc,hz,rfl⟩:=cU.mp (eh hy);dsimp only[aW];show bD _ _ _ [some (.ref a),some (.ref u),some (.str (textOf M.length ps)),some (.int zc),v4,v5] _;refine⟨_,rfl,zc,7,rfl,by decide,λd ds H9 s9 hd0 hd hdl hds=>?_⟩;have t9:=s8.trans s9;dsimp only[aW];show bD _ _ _ [some (.ref a),some (.ref u),some (.str (textOf M.length ps)),some (.int zc),some (.ref d),v5] _;refine⟨_,rfl,rfl,_," ", rfl,rfl,by decide,bN zH (by decide),λg hg=>?_⟩;rw[Yt];have tg:=Same.put hg (o:=.lst ((ik M.length ps).map V.str));refine⟨_,rfl,_,rfl,d,_,rfl,ai.of (tg _ _ hd),λq hq=>?_⟩;rw[show dY (ds.map V.int) none (some 3)=(ds.take 3).map V.int by rw[nA];exact Qf _ 3];have tq:=Same.put hq (o:=.lst ((ds.take 3).map V.int));have NK:=tg.trans tq;have t11:=t9.trans NK;refine⟨_,rfl,u,_,rfl,.inl (ai.of (t11 _ _ Ip)),?_⟩;rw[eu];refine⟨g,q,M.length,ik M.length ps,ds.take 3,rfl,ai.of (tq _ _ ak),hG,by omega,ai.of ak,by rw[gU];omega,λx hx=>(hds x (r0 hx)).1,hpos,by omega,λL cx Z5 s12 hL tW hl1=>?_⟩;have YC:=t11.trans s12;have HD:=s12 _ _ (NK _ _ hd);dsimp only[aW];show bD _ _ _ [some (.ref a),some (.ref u),some (.str (textOf M.length ps)),some (.int zc),some (.ref d),some (.ref L)] _;obtain⟨z1,e1,h11,h12⟩:=DR tW (by omega);refine⟨rfl,_,rfl," ", L,cx,rfl,rfl,ai.of hL,?_,_,z1,rfl,e1,DQ tW (by omega),h11,h12,λOe vd=>⟨_,rfl,aI ?_⟩⟩
   ·exact bN (DS tW (by omega)) (dS (cP (by decide)))
   have Nt:=YC.trans vd;have done:∃(v3 v4 v5:Option V),[some (V.ref a),some (.ref u),some (.str (textOf M.length ps)),some (.int zc),some (.ref d),some (.ref L)] = [some (.ref a),some (.ref u),some (.str (textOf M.length ps)),v3,v4,v5]/\Same B Oe:=⟨_,_,_,rfl,Nt⟩;refine⟨_,rfl,d,_,6,_,rfl,rfl,ai.of (vd _ _ HD),bp (dk (i:=6) (by omega)),_,_,rfl,rfl,(by show(0:Int)<2;decide),rfl,_,rfl,bB (λh=>?_) (λh=>aI done)⟩;refine⟨rfl,_,rfl,_,rfl,_,rfl,_,rfl,d,_,rfl,ai.of (vd _ _ HD),λe he=>?_⟩;rw[show dY (ds.map V.int) (some 3) (some 6)=((ds.drop 3).take 3).map V.int by rw[nA,pO];exact yk (ds.map V.int) 3 6 (by rw[aB];omega)];have te:=Same.put he (o:=.lst (((ds.drop 3).take 3).map V.int));have Nu:=Nt.trans te;refine⟨_,rfl,u,_,rfl,.inl (ai.of (Nu _ _ Ip)),?_⟩;rw[eu];refine⟨L,e,M.length,cx,(ds.drop 3).take 3,rfl,ai.of ((vd.trans te) _ _ hL),tW,by omega,ai.of ak,by rw[gU,nz];omega,λx hx=>(hds x (Eo (r0 hx))).1,hpos,by omega,λL2 ZJ Z6 X9 hL2 hW2 hl2=>?_⟩;obtain⟨z2,e2,h21,h22⟩:=DR hW2 (by omega);refine⟨" ", L2,ZJ,rfl,rfl,ai.of hL2,?_,_,z2,rfl,e2,DQ hW2 (by omega),h21,h22,λZ7 X_=>⟨_,rfl,aI ⟨_,_,_,rfl,Nu.trans (X9.trans X_)⟩⟩⟩;exact bN (DS hW2 (by omega)) (dS (cP (by decide)))
  ·rintro σ H8 ⟨v3,v4,v5,rfl,s8⟩
   exact⟨_,rfl,_,zG,rfl,eG,zH,tQ,hJ,λH9 s9=>kk _⟩
end
end My
noncomputable def PySem.W.Fast.tw1927537715673760759 : PySem.Program := PySem.Challenge.pw_evenclimb_k72_order_texts_refused
theorem PySem.W.Fast.te1927537715673760759 : PySem.Challenge.pw_evenclimb_k72_order_texts_refused = PySem.W.Fast.tw1927537715673760759 := rfl
structure PySem.W.Fast:Prop where (te1116000262841891353 tw15255923740902360625 tw6839506039621967861 tw4343122550655293414 tw13073050029847922810 tw7145511754869586022 tw12618885751375959969 tw13528638708810164739 tw328439408614229833 tw6421780711479290374 tw15672177769977910806 tw16068995134943876792 tw3500824878935767907 tw913373306322128826 tw3458812996298240733 tw10946137644207514408 tw3085327563117120342 tw9726191811102077467 tw4965508845109918691 tw9734283271321996132 tw18341428832144957116 tw10923329740708599652 tw3523972447108683554 tw552456595324538917 tw10153506820809809392 tw8771218993895417236 tw13758633022757826262 tw7987802354250690364 tw13074893285604524850 tw9921870000065435832 tw284111227564486431 tw14441521521157006038 tw18133304178855684037 tw7824472078608390360 tw11052000011543802251 tw3101536555719763726 tw9431152120264883883 tw17212846212660631898 tw556289215953998926 tw16040850862512080458 tw11686733979413494483 tw5567282173805582842 tw6526761857199558397 tw9540394350009301161 tw18325706325247879682 tw14353503684293775650 tw16801782534156082271 tw9920580451837840501 tw5544960551113273726 tw1954308737267033691 tw1844591248410680282 tw5145940144510013616 tw5502728508027625795 tw15422610029398902842 tw2875583461948943367 tw15642208039828486978 tw17494711679144814206 tw14004904862948887902 tw17489311228420308822 tw632024092486060299 tw18194792139993383149 tw1952290105871133177 tw15968034260697203891 tw2593694742566092565 tw16531112581160426202 tw2236230801995701401 tw15591434259881100042 tw11019470263306937822 tw9399392055868348051 tw8551054544165704678 tw10624387093876390751 tw11798373117505698974 tw18075769689687577759 tw2437068304781207609 tw4722664837550992541 tw12507836542492040452 tw12404897328304012296 tw4515600254468603943 tw18236033243312161726 tw9366935965105795825 tw7747921393017803996 tw5684239334361264216 tw6553132950731534683 tw7492950025630575303 tw6072577115693557069 tw7642162730058569222 tw13230085836076333995 tw1470840032128218431 tw7710923331332360657 tw17574215693963786690 tw10131687639265574577 tw17371100385174099061 tw12084276840236094385 tw355614503442747995 tw76088037537993068 tw17944184992489126889 tw9449434289254732278 tw7389942305043366642 tw16683747293232304324 tw529755893648848676 tw10552392329949788665 tw7222522362877770905 tw10457092412176820376 tw7412905069423943260 tw13901571696278553889 tw11747378425724485001 tw16419553101907374692 tw11871701775707816106 tw13467730577939796553 tw10576543093460930671 tw8119130283768940577 tw17458808384730029855 tw9816839410174711755 tw16274588887213478311 tw11485990256765290121 tw13248243475772798725 tw15855761626873136598 tw9344239746741947879 tw11267047772740216708 tw307857425249016424 tw9809515821651995629 tw8884638130910144417 tw9065146322720545349 tw9011105821587695532 tw1897792003403164398 tw16369166266547964917 tw15455754320957577719 tw11523696235554814353 tw12409397280976549746 tw9321635827986839245 tw4654651986622089491 tw2138866231870449304 tw11560449202010138519 tw10166053730307022567 tw1323130173305710493 tw8524336741773985381 tw16425952028779570543 tw3622272843029551765 tw9347176339162399782 tw4844619616300231864 tw1016760281713738582 tw15048530640003144900 tw105035607384525990 tw8393016693285440976 tw18082898156119982794 tw4253217900977182308 tw15832290325443278925 tw16125155654512565468 tw15908322263699277199 tw5550663459019298741 tw5932371275813855253 tw3325677165470308791 tw3917424874120225241 tw14049128078062617980 tw16470877599840399717 tw3077864299539281147 tw5007273420919240458 tw5653597926006740686 tw283996704989931261 tw3754077164752284697 tw12481929280342010347 tw4553397480013529382 tw16350814920238299133 tw1000906421734536616 tw4033313034582204582 tw10406553535212876692 tw14609384662844126789 tw8048458986045061656 tw13642053242697617 tw10323230636023447477 tw10463041821299478003 tw6336549783883426111 tw4249470561163624266 tw2169670393854206295 tw1824938722640324523 tw669311842205066135 tw6400888063903071644 tw5722058778747858226 tw16043639316867023993 tw11742541361423091271 tw8093759555061831517 tw4909716733637939653 tw3350107918472661258 tw2298750910232579805 tw15985616818611219889 tw15930106227564332351 tw10005213064241465226 tw9159443032266266541 tw16946799849987606513 tw12989839083686781429 tw12819393547026819369 tw4539897664222708432 tw2152299618894404989 tw11957892498094542587 tw8741582895050371172 tw4530297538083930637 tw4436808195692070636 tw3089250002211733488 tw2767905930773743717 tw164970505962845699 tw11996317690213992080 tw10097387562424884981 tw5648112523757528884 tw13458748018237812769 tw13089141383611941360 tw8839860609367932837 tw600708867751154415 tw12994818673161242947 tw11219737595260516824 tw10748835556747693601 tw6595164864425398557 tw17679749987605379184 tw6144465635560624791 tw5906783850583895042 tw358303186449951024 tw17320895344959218144 tw10468991638009667272 tw6563740330587429146 tw4505730876469605674 tw7396924147866804989 tw7197589652862019192 tw7700745010480051888 tw15028813531239132026 tw7485853609620781999 tw18435915302076573330 tw7461566582079976157 tw6052151171115738257 tw12558515331193428361 tw5527139660635633633 tw2199785359674742662 tw1746887050740259151 tw16874440935978972890 tw14914682109712770288 tw9889995471105680754 tw752318047580975045 tw7456818740871606239 tw13529002879392584098 tw4380748905022456165 tw3831592110302776777 tw213514853661803947 tw13668245538276847684 tw10747322115027740587 tw9488944188420252300 tw12035994548356443211 tw5332005959607408570 tw3639248068235106803 tw16184460292106820290 tw1299430266467673403 tw11969297891857258612 tw2293484727890032405 tw7371244495481750819 tw5336618317346025513 tw3350724704390674395 tw1535742875784397084 tw2055994112320864470 tw7491370513684054195 tw1796828839565886180 tw17883679697532874314 tw9893997260824402315 tw8986445532675178041 tw5995001134786027278 tw17822261571605994444 tw282147393227499403 tw17950218353655077232 tw5858331020391589975 tw3294515210148263483 tw5694367283264701076 tw5526040383864212947 tw17044192396980598436 tw2094723652688937331 tw4987397025202128966 tw14742729451255749486 tw785034724761763512 tw16025559108738236026 tw17091668195245015714 tw1824574797866431984 tw17956780615083777250 tw17141075578801050594 tw1609014924591487046 tw13242016785867125929 tw3227202727121496821 tw15726274857710963459 tw16570308027371373079 tw13404675615932808851 tw5658449025106108211 tw15655580037757902863 tw13826028565932973200 tw10657312752393974270 tw17922404549885301108 tw13661164302423346575 tw6976978245131584230 tw15373455972198799942 tw1196185833011721362 tw234649216616469633 tw13362260247337087140 tw3397927314735435467 tw9498353782215398054 tw8128972812035436740 tw7843386966605854858 tw7091692053994538706 tw603195604150725151 tw5045500580488105331 tw4877551688231722528 tw4169690771419079425 tw264622246765550515 tw2403777119951788155 tw17681224764070864437 tw16704206977613417005 tw16100006644862025804 tw15814396598674627738 tw12737926334487292552 tw11287580189525275562 tw10864011690900505560 tw10574693189068114118 tw9989987478798752776 tw9475977937751213414 tw8873956757803946186 tw8589331369378848348 tw8250506528287846118 tw8142632362455053825 tw7695535386521175521 tw7454428010659254945 tw6409206295959595576 tw5677422934487863684 tw528514615357545683 tw3963946705231949110 tw2019108452304086367 tw18190675794090649260 tw18110466653471384737 tw17881762432692160614 tw15912177160293024844 tw15386409491966986795 tw14784811840723354976 tw13475508423187647585 tw13468440835521403822 tw11865028277151682150 tw11725705296722886746 tw11362974213887305083 tw10411727504666464351 tw3338561944661618303 tw13792317671635391794 tw12146296793240699916 tw17218068011216268783 tw15162156450102230807 tw11627958989122752941 tw4827283881352003467 tw2181902757424027231 tw12197378369767106090 tw3341890539578485989 tw2803458457133613274 tw13753423272263931708 tw10421982098914889558 tw8385300967875664833 tw2701096591462364272 tw14296935194817982326 tw8562023112152898952:True)
namespace My
open PySem PySem.Spec PyProof.Rows L2
theorem eY{C:List Value->Prop}(h:∀a0,C [a0]):∀us:List Value,us.length=1->C us
 | [a0],_=>h a0
theorem bX{C:List Value->Prop}(h:∀a0 a1,C [a0,a1]):∀us:List Value,us.length=2->C us
 | [a0,a1],_=>h a0 a1
theorem pC{C:List Value->Prop}(h:∀a0 a1 a2,C [a0,a1,a2]):∀us:List Value,us.length=3->C us
 | [a0,a1,a2],_=>h a0 a1 a2
set_option maxHeartbeats 0 in
theorem all_mk {l:W.OpenLaw} {w:World} {K:W.Frag} {h:Heap} {mg:Str->Option Value} {fa C a0 a1 a2 a3 a4 a5 a6 a7 a8 a9 a10 a11 a12 a13 a14 aE:Addr} (X:K.In h) (G:h.Ns mainGlobals mg) (hfa:mg "law" = some (.ref fa)) (tx:oa K)
  (cO:ClsAt K "Order" "Order.__init__" vg C) (nC:W.findIn K (.ref C) "count" = some none) (nP:W.findIn K (.ref C) "pairs" = some none) (nR:W.findIn K (.ref C) "reach" = some none) (nJ:W.findIn K (.ref C) "joins" = some none) (nM:W.findIn K (.ref C) "meets" = some none)
  (Al:W.nsIn K mainGlobals "set" = some none)
  {Y6:Tok} (Au:W.nsIn K mainGlobals "FIGURES" = some (some (.str "0123456789" Y6)))
  (er:rM K a0 a1 a2 a3 a4 a5 a6 a7 a8 a9 a10 a11 a12 a13 a14 aE)
  (BI:nk K aE)
  (qX:df K a0 a1 a2 a3 a4 a5 a6 a7 a8 a9 a10 a11 a12 a13 a14 aE a2 2)
  (lq:df K a0 a1 a2 a3 a4 a5 a6 a7 a8 a9 a10 a11 a12 a13 a14 aE a5 5)
  (lr:df K a0 a1 a2 a3 a4 a5 a6 a7 a8 a9 a10 a11 a12 a13 a14 aE a9 9)
  (lu:df K a0 a1 a2 a3 a4 a5 a6 a7 a8 a9 a10 a11 a12 a13 a14 aE a11 11)
  (lz:df K a0 a1 a2 a3 a4 a5 a6 a7 a8 a9 a10 a11 a12 a13 a14 aE a12 12)
  (rF:W.excIn K a2 jz "ValueError.__new__" = true)
  (yI:aD K "is_whole" Bo)
  (yH:aD K "is_thing" Bn)
  (zm:aD K "own_row" vD)
  (yC:aD K "either" vi)
  (zu:aD K "shared" vG)
  (yB:aD K "column" vh)
  (zp:aD K "reach_of" rj)
  (zv:aD K "twos" vH)
  (yE:aD K "ends_with" vo)
  (yD:aD K "ends_of" vn)
  (zo:aD K "pairs_of" vE)
  (yF:aD K "is_number" vq)
  (yG:aD K "is_pair" vt)
  (zt:aD K "read_pair" BV)
  (yL:aD K "_law_cell_at" Bp)
  (yZ:aD K "_law_mixed" Bv)
  (yP:aD K "_law_draws" Br)
  (yX:aD K "_law_masks" vz)
  (zf:aD K "_law_ups" BJ)
  (y6:aD K "_law_pairs" vA)
  (yV:aD K "_law_is_step" vy)
  (y7:aD K "_law_parity" Bw)
  (y8:aD K "_law_planes" Bx)
  (yT:aD K "_law_handed" Bt)
  (y_:aD K "_law_spread" vB)
  (yK:aD K "_law_bent" vv)
  (yM:aD K "_law_closed" rh)
  (uf:gT K "NoThing.__init__" "thing" Bm a12)
  (zl:aD K "need_thing" BR)
  (uc:gT K "NoOrder.__init__" "things" Bk a9)
  (ub:gT K "NoJoin.__init__" "things" Bj a5)
  (zh:aD K "need_count" BK)
  (zk:aD K "need_pairs" BP)
  (zj:aD K "need_one_way" BM)
  (zi:aD K "need_ends" BL)
  (yN:aD K "_law_downs" vw)
  (za:aD K "_law_two_due" BG)
  (ud:gT K "NoText.__init__" "at" Bl a11)
  (zq:aD K "read_order" vF)
  (zg:aD K "_law_word_number" vC)
  (yQ:aD K "_law_due" vx)
  (yW:aD K "_law_kind" dn)
  (yS:aD K "_law_field" Bs)
  (mj:aD K "_law_same" Bz)
  (yU:aD K "_law_is" Bu)
  (y9:aD K "_law_right" By)
  (yR:aD K "_law_family" mV)
  (yO:aD K "_law_drawn" Bq)
  (yJ:aD K "law" o_) :
  ∃fd:FuncData,(∀(s:Shared) (v:Value),BindsTo s fd ⟨[v],[]⟩ [("_law_script", v)])/\∀base:Heap,K.In base->base.Ns mainGlobals mg->aN l.prog w K mg base bf 9 fa fd ["_law_script"] (vL K):=by
 have T:=tx.txt X G;have TC:pG K C:=⟨cO.cl,nC,nP,nR,nJ,nM⟩;obtain⟨f,fd,a,F⟩:=yJ.ex;have e:=hfa.symm.trans (W.mg_of X G a);cases e;obtain⟨oc,od,kV,doc,pm,an,cdv,ct,osl,rfl,lk,hcd⟩:=id F.ex;refine⟨W.fnOf "law" "law" (iI o_) (f9 o_) (ay o_) .none kV doc pm an cdv ct,λs v=>.of_eq rfl,λbase _ _=>?_⟩;have ow:=W.mg_none_of X G Al;have DK:∃t,mg "FIGURES" = some (.str "0123456789" t):=⟨_,W.mg_of X G Au⟩;have Er:=er.errs X G;have oj:aF l.prog w K mg base "is_whole" ["value"] 1 vK:=yI.cal X G (λ_ _ _ _ _ _=>eY λ_=>rfl) (λF=>VR F T);have xK:aF l.prog w K mg base "is_thing" ["count","number"] 2 Cy:=yH.cal X G (λ_ _ _ _ _ _=>bX λ_ _=>rfl) (λF=>VP F T oj);have yd:aF l.prog w K mg base "own_row" ["count","thing"] 1 CT:=zm.cal X G (λ_ _ _ _ _ _=>bX λ_ _=>rfl) (λF=>V5 F T);have xH:aF l.prog w K mg base "either" ["one","other"] 1 Cj:=yC.cal X G (λ_ _ _ _ _ _=>bX λ_ _=>rfl) (λF=>Vz F T);have yh:aF l.prog w K mg base "shared" ["one","other"] 1 Dg:=zu.cal X G (λ_ _ _ _ _ _=>bX λ_ _=>rfl) (λF=>Wc F T);have xG:aF l.prog w K mg base "column" ["rows","place"] 1 Ce:=yB.cal X G (λ_ _ _ _ _ _=>bX λ_ _=>rfl) (λF=>Vu F T);have yf:aF l.prog w K mg base "reach_of" ["count","pairs"] 2 (C_ K):=zp.cal X G (λ_ _ _ _ _ _=>bX λ_ _=>rfl) (λF=>V_ F T yd xH);have ot:aF l.prog w K mg base "twos" ["count"] 1 vO:=zv.cal X G (λ_ _ _ _ _ _=>eY λ_=>rfl) (λF=>Wg F T);have xI:aF l.prog w K mg base "ends_with" ["rows","things","thing"] 2 (Cm K):=yE.cal X G (λ_ _ _ _ _ _=>pC λ_ _ _=>rfl) (λF=>VD F T yh);have sW:aF l.prog w K mg base "ends_of" ["rows"] 3 (Ck K):=yD.cal X G (λ_ _ _ _ _ _=>eY λ_=>rfl) (λF=>VB F T xI);have ye:aF l.prog w K mg base "pairs_of" ["count","reach"] 1 CV:=zo.cal X G (λ_ _ _ _ _ _=>bX λ_ _=>rfl) (λF=>V7 F T);have oh:aF l.prog w K mg base "is_number" ["word"] 1 vJ:=yF.cal X G (λ_ _ _ _ _ _=>eY λ_=>rfl) (λF=>VL F T DK);have xJ:aF l.prog w K mg base "is_pair" ["word"] 2 Cv:=yG.cal X G (λ_ _ _ _ _ _=>eY λ_=>rfl) (λF=>VM F T oh);have yg:aF l.prog w K mg base "read_pair" ["word"] 1 De:=zt.cal X G (λ_ _ _ _ _ _=>eY λ_=>rfl) (λF=>V' F T);have tf:aF l.prog w K mg base "_law_cell_at" ["_law_script","_law_k"] 1 (Ca K):=yL.cal X G (λ_ _ _ _ _ _=>bX λ_ _=>rfl) (λF=>Vs F T);have xW:aF l.prog w K mg base "_law_mixed" ["_law_cell","_law_place"] 1 CG:=yZ.cal X G (λ_ _ _ _ _ _=>bX λ_ _=>rfl) (λF=>V4 F T);have lY:aF l.prog w K mg base "_law_draws" ["_law_cell","_law_many"] 2 vI:=yP.cal X G (λ_ _ _ _ _ _=>bX λ_ _=>rfl) (λF=>Vx F T xW);have om:aF l.prog w K mg base "_law_masks" ["_law_numbers","_law_wide","_law_most"] 1 (vM K):=yX.cal X G (λ_ _ _ _ _ _=>pC λ_ _ _=>rfl) (λF=>V3 F T ow);have yc:aF l.prog w K mg base "_law_ups" ["_law_family_here","_law_numbers"] 1 (Di K):=zf.cal X G (λ_ _ _ _ _ _=>bX λ_ _=>rfl) (λF=>Wh F T);have oq:aF l.prog w K mg base "_law_pairs" ["_law_ups_here"] 1 (vN K):=y6.cal X G (λ_ _ _ _ _ _=>eY λ_=>rfl) (λF=>V6 F T);have xU:aF l.prog w K mg base "_law_is_step" ["_law_ups_here","_law_a","_law_b"] 1 (Cw K):=yV.cal X G (λ_ _ _ _ _ _=>pC λ_ _ _=>rfl) (λF=>VN F T);have xX:aF l.prog w K mg base "_law_parity" ["_law_number"] 1 CW:=y7.cal X G (λ_ _ _ _ _ _=>eY λ_=>rfl) (λF=>V8 F T);have xY:aF l.prog w K mg base "_law_planes" ["_law_wide"] 2 (CZ K):=y8.cal X G (λ_ _ _ _ _ _=>eY λ_=>rfl) (λF=>V9 F T xX om);have xS:aF l.prog w K mg base "_law_handed" ["_law_ups_here","_law_numbers"] 2 (Cr K):=yT.cal X G (λ_ _ _ _ _ _=>bX λ_ _=>rfl) (λF=>VH F T oq xU);have xZ:aF l.prog w K mg base "_law_spread" ["_law_ups_here","_law_numbers"] 3 (Cz K):=y_.cal X G (λ_ _ _ _ _ _=>bX λ_ _=>rfl) (λF=>V2 F T xS);have sX:aF l.prog w K mg base "_law_bent" ["_law_words","_law_draws_here","_law_count"] 1 (B_ K):=yK.cal X G (λ_ _ _ _ _ _=>pC λ_ _ _=>rfl) (λF=>Vr F T);have xM:aF l.prog w K mg base "_law_closed" ["_law_count","_law_pairs_here"] 1 (Cd K):=yM.cal X G (λ_ _ _ _ _ _=>bX λ_ _=>rfl) (λF=>Vt F T);have lH:=uf.fl;have xF:iX l.prog w K mg base a12 "NoThing" ["self","thing"] 1 (gP a12 "thing" ph):=uf.cal Er.NoThing (λ_ _ _ _ _ _=>bX λ_ _=>rfl) (λF ic=>Vq F Er BI ic lH);have tH:fC l.prog w K mg base "need_thing" ["count","number"] 3 (CQ a12):=zl.kF X G (λ_ _ _ _ _ _=>bX λ_ _=>rfl) (λF=>Wr F T xK xF);have lF:=uc.fl;have xE:iX l.prog w K mg base a9 "NoOrder" ["self","things"] 1 (gP a9 "things" oO):=uc.cal Er.NoOrder (λ_ _ _ _ _ _=>bX λ_ _=>rfl) (λF ic=>Vo F Er BI ic lF);have lE:=ub.fl;have xD:iX l.prog w K mg base a5 "NoJoin" ["self","things"] 1 (gP a5 "things" oO):=ub.cal Er.NoJoin (λ_ _ _ _ _ _=>bX λ_ _=>rfl) (λF ic=>Vn F Er BI ic lE);have ym:fC l.prog w K mg base "need_count" ["count"] 2 (CJ a2):=zh.kF X G (λ_ _ _ _ _ _=>eY λ_=>rfl) (λF=>Wm F T Er rF oj);have yp:fC l.prog w K mg base "need_pairs" ["count","pairs"] 4 (CP K a12):=zk.kF X G (λ_ _ _ _ _ _=>bX λ_ _=>rfl) (λF=>Wq F T tH);have yo:fC l.prog w K mg base "need_one_way" ["count","reach"] 3 (CN a9):=zj.kF X G (λ_ _ _ _ _ _=>bX λ_ _=>rfl) (λF=>Wo F T ot xE);have yn:fC l.prog w K mg base "need_ends" ["count","joins","meets"] 3 (CK a5):=zi.kF X G (λ_ _ _ _ _ _=>pC λ_ _ _=>rfl) (λF=>Wn F T ot xD);have yl:rL l.prog w K mg base C "Order" ["self","count","pairs"] 5 (Ct K C a2 a12 a9 a5):=cO.kF X G (λ_ _ _ _ _ _=>pC λ_ _ _=>rfl) (λF=>Wj F T TC ym yp yf yo sW xG yn ye);have xN:aF l.prog w K mg base "_law_downs" ["_law_ups_here"] 1 (Cg K):=yN.cal X G (λ_ _ _ _ _ _=>eY λ_=>rfl) (λF=>Vv F T);have yb:aF l.prog w K mg base "_law_two_due" ["_law_ups_here"] 2 (Dh K):=za.cal X G (λ_ _ _ _ _ _=>eY λ_=>rfl) (λF=>Wf F T xN);have lG:=ud.fl;have sV:iX l.prog w K mg base a11 "NoText" ["self","at"] 1 (gP a11 "at" ph):=ud.cal Er.NoText (λ_ _ _ _ _ _=>bX λ_ _=>rfl) (λF ic=>Vp F Er BI ic lG);have yq:fC l.prog w K mg base "read_order" ["text"] 7 (Dd C a11 a2 a12 a9 a5):=zq.kF X G (λ_ _ _ _ _ _=>eY λ_=>rfl) (λF=>Ws F T TC sV oh xJ yg yl);have tj:aF l.prog w K mg base "_law_word_number" ["_law_word"] 1 Dj:=zg.cal X G (λ_ _ _ _ _ _=>eY λ_=>rfl) (λF=>Wi F T);have xP:aF l.prog w K mg base "_law_due" ["_law_text"] 3 rn:=yQ.cal X G (λ_ _ _ _ _ _=>eY λ_=>rfl) (λF=>Vy F T tj xM yb);have xV:aF l.prog w K mg base "_law_kind" ["_law_e"] 1 (Cb λC j=>df K a0 a1 a2 a3 a4 a5 a6 a7 a8 a9 a10 a11 a12 a13 a14 aE C j):=yW.cal X G (λ_ _ _ _ _ _=>eY λ_=>rfl) (λF=>V0 F T Er);have xR:aF l.prog w K mg base "_law_field" ["_law_kind_here","_law_e"] 1 (Cq a11 a12 a9 a5):=yS.cal X G (λ_ _ _ _ _ _=>bX λ_ _=>rfl) (λF=>VG F T lz lr lq lu lH lF lE lG);have c0:aF l.prog w K mg base "_law_same" ["_law_found","_law_due_here"] 0 (h_ rN):=mj.cal X G (λ_ _ _ _ _ _=>bX λ_ _=>rfl) (λ_=>Wb);have c1:aF l.prog w K mg base "_law_same" ["_law_found","_law_due_here"] 1 (h_ R1):=mj.cal X G (λ_ _ _ _ _ _=>bX λ_ _=>rfl) (λF=>uP tL F T c0);have c2:aF l.prog w K mg base "_law_same" ["_law_found","_law_due_here"] 2 (h_ sI):=mj.cal X G (λ_ _ _ _ _ _=>bX λ_ _=>rfl) (λF=>uP (Like.mono tL) F T c1);have c3:aF l.prog w K mg base "_law_same" ["_law_found","_law_due_here"] 3 (h_ R3):=mj.cal X G (λ_ _ _ _ _ _=>bX λ_ _=>rfl) (λF=>uP (Like.mono (Like.mono tL)) F T c2);have kE:aF l.prog w K mg base "_law_same" ["_law_found","_law_due_here"] 4 (h_ R4):=mj.cal X G (λ_ _ _ _ _ _=>bX λ_ _=>rfl) (λF=>uP (Like.mono (Like.mono (Like.mono tL))) F T c3);have xT:aF l.prog w K mg base "_law_is" ["_law_order","_law_ups_here"] 5 (Cu K C):=yU.cal X G (λ_ _ _ _ _ _=>bX λ_ _=>rfl) (λF=>VJ F T TC oq kE);have lZ:aF l.prog w K mg base "_law_right" ["_law_text"] 8 Df:=y9.cal X G (λ_ _ _ _ _ _=>eY λ_=>rfl) (λF=>Wa F T TC Er lz qX lr lq lu yq xP xT xV xR kE);have xQ:aF l.prog w K mg base "_law_family" ["_law_draws_here","_law_most"] 3 (Cp K):=yR.cal X G (λ_ _ _ _ _ _=>bX λ_ _=>rfl) (λF=>VF F T ow om xY);have xO:aF l.prog w K mg base "_law_drawn" ["_law_cell","_law_most"] 4 Ci:=yO.cal X G (λ_ _ _ _ _ _=>bX λ_ _=>rfl) (λF=>Vw F T lY xQ yc);exact(V1 F T tf lY xO xZ sX lZ).mono (by decide)
end My
open PySem PySem.W PyProof.Rows
set_option maxRecDepth 100000 in
set_option maxHeartbeats 0 in
theorem PySem.Challenge.cw_evenclimb_k72_order_texts_refused_holds : PySem.Challenge.rw_evenclimb_k72_order_texts_refused.Holds := by
 w_on;o_law;k_head;(case hw=>w_witness2)
 k_fill
 refine My.walk (l:=PySem.Challenge.rw_evenclimb_k72_order_texts_refused) rfl rfl (λw h Y=>PySem.W.kIn_of Y) ?F
 case F =>
  intro w mg fa h KX G hmg
  refine' My.all_mk KX G hmg ?tx ?cO ?nC ?nP ?nR ?nJ ?nM ?Al ?Au ?er ?BI ?qX ?lq ?lr ?lu ?lz ?rF ?yI ?yH ?zm ?yC ?zu ?yB ?zp ?zv ?yE ?yD ?zo ?yF ?yG ?zt ?yL ?yZ ?yP ?yX ?zf ?y6 ?yV ?y7 ?y8 ?yT ?y_ ?yK ?yM ?uf ?zl ?uc ?ub ?zh ?zk ?zj ?zi ?yN ?za ?ud ?zq ?zg ?yQ ?yW ?yS ?mj ?yU ?y9 ?yR ?yO ?yJ
  (case tx=>(refine' My.oa.mk' ?l1 ?l2 ?l3 ?l4 ?l5 ?l6 ?l7 ?l8 ?l9 ?l10 ?Ab ?Ac ?Ad ?Ae ?Af ?Ag ?m);(case l1=>k_is);(case l2=>k_is);(case l3=>k_is);(case l4=>k_is);(case l5=>k_is);(case l6=>k_is);(case l7=>k_is);(case l8=>k_is);(case l9=>k_is);(case l10=>k_is);(case Ab=>k_is);(case Ac=>k_is);(case Ad=>k_is);(case Ae=>k_is);(case Af=>k_is);(case Ag=>k_is);(case m=>k_is);skip)
  (case cO=>(refine' My.ClsAt.mk' ?ns ?pg ?hd ?po ?sa ?mk ?kc ?a ?i ?l ?c ?k);(case ns=>k_is);(case pg=>k_is);(case hd=>k_is);(case po=>k_is);(case sa=>k_is);(case mk=>k_is);(case kc=>k_is);(case a=>k_is);(case i=>k_is);(case l=>k_is);(case c=>k_is);(case k=>k_is))
  (case nC|nP|nR|nJ|nM|Al|Au=>k_is)
  (case er=>(refine' L2.rM.mk ?e0 ?e1 ?e2 ?e3 ?e4 ?e5 ?e6 ?e7 ?e8 ?e9 ?e10 ?Qw ?Qx ?Qy ?qm ?Qz ?QB);(case e0=>k_is);(case e1=>k_is);(case e2=>k_is);(case e3=>k_is);(case e4=>k_is);(case e5=>k_is);(case e6=>k_is);(case e7=>k_is);(case e8=>k_is);(case e9=>k_is);(case e10=>k_is);(case Qw=>k_is);(case Qx=>k_is);(case Qy=>k_is);(case qm=>k_is);(case Qz=>k_is);(case QB=>k_is))
  (case BI=>(refine' L2.nk.mk ?a ?b ?c);(case a=>k_is);(case b=>k_is);(case c=>k_is))
  (case qX|lq|lr|lu|lz=>(refine' L2.df.mk (L2.gF.mk ?x1 ?x2 ?x3 ?x4 ?x5 ?x6 ?x7) ?x8 ?x9 ?x10 ?k0 ?k1 ?k2 ?k3 ?k4 ?k5 ?k6 ?k7 ?k8 ?k9 ?k10 ?k11 ?k12 ?k13 ?k14);(case x1=>k_is);(case x2=>k_is);(case x3=>k_is);(case x4=>k_is);(case x5=>k_is);(case x6=>k_is);(case x7=>k_is);(case x8=>kts_exm);(case x9=>kit_is);(case x10=>kit_is);(case k0=>kit_is);(case k1=>kit_is);(case k2=>kit_is);(case k3=>kit_is);(case k4=>kit_is);(case k5=>kit_is);(case k6=>kit_is);(case k7=>kit_is);(case k8=>kit_is);(case k9=>kit_is);(case k10=>kit_is);(case k11=>kit_is);(case k12=>kit_is);(case k13=>kit_is);(case k14=>kit_is))
  (case rF=>k_exc)
  (case yI|yH|zm|yC|zu|yB|zp|zv|yE|yD|zo|yF|yG|zt|yL|yZ|yP|yX|zf|y6|yV|y7|y8|yT|y_|yK|yM=>(refine' My.aD.mk' ?a ?l ?c ?k);(case a=>k_is);(case l=>k_is);(case c=>k_is);(case k=>k_is))
  (case uf=>(refine' My.gT.mk' ?l ?ns ?sk ?i ?x ?fn ?lf ?c ?k ?sa ?no ?ob ?hd ?ng);(case l=>k_is);(case ns=>k_is);(case sk=>(first|rfl|decide +kernel));(case i=>k_is);(case x=>k_exc);(case fn=>k_is);(case lf=>k_is);(case c=>k_is);(case k=>k_is);(case sa=>k_is);(case no=>k_is);(case ob=>k_is);(case hd=>k_is);(case ng=>k_is))
  (case zl=>(refine' My.aD.mk' ?a ?l ?c ?k);(case a=>k_is);(case l=>k_is);(case c=>k_is);(case k=>k_is))
  (case uc|ub=>(refine' My.gT.mk' ?l ?ns ?sk ?i ?x ?fn ?lf ?c ?k ?sa ?no ?ob ?hd ?ng);(case l=>k_is);(case ns=>k_is);(case sk=>(first|rfl|decide +kernel));(case i=>k_is);(case x=>k_exc);(case fn=>k_is);(case lf=>k_is);(case c=>k_is);(case k=>k_is);(case sa=>k_is);(case no=>k_is);(case ob=>k_is);(case hd=>k_is);(case ng=>k_is))
  (case zh|zk|zj|zi|yN|za=>(refine' My.aD.mk' ?a ?l ?c ?k);(case a=>k_is);(case l=>k_is);(case c=>k_is);(case k=>k_is))
  (case ud=>(refine' My.gT.mk' ?l ?ns ?sk ?i ?x ?fn ?lf ?c ?k ?sa ?no ?ob ?hd ?ng);(case l=>k_is);(case ns=>k_is);(case sk=>(first|rfl|decide +kernel));(case i=>k_is);(case x=>k_exc);(case fn=>k_is);(case lf=>k_is);(case c=>k_is);(case k=>k_is);(case sa=>k_is);(case no=>k_is);(case ob=>k_is);(case hd=>k_is);(case ng=>k_is))
  (case zq|zg|yQ|yW|yS|mj|yU|y9|yR|yO|yJ=>(refine' My.aD.mk' ?a ?l ?c ?k);(case a=>k_is);(case l=>k_is);(case c=>k_is);(case k=>k_is))
