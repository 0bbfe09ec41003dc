import PyProof.Rows.All
import KE.KDictList
import KE.KNest
import KE.KSortAsk
import Lean
import OpenK.AllK
import PyProof.Dict
import PyProof.EqAt
import PyProof.EqKinds
import PyProof.NeKinds
import PyProof.Rows.SetFrom
import PyProof.TupleCall
import Wide.All
import Wide.FinOn
import PySem.Challenge.RW_evenclimb_k64_whole_made_orders
set_option Elab.async false
set_option linter.all false
set_option maxRecDepth 100000
set_option maxHeartbeats 8000000
set_option bootstrap.genMatcherCode false
noncomputable section
noncomputable def ae:=@PySem.wpAny_bind
noncomputable def ak:=@PySem.wpAny_pure
noncomputable def ao:=@List.length_map
noncomputable def aq:=@List.getElem?_eq_getElem
noncomputable def av:=@PyProof.Rows.wpS_bind
noncomputable def aH:=@Nat.le_refl
noncomputable def aI:=@PySem.Heap.get?_push_of_some
noncomputable def aK:=@PyProof.Rows.wpS_pure
noncomputable def aL:=@List.getD_eq_getElem?_getD
noncomputable def aP:=@PySem.Heap.lt_size
noncomputable def aY:=@List.mem_cons
noncomputable def a_:=@Nat.ne_of_lt
noncomputable def bf:=@PySem.Heap.get?_push_size
noncomputable def bp:=@List.getElem?_eq_some_iff
noncomputable def bu:=@List.mem_cons_of_mem
noncomputable def bw:=@Bool.and_eq_true
noncomputable def bx:=@List.mem_cons_self
noncomputable def bA:=@List.map_cons
noncomputable def bC:=@List.getElem?_map
noncomputable def bD:=@List.mem_range
noncomputable def bG:=@List.size_toArray
noncomputable def bM:=@Nat.zero_le
noncomputable def bT:=@PySem.PassesOwn.never
noncomputable def bZ:=@List.map_map
noncomputable def b9:=@List.mem_map
noncomputable def b_:=@Ne.symm
noncomputable def ck:=@Int.toNat_natCast
noncomputable def cn:=@List.all_eq_true
noncomputable def cp:=@Nat.le_trans
noncomputable def cu:=@List.mem_of_getElem?
noncomputable def cw:=@decide_eq_true_iff
noncomputable def cB:=@Nat.mul_comm
noncomputable def cC:=@decide_eq_true
noncomputable def cE:=@Bool.eq_iff_iff
noncomputable def cZ:=@PyProof.Rows.wpS_forRange
noncomputable def c5:=@PyProof.Rows.wpS_mono
noncomputable def de:=@List.length_append
noncomputable def df:=@Option.some.inj
noncomputable def dh:=@PySem.Paired.length
noncomputable def dm:=@List.mem_filter
noncomputable def dr:=@decide_eq_false
noncomputable def dD:=@Nat.lt_of_lt_of_le
noncomputable def dN:=@Nat.dvd_trans
noncomputable def dQ:=@if_false
noncomputable def dW:=@List.length_cons
noncomputable def dX:=@Nat.mul_assoc
noncomputable def dY:=@PySem.W.mg_none_of
noncomputable def d4:=@List.length_range
noncomputable def d5:=@List.map_append
noncomputable def eI:=@List.mem_append_right
noncomputable def eJ:=@List.not_mem_nil
noncomputable def eK:=@PySem.Heap.size_push
noncomputable def eL:=@PySem.boot_len
noncomputable def eT:=@or_false
noncomputable def eY:=@Array.length_toList
noncomputable def e9:=@Bool.false_eq_true
noncomputable def fc:=@List.map_congr_left
noncomputable def fe:=@List.nodup_cons
noncomputable def fh:=@List.pairwise_map
noncomputable def fk:=@PySem.wpAny_holding
noncomputable def fL:=@Nat.le_of_lt
noncomputable def fM:=@PySem.codeAny_mono
noncomputable def fN:=@PySem.wpAny_call_entry
noncomputable def fO:=@PySem.wpAny_mono
noncomputable def fX:=@of_decide_eq_true
noncomputable def gg:=@Bool.or_eq_true
noncomputable def gw:=@List.ext_getElem
noncomputable def gB:=@List.getElem_mem
noncomputable def gC:=@List.lookup_cons
noncomputable def gE:=@Nat.lt_irrefl
noncomputable def gF:=@Nat.ne_of_gt
noncomputable def gH:=@beq_iff_eq
noncomputable def gR:=@List.any_eq_true
noncomputable def gT:=@List.mem_singleton
noncomputable def gU:=@Nat.pos_of_ne_zero
noncomputable def gX:=@PyProof.Rows.wpS_get
noncomputable def gY:=@PySem.wpAny_setField_rec
noncomputable def gZ:=@PySem.wpAny_truthy_bool
noncomputable def iw:=@List.length_filter_le
noncomputable def iz:=@List.mem_append
noncomputable def iA:=@List.sum_cons
noncomputable def iC:=@Nat.dvd_refl
noncomputable def iD:=@Nat.pow_succ
noncomputable def iE:=@PySem.W.kia_one
noncomputable def iF:=@PySem.mem_of_lookup
noncomputable def iG:=@PySem.wpAny_field
noncomputable def iV:=@Array.getElem?_eq_getElem
noncomputable def iW:=@Int.natCast_mul
noncomputable def iX:=@List.getElem_of_mem
noncomputable def iY:=@List.length_take
noncomputable def iZ:=@List.take_add_one
noncomputable def i_:=@Nat.le_of_not_lt
noncomputable def ja:=@Nat.mul_one
noncomputable def jb:=@PyProof.Rows.wpS_modify
noncomputable def jd:=@PySem.codeAny_builtin
noncomputable def je:=@PySem.wpAny_Call_Name_kw
noncomputable def jf:=@PySem.wpAny_attempt
noncomputable def jg:=@PySem.wpAny_callSpecial?_slot
noncomputable def jh:=@PySem.wpAny_newList
noncomputable def ji:=@PySem.wpAny_newObj_type
noncomputable def jk:=@PySem.wpAny_rule
noncomputable def jm:=@PySem.wpAny_seqItems
noncomputable def jJ:=@if_true
noncomputable def j0:=@Int.le_refl
noncomputable def j5:=@Int.zero_add
noncomputable def j8:=@List.append_nil
noncomputable def j_:=@PySem.W.mg_of
noncomputable def kf:=@beq_eq_false_iff_ne
noncomputable def kR:=@List.getElem?_append_right
noncomputable def kT:=@List.take_length
noncomputable def kU:=@Nat.gcd_dvd_left
noncomputable def kW:=@Nat.mul_le_mul_left
noncomputable def kZ:=@PySem.F.called_set
noncomputable def lY:=@Bool.false_and
noncomputable def lZ:=@Bool.true_and
noncomputable def mn:=@Int.emod_nonneg
noncomputable def mz:=@List.any_cons
noncomputable def mB:=@List.cons.injEq
noncomputable def mC:=@List.filterMap_cons
noncomputable def mD:=@List.getElem?_append_left
noncomputable def mE:=@List.zip_cons_cons
noncomputable def mF:=@Nat.eq_of_beq_eq_true
noncomputable def mG:=@Option.map_eq_some_iff
noncomputable def mJ:=@PyProof.Rows.listItems_at
noncomputable def mK:=@PyProof.Rows.listUpdate_at
noncomputable def mL:=@PySem.F.plainAttrs_list
noncomputable def mM:=@PySem.Heap.get?_update_ne
noncomputable def mN:=@PySem.wpAny_call
noncomputable def mO:=@PySem.wpAny_passesOwn
noncomputable def oF:=@Array.getElem?_toList
noncomputable def oG:=@Array.toList_push
noncomputable def oH:=@Bool.not_eq_true'
noncomputable def oQ:=@List.find?_cons
noncomputable def oR:=@List.getElem?_range
noncomputable def oS:=@List.range_succ
noncomputable def oU:=@Nat.le_of_dvd
noncomputable def oV:=@Nat.le_of_eq
noncomputable def oW:=@Nat.lt_of_le_of_lt
noncomputable def oX:=@Nat.lt_succ_self
noncomputable def oY:=@Nat.mul_dvd_mul_left
noncomputable def oZ:=@Nat.mul_le_mul
noncomputable def o8:=@PyProof.Rows.callWith_type1
noncomputable def o9:=@PyProof.Rows.get?_update_seq
noncomputable def o_:=@PySem.Heap.SameBut.update
noncomputable def pe:=@PySem.Heap.get?_update_self
noncomputable def ph:=@PySem.wpAny_fieldsOf
noncomputable def pk:=@PySem.wpAny_pyIter_list
noncomputable def pq:=@PySem.wpAny_setState_of
noncomputable def q0:=@Int.emod_lt_of_pos
noncomputable def q8:=@Int.le_trans
noncomputable def q9:=@Int.natCast_ediv
noncomputable def q_:=@Int.not_lt
noncomputable def rg:=@List.filter_map
noncomputable def rh:=@List.forIn_cons
noncomputable def rj:=@List.getElem_map
noncomputable def rn:=@List.length_nil
noncomputable def rq:=@List.mem_reverse
noncomputable def rA:=@List.nodup_append
noncomputable def rB:=@List.of_mem_zip
noncomputable def rC:=@List.pairwise_iff_getElem
noncomputable def rD:=@Nat.le_succ
noncomputable def rE:=@Nat.lt_succ_of_lt
noncomputable def rF:=@Nat.mul_div_cancel_left
noncomputable def rG:=@Nat.mul_lt_mul_of_pos_right
noncomputable def rH:=@Nat.one_mul
noncomputable def rJ:=@Nat.pos_of_dvd_of_pos
noncomputable def rM:=@PyProof.Rows.seqEpoch_at
noncomputable def rN:=@PySem.F.slot_dict_keyiterator_next
noncomputable def rO:=@PySem.F.slot_list_append
noncomputable def rP:=@PySem.SeqAt.EqAt.same
noncomputable def rQ:=@PySem.W.callWith_K
noncomputable def rR:=@PySem.wpAny_isInstance
noncomputable def rS:=@PySem.wpAny_newTuple
noncomputable def rT:=@PySem.wpAny_setEntries_of
noncomputable def r0:=@beq_self_eq_true
noncomputable def tL:=@getElem?_pos
noncomputable def wa:=@Array.getElem?_eq_none
noncomputable def wc:=@Array.getElem_mem
noncomputable def wj:=@Decidable.byContradiction
noncomputable def wq:=@Int.le_of_lt
noncomputable def wt:=@Int.natCast_emod
noncomputable def wu:=@Int.ofNat_lt
noncomputable def wz:=@List.count_cons_of_ne
noncomputable def wA:=@List.filter_append
noncomputable def wB:=@List.flatMap_cons
noncomputable def wC:=@List.foldl_append
noncomputable def wD:=@List.foldl_cons
noncomputable def wF:=@List.forIn_nil
noncomputable def wG:=@List.getElem?_eq_none
noncomputable def wH:=@List.getElem?_set_ne
noncomputable def wI:=@List.length_eq_zero_iff
noncomputable def wJ:=@List.length_singleton
noncomputable def wK:=@List.mem_flatMap
noncomputable def wL:=@List.pairwise_cons
noncomputable def wM:=@List.pairwise_lt_range
noncomputable def wO:=@Nat.dvd_of_mod_eq_zero
noncomputable def wQ:=@Nat.eq_of_mul_eq_mul_left
noncomputable def wR:=@Nat.gcd_comm
noncomputable def wU:=@Nat.gcd_dvd_right
noncomputable def wV:=@Nat.lcm_dvd
noncomputable def wW:=@Nat.lt_or_ge
noncomputable def wX:=@Nat.lt_trans
noncomputable def wY:=@Nat.mod_eq_zero_of_dvd
noncomputable def wZ:=@Nat.mul_div_cancel
noncomputable def w4:=@Nat.mul_le_mul_right
noncomputable def w5:=@Nat.mul_left_comm
noncomputable def w6:=@Nat.mul_pos
noncomputable def w8:=@Nat.pow_pos
noncomputable def w9:=@Nat.pow_zero
noncomputable def w_:=@Option.some.injEq
noncomputable def xc:=@PyProof.Rows.call_function_entry_kw
noncomputable def xg:=@PyProof.Rows.entry_list_sort
noncomputable def xh:=@PyProof.Rows.slot_list_sort
noncomputable def xi:=@PyProof.Rows.wpAny_call_entry_kw
noncomputable def xk:=@PySem.Code.quiet_builtin
noncomputable def xl:=@PySem.F.slot_bool_hash
noncomputable def xm:=@PySem.F.slot_list_extend
noncomputable def xn:=@PySem.F.slot_tuple_iterator_next
noncomputable def xo:=@PySem.F.slot_zip_next
noncomputable def xq:=@PySem.F.type_list_append
noncomputable def xr:=@PySem.Heap.get?_update_other
noncomputable def xt:=@PySem.Obj.data_mapFields
noncomputable def xu:=@PySem.SeqAt.EqAt.bool_bool
noncomputable def xv:=@PySem.SeqAt.EqAt.int_int
noncomputable def xx:=@PySem.SeqAt.EqAt.of_refs
noncomputable def xA:=@PySem.Value.isInt_shape
noncomputable def xB:=@PySem.W.km_tabs_of
noncomputable def xC:=@PySem.isSubtype_stop
noncomputable def xD:=@PySem.plainId_quiet
noncomputable def xE:=@PySem.wpAny_execs_nil
noncomputable def xF:=@PySem.wpAny_letGo
noncomputable def xG:=@PySem.wpAny_of_eq
noncomputable def xH:=@PySem.wpAny_onRaise
noncomputable def xI:=@PySem.wpAny_runValue
noncomputable def xJ:=@PySem.wpAny_setField
noncomputable def xK:=@PySem.wpAny_standAt
noncomputable def xM:=@PySem.wpAny_typeNameOfWhole_keyiter
noncomputable def yu:=@decide_eq_false_iff_not
noncomputable def Ea:=@Array.Perm.refl
noncomputable def Eb:=@Array.mem_toList_iff
noncomputable def Ec:=@Array.size_map
noncomputable def Ed:=@Array.toList_map
noncomputable def Eg:=@Bool.and_true
noncomputable def El:=@Int.le_antisymm
noncomputable def Em:=@Int.natCast_inj
noncomputable def Ep:=@List.Pairwise.filter
noncomputable def Er:=@List.all_cons
noncomputable def Es:=@List.any_map
noncomputable def Et:=@List.countP_map
noncomputable def Eu:=@List.count_cons_self
noncomputable def Ew:=@List.getElem?_set_self
noncomputable def Ex:=@List.getElem?_take_of_lt
noncomputable def Ey:=@List.getElem?_zip_eq_some
noncomputable def Ez:=@List.getElem_inj
noncomputable def EY:=@List.getElem_range
noncomputable def E_:=@List.length_drop
noncomputable def Fb:=@List.length_set
noncomputable def Fc:=@List.length_zip
noncomputable def Fd:=@List.nodup_nil
noncomputable def Fe:=@List.perm_append_singleton
noncomputable def Ff:=@List.perm_middle
noncomputable def Fg:=@List.take_of_length_le
noncomputable def Fh:=@List.zipIdx_cons
noncomputable def Fi:=@List.zipIdx_nil
noncomputable def Fm:=@Nat.add_sub_cancel
noncomputable def Fn:=@Nat.dvd_antisymm
noncomputable def Fo:=@Nat.dvd_of_mul_dvd_mul_left
noncomputable def Fp:=@Nat.gcd_mul_left
noncomputable def Fq:=@Nat.lt_of_not_le
noncomputable def Fs:=@Nat.min_self
noncomputable def Ft:=@Nat.sub_self
noncomputable def Fu:=@Nat.succ_pos
noncomputable def Fv:=@Option.getD_some
noncomputable def Fw:=@Option.map_some
noncomputable def Fy:=@PyProof.Rows.F.plain_set_update_loop
noncomputable def Fz:=@PyProof.Rows.entry_proto_collect'
noncomputable def FG:=@PySem.Around.under_plainId
noncomputable def FH:=@PySem.F.slot_dict_get
noncomputable def FJ:=@PySem.F.type_list_extend
noncomputable def FK:=@PySem.SeqAt.RcAt.tuples
noncomputable def FN:=@PySem.W.cellsFrom_some
noncomputable def FQ:=@PySem.W.plainGet_of
noncomputable def FT:=@PySem.tupleKind_room_in1
noncomputable def FV:=@PySem.wpAny_Assign_Subscript
noncomputable def FW:=@PySem.wpAny_askSetting
noncomputable def FX:=@PySem.wpAny_dictEntries
noncomputable def FZ:=@PySem.wpAny_dictEpoch
noncomputable def Ga:=@PySem.wpAny_ite_split
noncomputable def Gb:=@PySem.wpAny_pyIter_slot
noncomputable def Gd:=@PySem.wpAny_specialOf
noncomputable def Ge:=@PySem.wpAny_updateSeq_pair
noncomputable def Hg:=@decide_eq_decide
noncomputable def Qc:=@Array.mem_iff_getElem
noncomputable def Qg:=@Classical.choose_spec
noncomputable def Qo:=@List.eq_nil_of_length_eq_zero
noncomputable def Qp:=@List.findIdx?_eq_none_iff
noncomputable def Qq:=@List.getElem?_cons_zero
noncomputable def Qr:=@List.getElem?_replicate
noncomputable def Qs:=@List.length_eraseIdx_of_lt
noncomputable def Qt:=@List.length_replicate
noncomputable def Qu:=@List.mem_or_eq_of_mem_set
noncomputable def Qv:=@List.perm_ext_iff_of_nodup
noncomputable def Qw:=@List.take_append_drop
noncomputable def Qx:=@Nat.dvd_of_mul_dvd_mul_right
noncomputable def Qy:=@Nat.eq_of_mul_eq_mul_right
noncomputable def Qz:=@Nat.gcd_pos_of_pos_left
noncomputable def QC:=@PySem.F.args_dict_get_2
noncomputable def QD:=@PySem.F.args_dict_keyiterator_next_1
noncomputable def QF:=@PySem.F.args_tuple_iterator_next_1
noncomputable def QG:=@PySem.F.entry_dict_get
noncomputable def QH:=@PySem.F.entry_dict_keyiterator_next
noncomputable def QJ:=@PySem.F.entry_tuple_iterator_next
noncomputable def QK:=@PySem.F.slot_tuple_count

set_option genSizeOf false
namespace L2
open PySem PySem.Spec PyProof.Rows
abbrev Key:=Sum Int Str
noncomputable def nX:Int->Value->Bool
 |k,.bool b=>k==(if b then 1 else 0)
 |_,_=>false
noncomputable def ky:Key->Value->Bool
 |.inl k,v=>Value.isInt k v||nX k v
 |.inr x,v=>Value.isStrOf x v
noncomputable def V1(w:World):Key->Int
 |.inl k=>hashInt k
 |.inr x=>hashStr w x
theorem VB{k:Int}{v:Value}(h:nX k v=true):∃b:Bool,k=(if b then 1 else 0)/\v=Value.bool b:=by
 cases v with
 |bool b=>exact⟨b,by simpa[nX]using h,rfl⟩
 |_=>simp[nX]at h
theorem h9:∀{k:Key} {v:Value},ky k v=true->(∃i t,k=Sum.inl i/\v=Value.int i t)\/(∃x t,k=Sum.inr x/\v=Value.str x t)\/(∃b:Bool,k=Sum.inl (if b then 1 else 0)/\v=Value.bool b)
 |.inl i,v,h=>by
  rcases(gg _ _).mp (show(Value.isInt i v||nX i v)=true from h)with h|h
  ·obtain⟨t,e⟩:=xA (k:=i) (v:=v) h
   exact .inl ⟨i,t,rfl,e⟩
  ·obtain⟨b,e,e'⟩:=VB h
   exact .inr (.inr ⟨b,by rw[e],e'⟩)
 |.inr x,v,h=>by
  obtain⟨t,e⟩:=Value.isStrOf_shape (x:=x) (v:=v) h;exact .inr (.inl ⟨x,t,rfl,e⟩)
theorem V3(i:Int)(t:Tok):ky (.inl i) (.int i t)=true:=by simp[ky,Value.isInt]
theorem V4(x:Str)(t:Tok):ky (.inr x) (.str x t)=true:=by simp[ky,Value.isStrOf]
theorem V2(b:Bool):ky (.inl (if b then 1 else 0)) (.bool b)=true:=by cases b<;>simp[ky,nX]
theorem Us{prog:Program}{w:World}{A:Around}{E:Value->Shared->Prop}{s:Shared}{b:Bool}{Q:Int->Shared->Prop}(h:Q (hashInt (if b then 1 else 0)) {s with toks:=s.toks+1}):
  wpAny (model prog w) A (pyHash (.bool b)) Q E s:=by
 have hr:=rawHash_range (if b then 1 else 0);have hT:s.TypeIs (.bool b) "bool" :=rfl;unfold pyHash;have hv:[Value.bool b].any Value.onHeap=false:=rfl;refine ae ?_;rw[cRoomFor,if_neg (by rw[hv];exact Bool.false_ne_true)];refine ak ?_;refine ae (Gd hT xl.lookup ?_);show wpAny _ _ (if(some (Value.builtin "int.__hash__")==some Value.none)=true then _ else _) Q E s;rw[if_neg (by rw[beq_builtin_none];exact Bool.false_ne_true)];refine ae (Gd hT xl.lookup ?_);show wpAny _ _ (callSpecialIfBoundUnlessNone? (.bool b) "__hash__" _>>=_) Q E s;refine ae (wpAny_callSpecialIfBoundUnlessNone?_slot hT xl
  (fN xl hT entry_int_hash
   (show wpAny _ _ (do ret (<- mkInt (rawHash (if b then 1 else 0)))) _ _ s from wpAny_ret_mkInt ?_) (args_int_hash _)))
 show wpAny _ _ (if(decide (-(2:Int) ^ 63<=rawHash (if b then 1 else 0))&&decide (rawHash (if b then 1 else 0)<2 ^ 63))=true then _ else _) Q E _;rw[if_pos (by rw[cC hr.1,cC hr.2];rfl)];exact ak h
theorem t6(a b:Int):decide ((Sum.inl a:Key)=Sum.inl b)=(a==b):=by
 by_cases e:a=b
 ·subst e;simp
 ·have h:¬ (Sum.inl a:Key)=Sum.inl b:=λq=>e (Sum.inl.inj q)
  rw[dr h];exact(kf.mpr e).symm
theorem V8(a b:Str):decide ((Sum.inr a:Key)=Sum.inr b)=decide (a=b):=by
 by_cases e:a=b
 ·subst e;simp
 ·have h:¬ (Sum.inr a:Key)=Sum.inr b:=λq=>e (Sum.inr.inj q)
  rw[dr h,dr e]
theorem JW(a:Int)(b:Str):decide ((Sum.inl a:Key)=Sum.inr b)=false:=dr (λq=>nomatch q)
theorem JX(a:Str)(b:Int):decide ((Sum.inr a:Key)=Sum.inl b)=false:=dr (λq=>nomatch q)
noncomputable def du(prog:Program)(w:World):PySem.KeyKind prog w Key where
 is:=ky
 hash:=V1 w
 inj:=λv a b ha hb=>by
  rcases h9 ha with⟨i,t,rfl,rfl⟩|⟨x,t,rfl,rfl⟩|⟨x,rfl,rfl⟩
  ·rcases h9 hb with⟨j,u,rfl,e⟩|⟨y,u,rfl,e⟩|⟨y,rfl,e⟩
   ·injection e with e1 _;rw[e1]
   ·exact nomatch e
   ·exact nomatch e
  ·rcases h9 hb with⟨j,u,rfl,e⟩|⟨y,u,rfl,e⟩|⟨y,rfl,e⟩
   ·exact nomatch e
   ·injection e with e1 _;rw[e1]
   ·exact nomatch e
  ·rcases h9 hb with⟨j,u,rfl,e⟩|⟨y,u,rfl,e⟩|⟨y,rfl,e⟩
   ·exact nomatch e
   ·exact nomatch e
   ·injection e with e1;rw[e1]
 byValue:=λk v h=>by
  rcases h9 h with⟨i,t,rfl,rfl⟩|⟨x,t,rfl,rfl⟩|⟨x,rfl,rfl⟩<;>rfl
 pyHash:=λhv h=>by
  rcases h9 hv with⟨i,t,rfl,rfl⟩|⟨x,t,rfl,rfl⟩|⟨x,rfl,rfl⟩
  ·exact wpAny_pyHash_int h
  ·exact wpAny_pyHash_str h
  ·exact Us h
 eqBool:=λhu hv h=>by
  rcases h9 hu with⟨i,t,rfl,rfl⟩|⟨x,t,rfl,rfl⟩|⟨x,rfl,rfl⟩
  ·rcases h9 hv with⟨j,u,rfl,rfl⟩|⟨y,u,rfl,rfl⟩|⟨y,rfl,rfl⟩
   ·rw[t6]at h;exact wpAny_eqBool_int h
   ·rw[JW]at h;exact SeqAt.EqAt.int_str i t y u _ _ _ _ h
   ·rw[t6]at h;exact SeqAt.EqAt.int_bool i t y _ _ _ _ h
  ·rcases h9 hv with⟨j,u,rfl,rfl⟩|⟨y,u,rfl,rfl⟩|⟨y,rfl,rfl⟩
   ·rw[JX]at h;exact SeqAt.EqAt.str_int x t j u _ _ _ _ h
   ·rw[V8]at h;exact wpAny_eqBool_str h
   ·rw[JX]at h;exact SeqAt.EqAt.str_bool x t y _ _ _ _ h
  ·rcases h9 hv with⟨j,u,rfl,rfl⟩|⟨y,u,rfl,rfl⟩|⟨y,rfl,rfl⟩
   ·rw[t6]at h;exact SeqAt.EqAt.bool_int x j u _ _ _ _ h
   ·rw[JW]at h;exact SeqAt.EqAt.bool_str x y u _ _ _ _ h
   ·rw[t6]at h
    have e:((if x then(1:Int)else 0)==(if y then(1:Int)else 0))=(x==y):=by cases x<;>cases y<;>rfl
    rw[e]at h;exact xu x y _ _ _ _ h
 «strs»:=λk x t v h=>by
  rcases h9 h with⟨i,u,rfl,e⟩|⟨y,u,rfl,e⟩|⟨y,rfl,e⟩
  ·exact nomatch e
  ·injection e with e1 _
   subst e1;cases v<;>rfl
  ·exact nomatch e
theorem WW(prog:Program)(w:World)(i:Int)(t:Tok):(du prog w).is (.inl i) (.int i t)=true:=V3 i t
theorem WX(prog:Program)(w:World)(x:Str)(t:Tok):(du prog w).is (.inr x) (.str x t)=true:=V4 x t
inductive V where
 |non|bl (b:Bool)|int (i:Int)|str (x:Str)|gI (b:Array UInt8)|flt (b:UInt64)|ref (a:Addr)|ty (n:String)
 deriving DecidableEq
noncomputable def RelV:V->Value->Prop
 |.non,u=>u=Value.none
 |.bl b,u=>u=Value.bool b
 |.int i,u=>∃t,u=Value.int i t
 |.str x,u=>∃t,u=Value.str x t
 |.gI b,u=>∃t,u=Value.bytes b t
 |.flt b,u=>∃t,u=Value.float b t
 |.ref a,u=>u=Value.ref a
 |.ty n,u=>u=Value.type n
abbrev Vals:List V->List Value->Prop:=Paired RelV
theorem Vals.length{xs:List V}{us:List Value}(r:Vals xs us):xs.length=us.length:=dh r
theorem Vals.get:∀{xs:List V} {us:List Value} {i:Nat} {x:V},Vals xs us->xs[i]?=some x->∃u,us[i]?=some u/\RelV x u
 |_,_,_,_,.nil,e=>by simp at e
 |_,_,0,_,.cons r _,e=>by simp at e;subst e;exact⟨_,rfl,r⟩
 |_,_,i+1,x,.cons _ t,e=>by
  obtain⟨u,h1,h2⟩:=Vals.get (i:=i) (x:=x) t (by simpa using e);exact⟨u,by simpa using h1,h2⟩
theorem Vals.set{x:V}{u:Value}(r:RelV x u):∀{xs:List V} {us:List Value} (i:Nat),Vals xs us->Vals (xs.set i x) (us.set i u)
 |_,_,_,.nil=>.nil
 |_,_,0,.cons _ t=>.cons r t
 |_,_,i+1,.cons q t=>.cons q (Vals.set r i t)
theorem Vals.append:∀{xs ys:List V} {us ws:List Value},Vals xs us->Vals ys ws->Vals (xs++ys) (us++ws)
 |_,_,_,_,.nil,s=>s
 |_,_,_,_,.cons r t,s=>.cons r (Vals.append t s)
theorem Vals.take:∀{xs:List V} {us:List Value} (n:Nat),Vals xs us->Vals (xs.take n) (us.take n)
 |_,_,0,_=>.nil
 |_,_,_+1,.nil=>.nil
 |_,_,n+1,.cons r t=>.cons r (Vals.take n t)
theorem Vals.drop:∀{xs:List V} {us:List Value} (n:Nat),Vals xs us->Vals (xs.drop n) (us.drop n)
 |_,_,0,r=>r
 |_,_,_+1,.nil=>.nil
 |_,_,n+1,.cons _ t=>Vals.drop n t
noncomputable def d6:Option V->Option Value->Prop
 |some v,some u=>RelV v u
 |none,none=>True
 |_,_=>False
noncomputable def KV{κ:Type}:List (κ × V)->List (κ × Value)->Prop:=Paired λ(p:κ × V) (q:κ × Value)=>p.1=q.1/\RelV p.2 q.2
noncomputable def kV:Key->V
 |.inl i=>.int i
 |.inr x=>.str x
inductive HO where
 |lst (xs:List V)
 |tup (xs:List V)
 |dK (kvs:List (Key × V))|dT (kvs:List (List Key × V))
 |set (S:Int->Bool) (n:Nat)
 |ins (C dx:Addr) (fs:List (Str × V))
 |own (x:Addr)
 |xd (fs:List (Str × V))
 |met (f x:Addr)
 |rng (lo hi:Int)
 |cT (o:Obj) (u:HO)
 |lU (ps:Array Value)
 |lam (pos:Pos) (qual:Str)
 |ext (φ:Heap->Prop)
noncomputable def JQ(k:Key)(v:V):Prop:=v=kV k\/∃b:Bool,v = .bl b/\k = .inl (if b then 1 else 0)
abbrev t5:List Key->List V->Prop:=Paired JQ
noncomputable def jo(H:Addr->Option HO)(b:Addr)(ks:List Key):Prop:=∃ws,t5 ks ws/\H b=some (.tup ws)
abbrev Hp:=Addr->Option HO
noncomputable def upd(H:Hp)(a:Addr)(o:HO):Hp:=λb=>if b=a then some o else H b
theorem aA{H:Hp}{a:Addr}{o:HO}:upd H a o a=some o:=by unfold upd;rw[if_pos rfl]
theorem aG{H:Hp}{a b:Addr}{o:HO}(h:b≠a):upd H a o b=H b:=by unfold upd;rw[if_neg h]
theorem DK{H:Hp}{a:Addr}{o u:HO}:upd (upd H a o) a u=upd H a u:=by
 funext b;unfold upd;split<;>rfl
theorem jL{H:Hp}{a b:Addr}{o u:HO}(h:H a=some o)(h':H b=some u)(d:o≠u):a≠b:=by
 intro e;subst e;rw[h]at h';exact d (df h')
theorem cx{H:Hp}{a b:Addr}{o:HO}(h:H a=some o)(h':H b=none):a≠b:=by
 intro e;subst e;rw[h]at h';cases h'
section
variable (P:Program) (w:World)
noncomputable def a8(H:Hp)(h:Heap)(a:Addr):HO->Prop
 |.lst xs=>xs.length<=sizeLine/\∃(its:List Value) (n:Nat),Vals xs its/\h.get? a=some {cls:=.type "list", data:=.seq its.toArray n}
 |.tup xs=>xs.length<=sizeLine/\∃its:List Value,Vals xs its/\IsTup h a its.toArray/\∃o,h.get? a=some o/\o.dict=none
 |.dK kvs=>kvs.length<=sizeLine/\(a==sysModules)=false/\∃vs,KV kvs vs/\h.DictOf (du P w) a vs
 |.dT kvs=>kvs.length<=sizeLine/\(a==sysModules)=false/\∃xs:List (List Key × Addr × Value),
   Paired (λ(p:List Key × V) (q:List Key × Addr × Value)=>p.1=q.1/\jo H q.2.1 p.1/\RelV p.2 q.2.2) kvs xs /\
   ∃o es ep,h.get? a=some o/\o.ExactDict/\o.data = .dict es ep/\es.toList=xs.map (entryOfKey (tupleKind (du P w)))/\(xs.map (·.1)).Nodup
 |.set S n=>h.SetOf (intKind P w) a S n
 |.ins C dx fs=>H dx=some (.own a)/\fs.length<=1000/\dx≠a/\h.get? a=some (W.instObj C dx) /\
   ∃mA,h.Ns1 dx mA/\(∀f,d6 (fs.lookup f) (mA f))/\PySem.Within mA (fs.map (·.1))
 |.own _=>∃o,h.get? a=some o
 |.xd fs=>∃mA,h.Ns1 a mA/\∀f,d6 (fs.lookup f) (mA f)
 |.rng lo hi=>∃t u v,h.get? a=some {cls:=.type "range", data:=.fields #[.int lo t,.int hi u,.int 1 v]}
 |.cT o u=>h.get? a=some o/\a8 H h a u
 |.lU ps=>h.get? a=some {cls:=.none,data:=.fields ps}
 |.lam pos qual=>∃ps,h.get? a=some {cls:=.none,data:=.fields ps}/\TriplesOk ps.toList/\∀cv,codeAmong pos ps.toList=some cv->∃c o u vs t,cv = .ref c/\H c=some (.cT o u)/\o.data = .fields vs/\vs[1]?=some (.str qual t)
 |.met f x=>h.get? a=some (W.methodObj (.ref f) (.ref x))
 |.ext φ=>φ h/\(∃o,h.get? a=some o)/\∀h1 h2:Heap,φ h1->(∀o,h1.get? a=some o->h2.get? a=some o)->φ h2
noncomputable def bJ(H:Hp)(h:Heap):Prop:=∀a o,H a=some o->a8 P w H h a o
end
section
variable {P:Program} {w:World} {H H':Hp} {h h':Heap} {a:Addr} {o:HO}
theorem a8.lt(x:a8 P w H h a o):a<h.objs.size:=by
 cases o with
 |lst xs=>obtain⟨_,_,_,_,e⟩:=x;exact aP e
 |tup xs=>obtain⟨_,_,_,p,_⟩:=x;exact p.lt
 |dK kvs=>obtain⟨_,_,_,_,o,_,_,e,_⟩:=x;exact aP e
 |dT kvs=>obtain⟨_,_,_,_,o,_,_,e,_⟩:=x;exact aP e
 |set S n=>obtain⟨o,_,_,_,e,_⟩:=x;exact aP e
 |ins C dx fs=>obtain⟨_,_,_,e,_⟩:=x;exact aP e
 |own y=>obtain⟨_,e⟩:=x;exact aP e
 |xd fs=>obtain⟨_,⟨_,_,_,e,_⟩,_⟩:=x;exact aP e
 |rng lo hi=>obtain⟨_,_,_,e⟩:=x;exact aP e
 |cT ob u=>obtain⟨e,_⟩:=x;exact aP e
 |lU ps=>exact aP (show h.get? a=some _ from x)
 |lam pos qual=>obtain⟨_,e,_⟩:=x;exact aP e
 |met f y=>exact aP (show h.get? a=some _ from x)
 |ext φ=>obtain⟨_,⟨_,e⟩,_⟩:=x;exact aP e
theorem Paired.di{α β:Type}{F G:α->β->Prop}:∀{l₁:List α} {l₂:List β},Paired F l₁ l₂->(∀a b,F a b->G a b)->Paired G l₁ l₂
 |_,_,.nil,_=>.nil
 |_,_,.cons r t,f=>.cons (f _ _ r) (Paired.di t f)
theorem a8.stay(x:a8 P w H h a o)(k:∀b u,(b=a\/H b=some (.own a))->h.get? b=some u->h'.get? b=some u)(ho:∀b,H b=some (.own a)->H' b=some (.own a))(ht:∀b xs,H b=some (.tup xs)->H' b=some (.tup xs))(hz:∀b ob u,H b=some (.cT ob u)->H' b=some (.cT ob u)):a8 P w H' h' a o:=by
 induction o with
 |lst xs=>obtain⟨z,its,n,r,e⟩:=x;exact⟨z,its,n,r,k _ _ (.inl rfl) e⟩
 |tup xs=>obtain⟨z,its,r,⟨ob,e,c⟩,od,e2,d⟩:=x;exact⟨z,its,r,⟨ob,k _ _ (.inl rfl) e,c⟩,od,k _ _ (.inl rfl) e2,d⟩
 |dK kvs=>obtain⟨z,y,vs,r,ob,es,ep,e,c⟩:=x;exact⟨z,y,vs,r,ob,es,ep,k _ _ (.inl rfl) e,c⟩
 |dT kvs =>
  obtain⟨z,y,xs,r,ob,es,ep,e,c⟩:=x;exact⟨z,y,xs,Paired.di r λp q z=>⟨z.1,(let⟨ws,k1,k2⟩:=z.2.1;⟨ws,k1,ht _ _ k2⟩),z.2.2⟩,ob,es,ep,k _ _ (.inl rfl) e,c⟩
 |set S n=>obtain⟨ob,es,ep,t,e,c⟩:=x;exact⟨ob,es,ep,t,k _ _ (.inl rfl) e,c⟩
 |ins C dx fs =>
  obtain⟨d,z,ne,e,mA,⟨od,es,ep,e2,c⟩,r⟩:=x;exact⟨ho _ d,z,ne,k _ _ (.inl rfl) e,mA,⟨od,es,ep,k _ _ (.inr d) e2,c⟩,r⟩
 |own y=>obtain⟨ob,e⟩:=x;exact⟨ob,k _ _ (.inl rfl) e⟩
 |xd fs=>obtain⟨mA,⟨od,es,ep,e,c⟩,r⟩:=x;exact⟨mA,⟨od,es,ep,k _ _ (.inl rfl) e,c⟩,r⟩
 |rng lo hi=>obtain⟨t,u,v,e⟩:=x;exact⟨t,u,v,k _ _ (.inl rfl) e⟩
 |cT ob u ih=>obtain⟨e,q⟩:=x;exact⟨k _ _ (.inl rfl) e,ih q⟩
 |lU ps =>
  have e:h.get? a=some {cls:=.none,data:=.fields ps}:=x;show h'.get? a=some {cls:=.none,data:=.fields ps};exact k a _ (.inl rfl) e
 |lam pos qual=>obtain⟨ps,e,t,q⟩:=x;exact⟨ps,k _ _ (.inl rfl) e,t,λcv z=>let⟨c,o,u,vs,t,q1,q2,q3⟩:=q cv z;⟨c,o,u,vs,t,q1,hz _ _ _ q2,q3⟩⟩
 |met f y =>
  have e:h.get? a=some (W.methodObj (.ref f) (.ref y)):=x;show h'.get? a=some (W.methodObj (.ref f) (.ref y));exact k a _ (.inl rfl) e
 |ext φ=>obtain⟨p,⟨o,e⟩,st⟩:=x;exact⟨st _ _ p λo q=>k _ _ (.inl rfl) q,⟨o,k _ _ (.inl rfl) e⟩,st⟩
theorem bJ.lt(x:bJ P w H h)(e:H a=some o):a<h.objs.size:=(x a o e).lt
theorem bJ.fresh(x:bJ P w H h)(e:h.objs.size<=a):H a=none:=by
 cases q:H a with
 |none=>rfl
 |some u=>exact absurd (dD (x.lt q) e) (gE _)
theorem bJ.kept(x:bJ P w H h)(k:∀b u,h.get? b=some u->h'.get? b=some u):bJ P w H h':=λa o e =>
 (x a o e).stay (λb u _ q=>k b u q) (λ_ q=>q) (λ_ _ q=>q) λ_ _ _ q=>q
theorem bJ.laid(x:bJ P w H h)(k:∀b u,h.get? b=some u->h'.get? b=some u)(hp:h.objs.size<=a)(new:a8 P w (upd H a o) h' a o):bJ P w (upd H a o) h':=λb u e=>by
 have hn:=x.fresh hp
 by_cases hb:b=a
 ·subst hb;rw[aA]at e;cases e;exact new
 ·rw[aG hb]at e
  exact(x b u e).stay (λc v _ q=>k c v q) (λc q=>by rw[aG (cx q hn)];exact q) (λc xs q=>by rw[aG (cx q hn)];exact q) λc ob u q=>by rw[aG (cx q hn)];exact q
end
noncomputable def Rd(H:Hp)(a:Addr)(u:HO):Prop:=H a=some u\/∃o,H a=some (.cT o u)
theorem Rd.ok{P:Program}{w:World}{H:Hp}{h:Heap}{a:Addr}{u:HO}(r:Rd H a u)(x:bJ P w H h):a8 P w H h a u:=by
 rcases r with r|⟨o,r⟩
 ·exact x a u r
 ·obtain⟨_,q⟩:=x a _ r
  exact q
noncomputable def oT:Option HO->Prop
 |some (.lst _)=>True
 |some (.dK _)=>True
 |some (.dT _)=>True
 |some (.set _ _)=>True
 |some (.ins _ _ _)=>True
 |some (.ext _)=>True
 |some (.lam _ _)=>True
 |_=>False
section
variable {P:Program} {w:World} {H:Hp} {h h':Heap} {x e:Addr} {o':HO}
theorem bJ.write(ok:bJ P w H h)(mu:oT (H x))(he:e=x\/H e=some (.own x))(k:∀b u,b≠e->h.get? b=some u->h'.get? b=some u)(heo:∃u,h'.get? e=some u)
  (new:a8 P w (upd H x o') h' x o'):bJ P w (upd H x o') h':=λb u q=>by
 have K5:∀c y,H c=some (.own y)->c≠x:=λc y r z=>by subst z;rw[r]at mu;exact mu
 have Xf:∀c xs,H c=some (.tup xs)->c≠x:=λc xs r z=>by subst z;rw[r]at mu;exact mu
 have Xa:∀c ob u,H c=some (.cT ob u)->c≠x:=λc ob u r z=>by subst z;rw[r]at mu;exact mu
 by_cases hb:b=x
 ·subst hb;rw[aA]at q;cases q;exact new
 ·rw[aG hb]at q
  by_cases hbe:b=e
  ·have q':H b=some (.own x):=by
    rcases he with z|z
    ·exact absurd (hbe.trans z) hb
    ·rw[hbe];exact z
   rw[q]at q';cases q';obtain⟨v,hv⟩:=heo;exact⟨v,by rw[hbe];exact hv⟩
  ·refine(ok b u q).stay (λc v hc r=>k c v ?_ r) (λc r=>by rw[aG (K5 c b r)];exact r) (λc xs r=>by rw[aG (Xf c xs r)];exact r) λc ob u r=>by rw[aG (Xa c ob u r)];exact r
   rcases hc with rfl|hc
   ·exact hbe
   ·rintro rfl
    rcases he with z|z
    ·exact K5 c b hc z
    ·rw[hc]at z;cases z;exact hb rfl
end
structure Un (fs ex:List Addr) (H H':Hp) (h h':Heap):Prop where
 keep:∀b o,h.get? b=some o->H b=none->b ∉ fs->b ∉ ex->h'.get? b=some o
 slot:∀b o,h.get? b=some o->H b=none->b∈fs->b ∉ ex->∃sl,h'.get? b=some {o with slots:=sl}
 free:∀b o,h.get? b=some o->H b=none->b ∉ ex->H' b=none
 there:∀b o,h.get? b=some o->b ∉ ex->∃o',h'.get? b=some o'
 tups:∀b xs,H b=some (.tup xs)->H' b=some (.tup xs)
 jG:∀b o u,H b=some (.cT o u)->H' b=some (.cT o u)
 kJ:∀b ps,H b=some (.lU ps)->∃more,H' b=some (.lU (ps++more))
section
variable {fs fs' ex ex':List Addr} {H H1 H2:Hp} {h h1 h2 h':Heap} {a x e:Addr} {o:HO}
theorem Un.any(u:Un fs ex H H1 h h1){b:Addr}{ob:Obj}(q:h.get? b=some ob)(n:H b=none)(hx:b ∉ ex):∃sl,h1.get? b=some {ob with slots:=sl}:=by
 by_cases hb:b∈fs
 ·exact u.slot b ob q n hb hx
 ·exact⟨ob.slots,u.keep b ob q n hb hx⟩
theorem Un.kept(k:∀b u,h.get? b=some u->h'.get? b=some u):Un fs ex H H h h':=
 ⟨λb ob q _ _ _=>k b ob q,λb ob q _ _ _=>⟨ob.slots,k b ob q⟩,λ_ _ _ n _=>n,λb ob q _=>⟨ob,k b ob q⟩,λ_ _ q=>q,λ_ _ _ q=>q,λ_ ps q=>⟨#[],by rw[q];simp⟩⟩
theorem Un.refl:Un fs ex H H h h:=Un.kept λ_ _ q=>q
theorem Un.laid(k:∀b u,h.get? b=some u->h'.get? b=some u)(hp:h.objs.size<=a)(hn:H a=none):Un fs ex H (upd H a o) h h' where
 keep:=λb u q _ _ _=>k b u q
 slot:=λb u q _ _ _=>⟨u.slots,k b u q⟩
 free:=λb u q n _=>by rw[aG (a_ (dD (aP q) hp))];exact n
 there:=λb u q _=>⟨u,k b u q⟩
 tups:=λb xs q=>by rw[aG (cx q hn)];exact q
 jG:=λb u xs q=>by rw[aG (cx q hn)];exact q
 kJ:=λb ps q=>⟨#[],by rw[aG (cx q hn),q];simp⟩
theorem Un.write(mu:oT (H x))(he:e=x\/H e=some (.own x))(k:∀b u,b≠e->h.get? b=some u->h'.get? b=some u)(heo:∃u,h'.get? e=some u):Un fs ex H (upd H x o) h h':=by
 have hx:∀b,H b=none->b≠x:=λb n z=>by subst z;rw[n]at mu;exact mu
 have hb:∀b,H b=none->b≠e:=λb n z=>by
  subst z
  rcases he with r|r
  ·exact hx b n r
  ·rw[n]at r;cases r
 have hm:∀b u,H b=some u->¬ oT (some u)->b≠x:=λb u q nm z=>by subst z;rw[q]at mu;exact nm mu
 refine⟨λb u q n _ _=>k b u (hb b n) q,λb u q n _ _=>⟨u.slots,k b u (hb b n) q⟩,λb u q n _=>by rw[aG (hx b n)];exact n,λb u q _=>?_,
  λb xs q=>by rw[aG (hm b _ q λz=>z)];exact q,λb u xs q=>by rw[aG (hm b _ q λz=>z)];exact q,λb ps q=>⟨#[],by rw[aG (hm b _ q λz=>z),q];simp⟩⟩
 by_cases hbe:b=e
 ·subst hbe;exact heo
 ·exact⟨u,k b u hbe q⟩
end
noncomputable def vQ(h:Heap)(H:Hp):List Addr:=(List.range h.objs.size).filter λa=>(H a).isSome
noncomputable def fF(h:Heap)(H:Hp):Heap:=W.hideAll h (vQ h H)
theorem I_(h:Heap)(H:Hp):(fF h H).objs.size=h.objs.size:=W.hideAll_size _ _
theorem zQ{h:Heap}{H:Hp}{b:Addr}{o:Obj}(e:h.get? b=some o)(n:H b=none):(fF h H).get? b=some o:=
 W.hideAll_get _ e λhm=>by
  have q:(H b).isSome=true:=(dm.mp hm).2;rw[n]at q;simp at q
theorem Be{h:Heap}{H:Hp}{b:Addr}{o:Obj}(e:(fF h H).get? b=some o):h.get? b=some o/\H b=none:=by
 have e':h.get? b=some o:=W.of_hideAll (vQ h H) e;refine⟨e',?_⟩;cases q:H b with
 |none=>rfl
 |some x =>
  have hm:b∈vQ h H:=dm.mpr ⟨bD.mpr (aP e'),by simp[q]⟩;have z:(fF h H).get? b=none:=W.hideAll_none (vQ h H) hm;rw[z]at e;cases e
noncomputable def QW(g h:Heap)(L:Addr):List (Addr × Obj):=(List.range h.objs.size).filterMap λa=>if a=L\/(g.get? a).isSome=true then none else(h.get? a).map λo=>(a,o)
noncomputable def rest(g h:Heap)(L d:Addr):List (Addr × Obj):=(QW g h L).filter λp=>decide (p.1≠d)
structure Mod (K:W.Frag) (mg:Str->Option Value) (base:Heap):Prop where
 jK:K.In base
 glob:base.Ns mainGlobals mg
 blt:∃mb,base.Ns builtinsNs mb/\∀x:Str,x ≠ "__name__" -> mb x=bootBuiltins x
 nolimit:base.NoLimit
structure Cx where
 prog:Program
 w:World
 K:W.Frag
 mg:Str->Option Value
 base:Heap
 A:Around
 N:List Str
 s₀:Shared
 H₀:Hp
 env:Env
 outer:List Env
 stack:List Env
 ex:List Addr
 fn:Str->Bool
 calm:Bool
 pn:List (Addr × Obj)
 xe:Value->Shared->Prop
noncomputable def frs(l:List Env):List Addr:=l.filterMap (·.frame)
abbrev Cx.fs (X:Cx):List Addr:=frs X.outer
noncomputable def rX(sc:Scope)(x:Str):Prop:=sc.names.lookup x=some .local\/sc.names.lookup x=some .cell\/sc.names.lookup x=some .free
noncomputable def Loc(sc:Scope)(x:Str):Prop:=sc.names.lookup x=some .local\/sc.names.lookup x=some .cell
noncomputable def Look(env:Env)(h:Heap)(m:Str->Option Value)(x:Str)(u:Value):Prop:=
 (env.kindOf x=some .local/\m x=some u)\/((env.kindOf x=some .cell\/env.kindOf x=some .free)/\∃c,env.cells.lookup x=some c/\h.IsCell c (some u))
structure Cx.Ok (X:Cx):Prop where
 mod:Mod X.K X.mg X.base
 kind:X.env.scope.kind = .function
 glob:X.env.globals=mainGlobals
 blt:X.env.builtins=builtinsNs
 above:X.s₀.heap.objs.size<=X.env.locals
 inj:∀x y c,X.env.cells.lookup x=some c->X.env.cells.lookup y=some c->x=y
 has:∀x,(X.env.kindOf x=some .cell\/X.env.kindOf x=some .free)->∃c,X.env.cells.lookup x=some c
 cab:∀x c,X.fn x=true->X.env.cells.lookup x=some c->X.s₀.heap.objs.size<=c
 hd:X.calm=true->X.A.handled=none
 frames:X.A.frames=some X.stack
 stk:X.stack=X.outer\/(X.stack=X.env::X.outer/\X.env.frame=some X.env.locals)
 sI:∀b∈X.ex,b≠X.env.locals/\∀x c,X.env.cells.lookup x=some c->c≠b
 bs:∀b o,X.base.get? b=some o->X.s₀.heap.get? b=some o/\X.H₀ b=none
 fS:X.base.objs.size<=X.s₀.heap.objs.size
 lH:∀b o,X.base.get? b=some o->b ∉ X.ex
 nq:∀b∈X.ex,b ∉ X.fs
 d9:X.s₀.heap.FunFrames X.base X.outer
 iK:∀b∈X.fs,X.H₀ b=none
structure Inv (X:Cx) (pins:List (Addr × Obj)) (σ:List (Option V)) (H:Hp) (s:Shared):Prop where
 ok:X.Ok
 os:s.os=X.s₀.os
 bare:AllBare s.gens
 base:Un X.fs X.ex X.H₀ H X.s₀.heap s.heap
 loc:∃m,s.heap.Ns X.env.locals m/\∀(i:Nat) (x:Str) (v:V),X.N[i]?=some x->σ[i]?=some (some v)->rX X.env.scope x->∃u,RelV v u/\Look X.env s.heap m x u
 cell:∀x c,X.env.cells.lookup x=some c->∃v,s.heap.IsCell c v
 free:H X.env.locals=none
 eO:∀x c,X.env.cells.lookup x=some c->H c=none
 pin:∀p∈X.pn++pins,s.heap.get? p.1=some p.2/\H p.1=none/\p.1≠X.env.locals/\p.1 ∉ X.fs/\∀v,p.2.data≠.cell v
 hok:bJ X.prog X.w H s.heap
 len:σ.length=X.N.length
section
variable {X:Cx} {pins:List (Addr × Obj)} {σ:List (Option V)} {H H':Hp} {s:Shared} {h':Heap}
theorem Cx.Ok.Xc(ok:X.Ok){b:Addr}{o:Obj}(e:X.base.get? b=some o):b ∉ X.fs:=λhb=>by
 have:=(ok.d9.mem hb).1;rw[e]at this;cases this
theorem Inv.bs(I:Inv X pins σ H s):∀b o,X.base.get? b=some o->s.heap.get? b=some o/\H b=none:=λb o e =>
 ⟨I.base.keep b o (I.ok.bs b o e).1 (I.ok.bs b o e).2 (I.ok.Xc e) (I.ok.lH b o e),I.base.free b o (I.ok.bs b o e).1 (I.ok.bs b o e).2 (I.ok.lH b o e)⟩
theorem Inv.bk(I:Inv X pins σ H s):∀b o,X.base.get? b=some o->s.heap.get? b=some o:=λb o e=>(I.bs b o e).1
theorem Inv.mod(I:Inv X pins σ H s):Mod X.K X.mg X.base:=I.ok.mod
theorem Inv.bU(I:Inv X pins σ H s):X.K.In s.heap:=I.ok.mod.jK.keeps I.bk
theorem Inv.lt(I:Inv X pins σ H s):X.env.locals<s.heap.objs.size:=let⟨_,hn,_⟩:=I.loc;hn.lt
theorem Inv.sz(I:Inv X pins σ H s):X.s₀.heap.objs.size<=s.heap.objs.size:=cp I.ok.above (fL I.lt)
theorem Inv.Xd(I:Inv X pins σ H s){a:Addr}(h:s.heap.objs.size<=a):a ∉ X.fs:=λhb=>by
 obtain⟨_,o,ho,_⟩:=I.ok.d9.mem hb;exact absurd (dD (aP ho) (cp I.sz h)) (gE _)
theorem Inv.k7(I:Inv X pins σ H s):∀x c,X.env.cells.lookup x=some c->c≠X.env.locals:=λx c e z=>by
 obtain⟨v,o,ho,hd⟩:=I.cell x c e;obtain⟨m,⟨o',es,ep,ho',hd',_⟩,_⟩:=I.loc;rw[z,ho']at ho;cases ho;rw[hd']at hd;cases hd
theorem Inv.d9(I:Inv X pins σ H s):s.heap.FunFrames X.base X.outer:=by
 have all:∀(l:List Env),(∀b∈frs l,b∈X.fs)->X.s₀.heap.FunFrames X.base l->s.heap.FunFrames X.base l:=by
  intro l
  induction l with
  |nil=>intro _ _;trivial
  |cons env r ih =>
   intro hs hl;obtain⟨hk,⟨L,o,hf,hn,ho,hd⟩,hr⟩:=hl;have hL:L∈X.fs:=hs L (by unfold frs;rw[mC,hf];exact bx);obtain⟨sl,e⟩:=I.base.slot L o ho (I.ok.iK L hL) hL λz=>I.ok.nq L z hL;exact⟨hk,⟨L,_,hf,hn,e,hd⟩,ih (λb hb=>hs b (by unfold frs;rw[mC,hf];exact bu _ hb)) hr⟩
 exact all X.outer (λ_ hb=>hb) I.ok.d9
theorem Inv.stack(I:Inv X pins σ H s):s.heap.FunFrames X.base X.stack:=by
 rcases I.ok.stk with e|⟨e,hf⟩
 ·rw[e];exact I.d9
 ·rw[e]
  obtain⟨m,hn,_⟩:=I.loc;refine .cons (by rw[I.ok.kind];decide) hf hn ?_ I.d9;exact Heap.get?_none_of_le (cp I.ok.fS I.ok.above)
theorem Inv.Dl(I:Inv X pins σ H s):∀b∈frs X.stack,b∈X.env.locals::X.fs:=λb hb=>by
 rcases I.ok.stk with e|⟨e,hf⟩
 ·rw[e]at hb;exact bu _ hb
 ·rw[e]at hb
  unfold frs at hb;rw[mC,hf]at hb;exact hb
theorem Inv.Dk(I:Inv X pins σ H s):∀b∈frs X.stack,H b=none:=λb hb=>by
 rcases aY.mp (I.Dl b hb)with e|hb
 ·rw[e];exact I.free
 ·obtain⟨_,o,ho,_⟩:=I.ok.d9.mem hb
  exact I.base.free b o ho (I.ok.iK b hb) λz=>I.ok.nq b z hb
theorem Inv.step{g':Array GenState}{t':Nat}{d':Drawn}{ch:List Addr}(I:Inv X pins σ H s)(hch:∀b∈ch,(b∈X.ex\/X.s₀.heap.objs.size<=b)/\b≠X.env.locals/\(∀x c,X.env.cells.lookup x=some c->c≠b)/\∀p∈X.pn++pins,p.1≠b)(keep:∀b o,b≠X.env.locals->b ∉ X.fs->b ∉ ch->s.heap.get? b=some o->H b=none->h'.get? b=some o)
  (slot:∀b o,b≠X.env.locals->b∈X.fs->b ∉ ch->s.heap.get? b=some o->H b=none->∃sl,h'.get? b=some {o with slots:=sl}) (free:∀b o,b ∉ ch->s.heap.get? b=some o->H b=none->H' b=none)
  (there:∀b o,b ∉ ch->s.heap.get? b=some o->∃o',h'.get? b=some o')
  (tups:∀b xs,H b=some (.tup xs)->H' b=some (.tup xs)) (jG:∀b o u,H b=some (.cT o u)->H' b=some (.cT o u)) (kJ:∀b ps,H b=some (.lU ps)->∃more,H' b=some (.lU (ps++more)))
  (ns:∀m,s.heap.Ns X.env.locals m->h'.Ns X.env.locals m) (hok:bJ X.prog X.w H' h') (hg:AllBare g') :
  Inv X pins σ H' {s with heap:=h',gens:=g',drawn:=d',toks:=t'}:=by
 have KJ:∀b o,X.s₀.heap.get? b=some o->b≠X.env.locals:=λb o e=>a_ (dD (aP e) I.ok.above);have uj:∀b o,X.s₀.heap.get? b=some o->b ∉ X.ex->b ∉ ch:=λb o e hx hb=>by
  rcases(hch b hb).1 with z|z
  ·exact hx z
  ·exact absurd (dD (aP e) z) (gE _)
 have cellK:∀x c,X.env.cells.lookup x=some c->∀v,s.heap.IsCell c v->h'.IsCell c v:=λx c e v ⟨o,ho,hd⟩=>by
  have qf:c ∉ ch:=λz=>(hch c z).2.2.1 x c e rfl
  by_cases hc:c∈X.fs
  ·obtain⟨sl,q⟩:=slot c o (I.k7 x c e) hc qf ho (I.eO x c e)
   exact⟨_,q,hd⟩
  ·exact⟨o,keep c o (I.k7 x c e) hc qf ho (I.eO x c e),hd⟩
 refine⟨I.ok,I.os,hg,⟨λb o e n hb hx=>?_,λb o e n hb hx=>?_,λb o e n hx=>?_,λb o e hx=>?_,λb xs e=>tups b xs (I.base.tups b xs e),λb o xs e=>jG b o xs (I.base.jG b o xs e),λb ps e=>?_⟩,?_,λx c e=>?_,?_,λx c e=>?_,λp hp=>?_,hok,I.len⟩
 ·exact keep b o (KJ b o e) hb (uj b o e hx) (I.base.keep b o e n hb hx) (I.base.free b o e n hx)
 ·obtain⟨sl,e1⟩:=I.base.slot b o e n hb hx
  obtain⟨sl',e2⟩:=slot b _ (KJ b o e) hb (uj b o e hx) e1 (I.base.free b o e n hx);exact⟨sl',e2⟩
 ·obtain⟨o',e1⟩:=I.base.there b o e hx
  exact free b o' (uj b o e hx) e1 (I.base.free b o e n hx)
 ·obtain⟨o',e1⟩:=I.base.there b o e hx
  exact there b o' (uj b o e hx) e1
 ·obtain⟨m1,e1⟩:=I.base.kJ b ps e
  obtain⟨m2,e2⟩:=kJ b _ e1;exact⟨m1++m2,by rw[e2,Array.append_assoc]⟩
 ·obtain⟨m,hn,hl⟩:=I.loc
  refine⟨m,ns m hn,λi x v e1 e2 e3=>?_⟩;obtain⟨u,r,l⟩:=hl i x v e1 e2 e3;refine⟨u,r,?_⟩
  rcases l with l|⟨k,c,e,z⟩
  ·exact .inl l
  ·exact .inr ⟨k,c,e,cellK x c e _ z⟩
 ·obtain⟨v,z⟩:=I.cell x c e
  exact⟨v,cellK x c e v z⟩
 ·obtain⟨m,⟨o,_,_,ho,_⟩,_⟩:=I.loc
  exact free _ o (λz=>(hch _ z).2.1 rfl) ho I.free
 ·obtain⟨v,o,ho,hd⟩:=I.cell x c e
  exact free c o (λz=>(hch c z).2.2.1 x c e rfl) ho (I.eO x c e)
 ·obtain⟨e,n,ne,nf,d⟩:=I.pin p hp
  have qf:p.1 ∉ ch:=λz=>(hch p.1 z).2.2.2 p hp rfl;exact⟨keep p.1 p.2 ne nf qf e n,free p.1 p.2 qf e n,ne,nf,d⟩
theorem Inv.un{t':Nat}(I:Inv X pins σ H s)(u:Un X.fs [] H H' s.heap h')(hok:bJ X.prog X.w H' h'):Inv X pins σ H' {s with heap:=h',toks:=t'}:=by
 obtain⟨m,⟨o,es,ep,ho,r⟩,_⟩:=id I.loc;obtain⟨sl,hL⟩:=u.any ho I.free (by simp);exact I.step (g':=s.gens) (d':=s.drawn) (ch:=[]) (λ_ z=>nomatch z) (λb o _ hb _ e n=>u.keep b o e n hb (by simp)) (λb o _ hb _ e n=>u.slot b o e n hb (by simp)) (λb o _ e n=>u.free b o e n (by simp)) (λb o _ e=>u.there b o e (by simp)) u.tups u.jG u.kJ (λm' hm=>by
  obtain⟨o',es',ep',ho',r'⟩:=hm;rw[ho]at ho';cases ho';exact⟨_,es',ep',hL,r'⟩) hok I.bare
theorem Inv.call{g':Array GenState}{t':Nat}{d':Drawn}{ch:List Addr}(I:Inv X pins σ H s)(u:Un (frs X.stack) ch H H' s.heap h')(hok:bJ X.prog X.w H' h')(hg:AllBare g')(hch:∀b∈ch,(b∈X.ex\/X.s₀.heap.objs.size<=b)/\b≠X.env.locals/\(∀x c,X.env.cells.lookup x=some c->c≠b)/\∀p∈X.pn++pins,p.1≠b):
  Inv X pins σ H' {s with heap:=h',gens:=g',drawn:=d',toks:=t'}:=by
 obtain⟨m,⟨o,es,ep,ho,r⟩,_⟩:=id I.loc;obtain⟨sl,hL⟩:=u.any ho I.free λz=>(hch _ z).2.1 rfl;exact I.step (ch:=ch) hch (λb o hL hb hc e n=>u.keep b o e n (λz=>(aY.mp (I.Dl b z)).elim hL hb) hc) (λb o _ _ hc e n=>u.any e n hc) (λb o hc e n=>u.free b o e n hc) (λb o hc e=>u.there b o e hc) u.tups u.jG u.kJ (λm' hm=>by
  obtain⟨o',es',ep',ho',r'⟩:=hm;rw[ho]at ho';cases ho';exact⟨_,es',ep',hL,r'⟩) hok hg
theorem Inv.turned{t':Nat}{it:Addr}(I:Inv X pins σ H s)(k:∀b o,b≠it->s.heap.get? b=some o->h'.get? b=some o)(hn:H it=none)(hL:it≠X.env.locals)
  (h1:it∈X.ex\/X.s₀.heap.objs.size<=it) (h2:∀x c,X.env.cells.lookup x=some c->c≠it) (h3:∀p∈X.pn++pins,p.1≠it):Inv X pins σ H {s with heap:=h',toks:=t'}:=by
 have KS:∀b u,H b=some u->b≠it:=λb u e z=>by rw[z,hn]at e;cases e
 refine I.step (g':=s.gens) (d':=s.drawn) (ch:=[it]) (λb hb=>?_) (λb o _ _ hc e _=>k b o (λz=>hc (by simp[z])) e) (λb o _ _ hc e _=>⟨o.slots,k b o (λz=>hc (by simp[z])) e⟩) (λ_ _ _ _ n=>n)
  (λb o hc e=>⟨o,k b o (λz=>hc (by simp[z])) e⟩) (λ_ _ e=>e) (λ_ _ _ e=>e) (λb ps e=>⟨#[],by rw[e];simp⟩) (λm hm=>?_) (λb u e=>?_) I.bare
 ·have e:b=it:=by simpa using hb
  subst e;exact⟨h1,hL,h2,h3⟩
 ·obtain⟨o,es,ep,ho,r⟩:=hm
  exact⟨o,es,ep,k _ o (b_ hL) ho,r⟩
 ·refine(I.hok b u e).stay (λc v hc q=>k c v ?_ q) (λ_ q=>q) (λ_ _ q=>q) λ_ _ _ q=>q
  rcases hc with z|z
  ·rw[z];exact KS b u e
  ·exact KS c _ z
theorem Inv.tok(I:Inv X pins σ H s)(t:Nat):Inv X pins σ H {s with toks:=t}:=I.un (h':=s.heap) (t':=t) Un.refl I.hok
theorem Inv.kept{t':Nat}(I:Inv X pins σ H s)(k:∀b u,s.heap.get? b=some u->h'.get? b=some u):Inv X pins σ H {s with heap:=h',toks:=t'}:=I.un (Un.kept k) (I.hok.kept k)
theorem Inv.laid{a:Addr}{o:HO}{t':Nat}(I:Inv X pins σ H s)(k:∀b u,s.heap.get? b=some u->h'.get? b=some u)(hp:s.heap.objs.size<=a)(new:a8 X.prog X.w (upd H a o) h' a o):
  Inv X pins σ (upd H a o) {s with heap:=h',toks:=t'}:=I.un (Un.laid k hp (I.hok.fresh hp)) (I.hok.laid k hp new)
theorem Inv.write{x e:Addr}{o:HO}{t':Nat}(I:Inv X pins σ H s)(mu:oT (H x))(he:e=x\/H e=some (.own x))(k:∀b u,b≠e->s.heap.get? b=some u->h'.get? b=some u)(heo:∃u,h'.get? e=some u)
  (new:a8 X.prog X.w (upd H x o) h' x o):Inv X pins σ (upd H x o) {s with heap:=h',toks:=t'}:=I.un (Un.write mu he k heo) (I.hok.write mu he k heo new)
theorem Inv.weak{σ':List (Option V)}(I:Inv X pins σ H s)(hl:σ'.length=σ.length)(w:∀(i:Nat) v,σ'[i]?=some (some v)->σ[i]?=some (some v)):Inv X pins σ' H s:=
 ⟨I.ok,I.os,I.bare,I.base,let⟨m,hn,hl'⟩:=I.loc;⟨m,hn,λi x v e1 e2 e3=>hl' i x v e1 (w i v e2) e3⟩,I.cell,I.free,I.eO,I.pin,I.hok,hl.trans I.len⟩
theorem Inv.qz{Ml:List (Addr × Obj)}(I:Inv X pins σ H s)(h:∀p∈Ml,s.heap.get? p.1=some p.2/\H p.1=none/\p.1≠X.env.locals/\p.1 ∉ X.fs/\∀v,p.2.data≠.cell v):Inv X Ml σ H s:=
 ⟨I.ok,I.os,I.bare,I.base,I.loc,I.cell,I.free,I.eO,λp hp=>(iz.mp hp).elim (λz=>I.pin p (List.mem_append_left _ z)) (h p),I.hok,I.len⟩
theorem KZ{N:List Str}(hN:N.Nodup){i j:Nat}{x:Str}(a:N[i]?=some x)(b:N[j]?=some x):i=j:=by
 obtain⟨h1,e1⟩:=bp.mp a;obtain⟨h2,e2⟩:=bp.mp b;exact(Ez hN).mp (e1.trans e2.symm)
theorem OD{M:Model}{A:Around}{E:Value->Shared->Prop}{i:Nat}{x:Str}{v:V}{u:Value}{Q:Unit->Shared->Prop}(I:Inv X pins σ H s)(hN:X.N.Nodup)(hi:X.N[i]?=some x)(hx:Loc X.env.scope x)(r:RelV v u)(h:∀s',Inv X pins (σ.set i (some v)) H s'->(∃a,Heap.SameBut a s.heap s'.heap/\(a=X.env.locals\/X.env.cells.lookup x=some a))->Q () s')(hf:X.fn x=true\/X.env.scope.names.lookup x=some .local:=by first|exact .inl rfl|exact .inr rfl|assumption):wpAny M A (storeName X.env x u) Q E s:=by
 obtain⟨m,hn,hl⟩:=id I.loc;have hcls:(X.env.scope.kind==.class||(X.env.scope.kind==.module&&X.env.locals != X.env.globals))=false:=by rw[I.ok.kind];rfl
 have hiσ:i<σ.length:=by rw[I.len];exact(bp.mp hi).1
 have k7:=I.k7;have tracked:∀{a:Addr} {h':Heap},(∃o,s.heap.get? a=some o/\H a=none)->Heap.SameBut a s.heap h'->bJ X.prog X.w H h':=λ{a h'} ha hs b ob e=>by
  obtain⟨_,_,hfree⟩:=ha;refine(I.hok b ob e).stay (λc w' hc q=>(hs.2 c ?_).trans q) (λ_ q=>q) (λ_ _ q=>q) λ_ _ _ q=>q;rintro rfl
  rcases hc with rfl|hc
  ·rw[hfree]at e;cases e
  ·rw[hfree]at hc;cases hc
 rcases hx with hk|hk
 ·refine wpAny_storeName_local hk hn (λh' hn' hs=>?_) hcls
  obtain⟨oL,_,_,hoL,_⟩:=id hn;refine h _ ⟨I.ok,I.os,I.bare,⟨λb o e n hb hx=>?_,λb o e n hb hx=>?_,I.base.free,λb o e hx=>?_,I.base.tups,I.base.jG,I.base.kJ⟩,⟨_,hn',λj y v' e1 e2 e3=>?_⟩,λy c e=>?_,I.free,I.eO,λp hp=>?_,tracked ⟨oL,hoL,I.free⟩ hs,by simpa using I.len⟩ ⟨_,hs,.inl rfl⟩
  ·exact(hs.2 b (a_ (dD (aP e) I.ok.above))).trans (I.base.keep b o e n hb hx)
  ·obtain⟨sl,e1⟩:=I.base.slot b o e n hb hx
   exact⟨sl,(hs.2 b (a_ (dD (aP e) I.ok.above))).trans e1⟩
  ·obtain⟨o',e1⟩:=I.base.there b o e hx
   exact⟨o',(hs.2 b (a_ (dD (aP e) I.ok.above))).trans e1⟩
  ·by_cases hj:j=i
   ·subst hj
    rw[hi]at e1;cases e1;rw[Ew hiσ]at e2;cases e2;exact⟨u,r,.inl ⟨hk,by simp⟩⟩
   ·rw[wH (b_ hj)]at e2
    obtain⟨u',r',q⟩:=hl j y v' e1 e2 e3;refine⟨u',r',?_⟩
    rcases q with⟨k,e⟩|⟨k,c,e,z⟩
    ·refine .inl ⟨k,?_⟩
     have:y≠x:=λe=>hj (KZ hN e1 (e▸hi));simp[this,e]
    ·exact .inr ⟨k,c,e,z.sameBut hs (k7 y c e)⟩
  ·obtain⟨w',z⟩:=I.cell y c e
   exact⟨w',z.sameBut hs (k7 y c e)⟩
  ·obtain⟨e,n,ne,nf,d⟩:=I.pin p hp
   exact⟨(hs.2 p.1 ne).trans e,n,ne,nf,d⟩
 ·have hfn:X.fn x=true:=by
   rcases hf with z|z
   ·exact z
   ·rw[z]at hk;cases hk
  obtain⟨c,hc⟩:=I.ok.has x (.inl hk);obtain⟨w',z⟩:=I.cell x c hc;refine wpAny_storeName_cell I.ok.kind hk hc z (λh' hc' hs=>?_);obtain⟨oc,hoc,U5⟩:=id z;refine h {s with heap:=h'} ⟨I.ok,I.os,I.bare,⟨λb o e n hb hx=>?_,λb o e n hb hx=>?_,I.base.free,λb o e hx=>?_,I.base.tups,I.base.jG,I.base.kJ⟩,⟨m,hn.sameBut hs (b_ (k7 x c hc)),λj y v' e1 e2 e3=>?_⟩,λy c' e=>?_,I.free,I.eO,λp hp=>?_,tracked ⟨oc,hoc,I.eO x c hc⟩ hs,by simpa using I.len⟩ ⟨c,hs,.inr hc⟩
  ·exact(hs.2 b (a_ (dD (aP e) (I.ok.cab x c hfn hc)))).trans (I.base.keep b o e n hb hx)
  ·obtain⟨sl,e1⟩:=I.base.slot b o e n hb hx
   exact⟨sl,(hs.2 b (a_ (dD (aP e) (I.ok.cab x c hfn hc)))).trans e1⟩
  ·obtain⟨o',e1⟩:=I.base.there b o e hx
   exact⟨o',(hs.2 b (a_ (dD (aP e) (I.ok.cab x c hfn hc)))).trans e1⟩
  ·by_cases hj:j=i
   ·subst hj
    rw[hi]at e1;cases e1;rw[Ew hiσ]at e2;cases e2;exact⟨u,r,.inr ⟨.inl hk,c,hc,hc'⟩⟩
   ·rw[wH (b_ hj)]at e2
    obtain⟨u',r',q⟩:=hl j y v' e1 e2 e3;refine⟨u',r',?_⟩
    rcases q with q|⟨k,c',e,z'⟩
    ·exact .inl q
    ·refine .inr ⟨k,c',e,z'.sameBut hs ?_⟩
     rintro rfl;exact hj (KZ hN e1 (I.ok.inj _ _ _ e hc▸hi))
  ·by_cases hcc:c'=c
   ·subst hcc;exact⟨_,hc'⟩
   ·obtain⟨w2,z2⟩:=I.cell y c' e
    exact⟨w2,z2.sameBut hs hcc⟩
  ·obtain⟨e,n,ne,nf,d⟩:=I.pin p hp
   refine⟨(hs.2 p.1 ?_).trans e,n,ne,nf,d⟩;intro q;rw[q,hoc]at e;have q':oc=p.2:=df e;exact d w' (by rw[<- q'];exact U5)
theorem vK{M:Model}{A:Around}{E:Value->Shared->Prop}{i:Nat}{x:Str}{v:V}{u:Value}{Q:Unit->Shared->Prop}(I:Inv X pins σ H s)(hN:X.N.Nodup)(hi:X.N[i]?=some x)(hx:Loc X.env.scope x)(r:RelV v u)(h:∀s',Inv X pins (σ.set i (some v)) H s'->Q () s')(hf:X.fn x=true\/X.env.scope.names.lookup x=some .local:=by first|exact .inl rfl|exact .inr rfl|assumption):wpAny M A (storeName X.env x u) Q E s:=
 OD I hN hi hx r (λs' I' _=>h s' I') hf
theorem Inv.call'{s':Shared}{ch:List Addr}(I:Inv X pins σ H s)(ho:s'.os=s.os)(u:Un (frs X.stack) ch H H' s.heap s'.heap)(hok:bJ X.prog X.w H' s'.heap)(hg:AllBare s'.gens)(hch:∀b∈ch,(b∈X.ex\/X.s₀.heap.objs.size<=b)/\b≠X.env.locals/\(∀x c,X.env.cells.lookup x=some c->c≠b)/\∀p∈X.pn++pins,p.1≠b):Inv X pins σ H' s':=by
 obtain⟨h',g',d',t',o'⟩:=s';have e:o'=s.os:=ho;subst e;exact I.call (g':=g') (t':=t') (d':=d') u hok hg hch
end
abbrev XK:=Value->Option Addr->Hp->Prop
abbrev St:=List (Option V)
abbrev VK:=V->Hp->Prop
abbrev TE:=St->Hp->VK->Prop
abbrev TT:=St->Hp->(Bool->Hp->Prop)->Prop
abbrev TA:=St->Hp->(List V->Hp->Prop)->Prop
structure Ends where
 nx:St->Hp->Prop
 rt:VK
 bk:St->Hp->Prop:=λ_ _=>False
 ct:St->Hp->Prop:=λ_ _=>False
abbrev TS:=Ends->St->Hp->Prop
noncomputable def EP(X:Cx)(pins:List (Addr × Obj))(σ:St)(Q:VK)(u:Value)(s':Shared):Prop:=∃v H',Inv X pins σ H' s'/\RelV v u/\Q v H'
noncomputable def TP(X:Cx)(pins:List (Addr × Obj))(σ:St)(Q:Bool->Hp->Prop)(b:Bool)(s':Shared):Prop:=∃H',Inv X pins σ H' s'/\Q b H'
noncomputable def AP(X:Cx)(pins:List (Addr × Obj))(σ:St)(Q:List V->Hp->Prop)(us:List Value)(s':Shared):Prop:=∃vs H',Inv X pins σ H' s'/\Vals vs us/\Q vs H'
noncomputable def SP(X:Cx)(pins:List (Addr × Obj))(D:Ends)(f:Flow)(s':Shared):Prop:=
 match f with
 |.next=>∃σ' H',Inv X pins σ' H' s'/\D.nx σ' H'
 |.brk=>∃σ' H',Inv X pins σ' H' s'/\D.bk σ' H'
 |.cont=>∃σ' H',Inv X pins σ' H' s'/\D.ct σ' H'
 |.ret u=>∃v σ' H',Inv X pins σ' H' s'/\RelV v u/\D.rt v H'
noncomputable def PE(X:Cx)(e:Expr)(t:TE):Prop:=
 ∀(pins:List (Addr × Obj)) (s:Shared) (σ:St) (H:Hp) (Q:VK),Inv X pins σ H s->t σ H Q->wpAny (model X.prog X.w) X.A (eval e X.env) (EP X pins σ Q) X.xe s
noncomputable def PT(X:Cx)(e:Expr)(t:TT):Prop:=
 ∀(pins:List (Addr × Obj)) (s:Shared) (σ:St) (H:Hp) (Q:Bool->Hp->Prop),Inv X pins σ H s->t σ H Q->wpAny (model X.prog X.w) X.A (isTrue e X.env (eval e X.env)) (TP X pins σ Q) X.xe s
noncomputable def PW(X:Cx)(e:Expr)(t:TT):Prop:=
 ∀(whole:Sem Value) (pins:List (Addr × Obj)) (s:Shared) (σ:St) (H:Hp) (Q:Bool->Hp->Prop),Inv X pins σ H s->t σ H Q->wpAny (model X.prog X.w) X.A (isTrue e X.env whole) (TP X pins σ Q) X.xe s
theorem PW.pt{X:Cx}{e:Expr}{t:TT}(h:PW X e t):PT X e t:=h _
noncomputable def PA(X:Cx)(es:List Expr)(t:TA):Prop:=
 ∀(pos:Pos) (pins:List (Addr × Obj)) (s:Shared) (σ:St) (H:Hp) (Q:List V->Hp->Prop),Inv X pins σ H s->t σ H Q->wpAny (model X.prog X.w) X.A (spliced (backTo pos (starEach es X.env))) (AP X pins σ Q) X.xe s
noncomputable def PS(X:Cx)(st:Stmt)(t:TS):Prop:=
 ∀(pins:List (Addr × Obj)) (s:Shared) (σ:St) (H:Hp) (D:Ends),Inv X pins σ H s->t D σ H->wpAny (model X.prog X.w) X.A (exec st X.env) (SP X pins D) X.xe s
noncomputable def fj(X:Cx)(st:List Stmt)(t:TS):Prop:=
 ∀(pins:List (Addr × Obj)) (s:Shared) (σ:St) (H:Hp) (D:Ends),Inv X pins σ H s->t D σ H->wpAny (model X.prog X.w) X.A (execs st X.env) (SP X pins D) X.xe s
theorem aC{α:Type}{t:Sem α}{Q Q':α->Shared->Prop}{M:Model}{A:Around}{E:Value->Shared->Prop}{s:Shared}(h:wpAny M A t Q E s)(hQ:∀a s,Q a s->Q' a s):wpAny M A t Q' E s:=fO h hQ λ_ _ x=>x
section
variable {X:Cx}
noncomputable def Dt(i:Nat):TE:=λσ H Q=>∃v,σ[i]?=some (some v)/\Q v H
noncomputable def tC(v:V):TE:=λ_ H Q=>Q v H
theorem Yu {i:Nat} {x:Str} {pos:Pos} (hN:X.N[i]?=some x) (hv:rX X.env.scope x) (hd:(x==("__debug__" : Str))=false:=by decide) (hcd:(x==("__classdict__" : Str))=false:=by decide):PE X (.Name x pos) (Dt i):=by
 intro pins s σ H Q I h;obtain⟨v,e,h⟩:=h;obtain⟨m,hn,hl⟩:=I.loc;obtain⟨u,r,l⟩:=hl i x v hN e hv;have fin:EP X pins σ Q u s:=⟨v,H,I,r,h⟩
 rcases l with⟨hk,hm⟩|⟨hk,c,hc,hcell⟩
 ·exact wpAny_Name (wpAny_loadName_local I.ok.kind hk hn hm fin) hd
 ·rcases hk with hk|hk
  ·exact wpAny_Name (wpAny_loadName_cell I.ok.kind hk hc hcell fin) hd
  ·exact wpAny_Name (wpAny_loadName_free I.ok.kind hk hc hcell fin hcd) hd
theorem aD{i j pos}:PE X (.Constant (.int i) j pos) (tC (.int i)):=λ_ _ _ H _ I h=>wpAny_Constant_int ⟨.int i,H,I.tok _,⟨_,rfl⟩,h⟩
theorem d0{b j pos}:PE X (.Constant (.bool b) j pos) (tC (.bl b)):=λ_ _ _ H _ I h=>Constant_bool ⟨.bl b,H,I,rfl,h⟩
theorem uD{j pos}:PE X (.Constant .none j pos) (tC .non):=λ_ _ _ H _ I h=>Constant_none ⟨.non,H,I,rfl,h⟩
noncomputable def Gl(X:Cx)(x:Str):Prop:=X.env.kindOf x=some .globalImplicit
theorem qd{E:Value->Shared->Prop}{pins:List (Addr × Obj)}{s:Shared}{σ:St}{H:Hp}{x:Str}{u:Value}{pos:Pos}{Q:Value->Shared->Prop}(I:Inv X pins σ H s)(hg:Gl X x)(hm:X.mg x=some u)(h:Q u s)
  (hd:(x==("__debug__" : Str))=false:=by decide):wpAny (model X.prog X.w) X.A (eval (.Name x pos) X.env) Q E s:=
 Calls.Name_function_global I.ok.kind hg (Calls.loadGlobal_global (by rw[I.ok.glob];exact I.mod.glob.keeps I.bk) hm h) hd
theorem iR{E:Value->Shared->Prop}{pins:List (Addr × Obj)}{s:Shared}{σ:St}{H:Hp}{x:Str}{u:Value}{pos:Pos}{Q:Value->Shared->Prop}(I:Inv X pins σ H s)(hg:Gl X x)(hm:X.mg x=none)(hv:bootBuiltins x=some u)(h:Q u s)
  (hn:x ≠ "__name__" :=by decide) (hd:(x==("__debug__" : Str))=false:=by decide):wpAny (model X.prog X.w) X.A (eval (.Name x pos) X.env) Q E s:=by
 obtain⟨mb,h1,h2⟩:=I.mod.blt;exact Calls.Name_function_global I.ok.kind hg (Calls.loadGlobal_builtin (by rw[I.ok.glob];exact I.mod.glob.keeps I.bk) hm (by rw[I.ok.blt];exact h1.keeps I.bk) ((h2 x hn).trans hv) h) hd
theorem ot {x:Str} {v:V} {u:Value} {pos:Pos} (hg:Gl X x) (hm:X.mg x=some u) (r:RelV v u) (hd:(x==("__debug__" : Str))=false:=by decide):PE X (.Name x pos) (tC v):=
 λ_ _ _ H _ I h=>qd I hg hm ⟨v,H,I,r,h⟩ hd
theorem Ma {x:Str} {v:V} {u:Value} {pos:Pos} (hg:Gl X x) (hm:X.mg x=none) (hv:bootBuiltins x=some u) (r:RelV v u) (hn:x ≠ "__name__" :=by decide) (hd:(x==("__debug__" : Str))=false:=by decide):PE X (.Name x pos) (tC v):=
 λ_ _ _ H _ I h=>iR I hg hm hv ⟨v,H,I,r,h⟩ hn hd
variable {a b:Expr} {ta tb:TE} {pos:Pos}
noncomputable def tB(t:TE):TT:=λσ H Q=>t σ H λx H1=>∃c,x = .bl c/\Q c H1
theorem fJ{e:Expr}{t:TE}(h:PE X e t)(he:∀whole,isTrue e X.env whole=(do let v <- whole;standAt e.pos;holding [v] (truthy v)):=by intro _;rfl):PT X e (tB t):=by
 intro pins s σ H Q I hw;refine isTrue_plain (aC (h pins s σ H _ I hw) λv s1 ⟨x,H1,I1,r1,q1⟩=>?_) (he _);obtain⟨d,rfl,q⟩:=q1;cases r1;exact gZ ⟨H1,I1,q⟩
variable {tA vL:TT} {rest:List Expr}
noncomputable def aam(t u:TT):TT:=λσ H Q=>t σ H λc H1=>if c=true then u σ H1 Q else Q false H1
noncomputable def tOr(t u:TT):TT:=λσ H Q=>t σ H λc H1=>if c=true then Q true H1 else u σ H1 Q
noncomputable def aay(t:TT):TT:=λσ H Q=>t σ H λc H1=>Q (!c) H1
theorem qG(ha:PT X a tA):PW X (.BoolOp .And [a] pos) tA:=by
 intro wh pins s σ H Q I h;refine isTrue_and (aC (ha pins s σ H Q I h) λc s1 e=>?_);cases c with
 |true=>exact isTrue_and_nil e
 |false=>exact e
theorem qI(ha:PT X a tA):PW X (.BoolOp .Or [a] pos) tA:=by
 intro wh pins s σ H Q I h;refine isTrue_or (aC (ha pins s σ H Q I h) λc s1 e=>?_);cases c with
 |false=>exact isTrue_or_nil e
 |true=>exact e
theorem qF(ha:PT X a tA)(hb:PW X (.BoolOp .And (b::rest) pos) vL):PW X (.BoolOp .And (a::b::rest) pos) (aam tA vL):=by
 intro wh pins s σ H Q I h;refine isTrue_and (aC (ha pins s σ H _ I h) λc s1 ⟨H1,I1,q1⟩=>?_);cases c with
 |true=>exact hb wh pins s1 σ H1 Q I1 q1
 |false=>exact⟨H1,I1,q1⟩
theorem qH(ha:PT X a tA)(hb:PW X (.BoolOp .Or (b::rest) pos) vL):PW X (.BoolOp .Or (a::b::rest) pos) (tOr tA vL):=by
 intro wh pins s σ H Q I h;refine isTrue_or (aC (ha pins s σ H _ I h) λc s1 ⟨H1,I1,q1⟩=>?_);cases c with
 |true=>exact⟨H1,I1,q1⟩
 |false=>exact hb wh pins s1 σ H1 Q I1 q1
theorem iS(ha:PT X a tA):PT X (.UnaryOp .Not a pos) (aay tA):=by
 intro pins s σ H Q I h;exact isTrue_not (ha pins s σ H (λc H1=>Q (!c) H1) I h)
noncomputable def aan(ta tb:TE):TE:=λσ H Q=>ta σ H λx H1=>∃c,x = .bl c/\if c=true then tb σ H1 Q else Q (.bl false) H1
noncomputable def aaA(ta tb:TE):TE:=λσ H Q=>ta σ H λx H1=>∃c,x = .bl c/\if c=true then Q (.bl true) H1 else tb σ H1 Q
noncomputable def aaz(ta:TE):TE:=λσ H Q=>ta σ H λx H1=>∃c,x = .bl c/\Q (.bl (!c)) H1
theorem ou{op}{t:TE}(h:PE X a t):PE X (.BoolOp op [a] pos) t:=λpins s σ H Q I hw=>BoolOp_one (h pins s σ H Q I hw)
theorem qu(ha:PE X a ta)(hb:PE X (.BoolOp .And (b::rest) pos) tb):PE X (.BoolOp .And (a::b::rest) pos) (aan ta tb):=by
 intro pins s σ H Q I h;refine BoolOp_and (aC (ha pins s σ H _ I h) λv s1 ⟨x,H1,I1,r1,q1⟩=>?_);obtain⟨c,rfl,q1⟩:=q1;cases r1;refine gZ ?_;cases c with
 |true=>exact hb pins s1 σ H1 Q I1 q1
 |false=>exact⟨.bl false,H1,I1,rfl,q1⟩
theorem Yr(ha:PE X a ta)(hb:PE X (.BoolOp .Or (b::rest) pos) tb):PE X (.BoolOp .Or (a::b::rest) pos) (aaA ta tb):=by
 intro pins s σ H Q I h;refine BoolOp_or (aC (ha pins s σ H _ I h) λv s1 ⟨x,H1,I1,r1,q1⟩=>?_);obtain⟨c,rfl,q1⟩:=q1;cases r1;refine gZ ?_;cases c with
 |false=>exact hb pins s1 σ H1 Q I1 q1
 |true=>exact⟨.bl true,H1,I1,rfl,q1⟩
theorem Mb(ha:PE X a ta):PE X (.UnaryOp .Not a pos) (aaz ta):=by
 intro pins s σ H Q I h;refine UnaryOp_ (aC (ha pins s σ H _ I h) λv s1 ⟨x,H1,I1,r1,q1⟩=>?_);obtain⟨c,rfl,q1⟩:=q1;cases r1;exact not_of (gZ ⟨.bl (!c),H1,I1,rfl,q1⟩)
end
noncomputable def ai(K:W.Frag)(H:Hp)(a:Addr)(xs:List V):Prop:=
 Rd H a (.lst xs) \/
  ∃(o:Obj) (its:Array Value) (n:Nat),K.lookup a=some o/\o.cls = .type "list" /\ o.dict=none/\o.data = .seq its n/\its.size<=sizeLine/\Vals xs its.toList
noncomputable def ax(K:W.Frag)(H:Hp)(a:Addr)(xs:List V):Prop:=
 Rd H a (.tup xs) \/
  ∃(o:Obj) (its:Array Value) (n:Nat),K.lookup a=some o/\o.cls = .type "tuple" /\ o.data = .seq its n/\its.size<=sizeLine/\Vals xs its.toList
noncomputable def QV:Value->Option V
 |.none=>some .non
 |.bool b=>some (.bl b)
 |.int i _=>some (.int i)
 |.str x _=>some (.str x)
 |.bytes b _=>some (.gI b)
 |.float b _=>some (.flt b)
 |.ref a=>some (.ref a)
 |.type n=>some (.ty n)
 |_=>none
theorem RelV.abs{x:V}{u:Value}(r:RelV x u):QV u=some x:=by
 cases x with
 |non=>cases r;rfl
 |bl _=>cases r;rfl
 |int _=>obtain⟨t,rfl⟩:=r;rfl
 |str _=>obtain⟨t,rfl⟩:=r;rfl
 |gI _=>obtain⟨t,rfl⟩:=r;rfl
 |flt _=>obtain⟨t,rfl⟩:=r;rfl
 |ref _=>cases r;rfl
 |ty _=>cases r;rfl
theorem RelV.inj{x y:V}{u:Value}(r:RelV x u)(q:RelV y u):x=y:=df (r.abs.symm.trans q.abs)
theorem Vals.inj:∀{xs ys:List V} {us:List Value},Vals xs us->Vals ys us->xs=ys
 |_,_,_,.nil,.nil=>rfl
 |_,_,_,.cons r t,.cons r' t'=>by rw[r.inj r',Vals.inj t t']
section
variable {X:Cx} {pins:List (Addr × Obj)} {σ:St} {H:Hp} {s:Shared} {a:Addr} {xs ys:List V}
theorem ai.of{K:W.Frag}(h:H a=some (.lst xs)):ai K H a xs:=.inl (.inl h)
theorem ax.of{K:W.Frag}(h:H a=some (.tup xs)):ax K H a xs:=.inl (.inl h)
theorem Inv.list(I:Inv X pins σ H s)(h:ai X.K H a xs):∃its:List Value,Vals xs its/\PlainL s.heap a its.toArray/\xs.length<=sizeLine:=by
 rcases h with h|⟨o,its,n,hk,hc,hd,hs,hz,r⟩
 ·obtain⟨z,its,n,r,e⟩:=h.ok I.hok
  exact⟨its,r,⟨_,n,e,rfl,rfl,rfl⟩,z⟩
 ·refine⟨its.toList,r,⟨o,n,I.bU a o hk,hc,hd,by simpa using hs⟩,?_⟩
  have e:=r.length;simp only[eY]at e;omega
theorem Inv.tuple(I:Inv X pins σ H s)(h:ax X.K H a xs):∃its:List Value,Vals xs its/\IsTup s.heap a its.toArray/\xs.length<=sizeLine:=by
 rcases h with h|⟨o,its,n,hk,hc,hs,hz,r⟩
 ·obtain⟨z,its,r,p,_⟩:=h.ok I.hok
  exact⟨its,r,p,z⟩
 ·refine⟨its.toList,r,⟨o,I.bU a o hk,hc,n,by simpa using hs⟩,?_⟩
  have e:=r.length;simp only[eY]at e;omega
theorem Inv.Ao(I:Inv X pins σ H s)(h:ai X.K H a xs)(h':ai X.K H a ys):xs=ys:=by
 obtain⟨its,r,⟨o,n,e,_,_,d⟩,_⟩:=I.list h;obtain⟨its',r',⟨o',n',e',_,_,d'⟩,_⟩:=I.list h';rw[e]at e';cases e';rw[d]at d';injection d' with d1 _
 have:its=its':=by simpa using congrArg Array.toList d1
 subst this;exact r.inj r'
theorem Inv.Dw(I:Inv X pins σ H s)(h:ax X.K H a xs)(h':ax X.K H a ys):xs=ys:=by
 obtain⟨its,r,⟨o,e,_,n,d⟩,_⟩:=I.tuple h;obtain⟨its',r',⟨o',e',_,n',d'⟩,_⟩:=I.tuple h';rw[e]at e';cases e';rw[d]at d';injection d' with d1 _
 have:its=its':=by simpa using congrArg Array.toList d1
 subst this;exact r.inj r'
end
abbrev Cx.wish (X:Cx) (E:Value->Shared->Prop):Cx:={X with xe:=E}
abbrev Cx.lI (X:Cx):Cx:=X.wish λ_ _=>False
theorem Cx.Ok.wish{X:Cx}(ok:X.Ok)(E:Value->Shared->Prop):(X.wish E).Ok:=
 ⟨ok.mod,ok.kind,ok.glob,ok.blt,ok.above,ok.inj,ok.has,ok.cab,ok.hd,ok.frames,ok.stk,ok.sI,ok.bs,ok.fS,ok.lH,ok.nq,ok.d9,ok.iK⟩
theorem Cx.Ok.kK{X:Cx}{E:Value->Shared->Prop}(ok:(X.wish E).Ok):X.Ok:=
 ⟨ok.mod,ok.kind,ok.glob,ok.blt,ok.above,ok.inj,ok.has,ok.cab,ok.hd,ok.frames,ok.stk,ok.sI,ok.bs,ok.fS,ok.lH,ok.nq,ok.d9,ok.iK⟩
section
variable {X:Cx} {pins:List (Addr × Obj)} {σ:St} {H:Hp} {s:Shared} {E:Value->Shared->Prop}
theorem Inv.wish(I:Inv X pins σ H s)(E:Value->Shared->Prop):Inv (X.wish E) pins σ H s:=⟨I.ok.wish E,I.os,I.bare,I.base,I.loc,I.cell,I.free,I.eO,I.pin,I.hok,I.len⟩
theorem Inv.kK(I:Inv (X.wish E) pins σ H s):Inv X pins σ H s:=⟨I.ok.kK,I.os,I.bare,I.base,I.loc,I.cell,I.free,I.eO,I.pin,I.hok,I.len⟩
theorem SP.kK{D:Ends}{f:Flow}{s':Shared}(h:SP (X.wish E) pins D f s'):SP X pins D f s':=by
 cases f with
 |next=>obtain⟨σ',H',I,q⟩:=h;exact⟨σ',H',I.kK,q⟩
 |brk=>obtain⟨σ',H',I,q⟩:=h;exact⟨σ',H',I.kK,q⟩
 |cont=>obtain⟨σ',H',I,q⟩:=h;exact⟨σ',H',I.kK,q⟩
 |ret u=>obtain⟨v,σ',H',I,r,q⟩:=h;exact⟨v,σ',H',I.kK,r,q⟩
theorem fj.lI{st:List Stmt}{t:TS}(h:fj X.lI st t):fj X st t:=λpins s σ H D I hw =>
 fO (h pins s σ H D (I.wish _) hw) (λ_ _ q=>q.kK) λ_ _ z=>False.elim z
end
section
variable {X:Cx} {st:Stmt} {rest:List Stmt} {t u:TS} {e:Expr} {te:TE} {pos:Pos}
noncomputable def Ds:TS:=λD σ H=>D.nx σ H
noncomputable def cV(t u:TS):TS:=λD σ H=>t {D with nx:=u D} σ H
theorem cU:fj X [] Ds:=λ_ _ σ H _ I h=>xE ⟨σ,H,I,h⟩
theorem ay(h1:PS X st t)(h2:fj X rest u):fj X (st::rest) (cV t u):=by
 intro pins s σ H D I h;refine wpAny_execs_cons (aC (h1 pins s σ H {D with nx:=u D} I h) λf s1 q=>?_);cases f with
 |next =>
  obtain⟨σ',H',I',q⟩:=q;exact h2 pins s1 σ' H' D I' q
 |ret v=>exact q
 |brk=>exact q
 |cont=>exact q
theorem az(h1:PS X st t):fj X [st] t:=by
 intro pins s σ H D I h;refine wpAny_execs_cons (aC (h1 pins s σ H D I h) λf s1 q=>?_);cases f with
 |next=>exact xE q
 |ret v=>exact q
 |brk=>exact q
 |cont=>exact q
theorem Inv.quiet{pins:List (Addr × Obj)}{σ:St}{H:Hp}{s:Shared}(I:Inv X pins σ H s):interactive X.env=false:=by simp[interactive,I.ok.kind]
noncomputable def Pg(te:TE):TS:=λD σ H=>te σ H λ_ H1=>D.nx σ H1
theorem dJ(he:PE X e te)(hs:swapsWith e none pos.line X.env=pure false:=by rfl):PS X (.Expr e pos) (Pg te):=by
 intro pins s σ H D I h;exact wpAny_Expr_any (aC (he pins s σ H _ I h) λv s1 ⟨x,H1,I1,r1,q1⟩=>⟨σ,H1,I1,q1⟩) I.quiet hs
noncomputable def aaD(te:TE):TS:=λD σ H=>te σ H D.rt
theorem aX(he:PE X e te):PS X (.Return (some e) pos) (aaD te):=by
 intro pins s σ H D I h;exact wpAny_Return_some (aC (he pins s σ H _ I h) λv s1 ⟨x,H1,I1,r1,q1⟩=>⟨x,σ,H1,I1,r1,q1⟩)
noncomputable def Pj(c:TT)(t u:TS):TS:=λD σ H=>c σ H λb H1=>if b=true then t D σ H1 else u D σ H1
theorem cM{c:Expr}{a b:List Stmt}{tc:TT}(hc:PT X c tc)(ha:fj X a t)(hb:fj X b u):PS X (.If c a b pos) (Pj tc t u):=by
 intro pins s σ H D I h;refine wpAny_If (aC (hc pins s σ H _ I h) λd s1 ⟨H1,I1,q1⟩=>?_);cases d with
 |true=>exact ha pins s1 σ H1 D I1 q1
 |false=>exact hb pins s1 σ H1 D I1 q1
noncomputable def aaw:TS:=λ_ _ _=>False
theorem lL:PS X st aaw:=λ_ _ _ _ _ _ h=>h.elim
end
abbrev TG:=V->St->Hp->(St->Hp->Prop)->Prop
abbrev ke:=List V->St->Hp->(St->Hp->Prop)->Prop
noncomputable def PG(X:Cx)(target:Expr)(t:TG):Prop:=
 ∀(pins:List (Addr × Obj)) (s:Shared) (σ:St) (H:Hp) (v:V) (u:Value) (Q:St->Hp->Prop),Inv X pins σ H s->RelV v u->t v σ H Q ->
  wpAny (model X.prog X.w) X.A (assign target X.env u) (λ_ s'=>∃σ' H',Inv X pins σ' H' s'/\Q σ' H') X.xe s
noncomputable def o7(X:Cx)(ts:List Expr)(t:ke):Prop:=
 ∀(pins:List (Addr × Obj)) (s:Shared) (σ:St) (H:Hp) (vs:List V) (us:List Value) (Q:St->Hp->Prop),Inv X pins σ H s->Vals vs us->t vs σ H Q ->
  wpAny (model X.prog X.w) X.A (assignInOrder ((assignEach ts X.env).map (·.2)) us) (λ_ s'=>∃σ' H',Inv X pins σ' H' s'/\Q σ' H') X.xe s
abbrev xP:=V->V->V->Hp->(Hp->Prop)->Prop
noncomputable def Fx(X:Cx)(t:xP):Prop:=
 ∀(pins:List (Addr × Obj)) (s:Shared) (σ:St) (H:Hp) (o i v:V) (ov iv u:Value) (Q:Hp->Prop),Inv X pins σ H s->RelV o ov->RelV i iv->RelV v u->t o i v H Q ->
  wpAny (model X.prog X.w) X.A (setItem ov iv u) (λ_ s'=>∃H',Inv X pins σ H' s'/\Q H') X.xe s
section
variable {X:Cx} {pos:Pos}
noncomputable def bq(i:Nat):TG:=λv σ H Q=>Q (σ.set i (some v)) H
theorem aZ{i:Nat}{x:Str}(hN:X.N.Nodup)(hi:X.N[i]?=some x)(hx:Loc X.env.scope x)(hf:X.fn x=true\/X.env.scope.names.lookup x=some .local:=by first|exact .inl rfl|exact .inr rfl|assumption):PG X (.Name x pos) (bq i):=by
 intro pins s σ H v u Q I r h;exact wpAny_assign_Name (vK I hN hi hx r (λs' I'=>⟨_,H,I',h⟩) hf)
noncomputable def tK:ke:=λvs σ H Q=>vs = []/\Q σ H
noncomputable def k_(t:TG)(u:ke):ke:=λvs σ H Q=>∃v r,vs=v::r/\t v σ H λσ' H'=>u r σ' H' Q
theorem Mg:o7 X [] tK:=by
 intro pins s σ H vs us Q I r h;obtain⟨e,h⟩:=h;subst e;cases r;exact assignInOrder_nil ⟨σ,H,I,h⟩
theorem uF{e:Expr}{es:List Expr}{t:TG}{u:ke}(h1:PG X e t)(h2:o7 X es u)(hs:(assignEach (e::es) X.env).map (·.2)=assign e X.env::(assignEach es X.env).map (·.2):=by rfl):o7 X (e::es) (k_ t u):=by
 intro pins s σ H vs us Q I r h;obtain⟨v,vr,e1,h⟩:=h;subst e1;cases r with
 |cons r rr =>
  rw[hs];refine assignInOrder_cons (aC (h1 pins s σ H _ _ _ I r h) λ_ s1 ⟨σ1,H1,I1,q1⟩=>?_);exact h2 pins s1 σ1 H1 _ _ Q I1 rr q1
noncomputable def pW(K:W.Frag)(n:Nat)(t:ke):TG:=λv σ H Q=>∃a xs,v = .ref a/\ax K H a xs/\xs.length=n/\t xs σ H Q
theorem Mf{es:List Expr}{k:Nat}{t:ke}{n:Nat}(hc:X.calm=true)(h:o7 X es t)(hn:(assignEach es X.env).length=n:=by rfl)(hst:(assignEach es X.env).findIdx? (·.1)=none:=by rfl):PG X (.Tuple es k pos) (pW X.K n t):=by
 intro pins s σ H v u Q I r hw;obtain⟨a,xs,e1,hq,hl,hw⟩:=hw;subst e1;cases r;obtain⟨its,rv,ht,hz⟩:=I.tuple hq;refine assign_Tuple_tuple (I.ok.hd hc) ht (by simp[hn,<- hl,rv.length]) hst λh' hx=>?_;have I1:Inv X pins σ H {s with heap:=h'}:=I.kept (t':=s.toks) λb o e=>hx b o (a_ (aP e)) e;exact h pins _ σ H xs _ Q I1 (by simpa using rv) hw
noncomputable def TF(to ti:TE)(t:xP):TG:=λv σ H Q=>to σ H λo H1=>ti σ H1 λi H2=>t o i v H2 λH3=>Q σ H3
theorem qx{o i:Expr}{to ti:TE}{t:xP}(ho:PE X o to)(hi:PE X i ti)(hs:Fx X t)
  (ha:∀v,assign (.Subscript o i pos) X.env v=(do
   let ov <- holding [v] (eval o X.env)
   let iv <- holding [v,ov] (eval i X.env)
   standAt pos
   holding [v,ov,iv] (setItem ov iv v)
   release [v,ov,iv] []):=by intro _;rfl):PG X (.Subscript o i pos) (TF to ti t):=by
 intro pins s σ H v u Q I r h;rw[ha];refine ae (fk (aC (ho pins s σ H _ I h) λov s1 ⟨x,H1,I1,r1,q1⟩=>?_));refine ae (fk (aC (hi pins s1 σ H1 _ I1 q1) λiv s2 ⟨y,H2,I2,r2,q2⟩=>?_));refine ae (xK (ae (fk (aC (hs pins s2 σ H2 x y v ov iv u _ I2 r1 r2 r q2) λ_ s3 ⟨H3,I3,q3⟩=>?_))));exact wpAny_release ⟨σ,H3,I3,q3⟩
noncomputable def qX(te:TE)(g:TG):TS:=λD σ H=>te σ H λx H1=>g x σ H1 D.nx
theorem qA{tg e:Expr}{te:TE}{g:TG}(he:PE X e te)(hg:PG X tg g)(hs:swapsWithSole [tg] e pos.line X.env=pure false:=by rfl)(hw:swappedStores [tg] e X.env=pure none:=by rfl)
  (h1:(assignEach [tg] X.env).map (·.2) = [assign tg X.env]:=by rfl):PS X (.Assign [tg] e pos) (qX te g):=by
 intro pins s σ H D I h;refine wpAny_Assign_stores (aC (he pins s σ H _ I h) λv s1 ⟨x,H1,I1,r1,q1⟩=>?_) hs hw;rw[h1];exact aC (hg pins s1 σ H1 x v _ I1 r1 q1) λ_ s2 q=>q
theorem aV{i:Nat}{x:Str}{e:Expr}{te:TE}{pos':Pos}(hN:X.N.Nodup)(hi:X.N[i]?=some x)(hx:Loc X.env.scope x)(he:PE X e te)(hs:swapsWith e (some (.Name x pos')) pos.line X.env=pure false:=by rfl)(hf:X.fn x=true\/X.env.scope.names.lookup x=some .local:=by first|exact .inl rfl|exact .inr rfl|assumption):
  PS X (.Assign [.Name x pos'] e pos) (qX te (bq i)):=by
 intro pins s σ H D I h;refine wpAny_Assign_Name (aC (he pins s σ H _ I h) λv s1 ⟨y,H1,I1,r1,q1⟩=>?_) hs;exact vK I1 hN hi hx r1 (λs2 I2=>⟨_,H1,I2,q1⟩) hf
noncomputable def aaB(i j:Nat)(ta:TA):TS:=λD σ H=>ta σ H λvs H1=>∃v w,vs = [v,w]/\D.nx ((σ.set i (some v)).set j (some w)) H1
theorem YQ{i j:Nat}{x y:Str}{a b:Expr}{ta:TA}{px py pt:Pos}{kt k2 Br}(hc:X.calm=true)(hN:X.N.Nodup)(hi:X.N[i]?=some x)(hj:X.N[j]?=some y)(hij:i≠j)(hx:X.env.scope.names.lookup x=some .local)(hy:X.env.scope.names.lookup y=some .local)(ha:PA X [a,b] ta)(hw:swappedStores [.Tuple [.Name x px,.Name y py] kt pt] (.Tuple [a,b] k2 Br) X.env=pure (some [x,y]))(hs:swapsWithSole [.Tuple [.Name x px,.Name y py] kt pt] (.Tuple [a,b] k2 Br) pos.line X.env=pure false:=by rfl):
  PS X (.Assign [.Tuple [.Name x px,.Name y py] kt pt] (.Tuple [a,b] k2 Br) pos) (aaB i j ta):=by
 intro pins s σ H D I h;rw[exec_Assign_arm];refine ae (xK ?_);rw[hs];refine ae (ak ?_);rw[if_neg (by decide)];refine ae (Tuple_ (aC (ha _ pins s σ H _ I h) λus s1 ⟨vs,H1,I1,r1,q1⟩=>?_));obtain⟨v,w,e1,q1⟩:=q1;subst e1;obtain⟨u1,u2,rfl,rv,lM⟩:∃u1 u2,us = [u1,u2]/\RelV v u1/\RelV w u2:=by
  cases r1 with
  |cons p q =>
   cases q with
   |cons p' q' =>
    cases q';exact⟨_,_,rfl,p,p'⟩
 refine ji ?_ (by show 2<=sizeLine;decide);have I2:Inv X pins σ H1 {s1 with heap:=s1.heap.push {cls:=.type "tuple", data:=.seq [u1,u2].toArray}}:=I1.kept (t':=s1.toks) λb o e=>aI _ e;rw[hw];refine ae (ak ?_);show wpAny (model X.prog X.w) X.A (do rule "assign.swapped-stores";let items <- unpackItems (.ref s1.heap.objs.size) 2 none;assignInOrder [λv=>bindName X.env y v,λv=>bindName X.env x v] items.reverse;pure Flow.next) _ _ _;refine ae (jk (ae (unpackItems_tuple (items:=#[u1,u2]) (I.ok.hd hc) (IsTup.new s1.heap _) λh' hx'=>?_)));have I3:=I2.kept (h':=h') (t':=s1.toks) λb o e=>hx' b o (a_ (aP e)) e;show wpAny _ _ (assignInOrder [λv=>bindName X.env y v,λv=>bindName X.env x v] [u2,u1]>>=λ_=>pure Flow.next) _ _ _;refine ae (assignInOrder_cons (wpAny_bindName (vK I3 hN hj (.inl hy) lM (λs2 I4=>?_) (.inr hy))));refine assignInOrder_cons (wpAny_bindName (vK I4 hN hi (.inl hx) rv (λs3 I5=>assignInOrder_nil (ak ?_)) (.inr hx)));rw[List.set_comm _ _ (b_ hij)]at I5;exact⟨_,H1,I5,q1⟩
noncomputable def aaH(c:TT)(tb:TS):TS:=λD σ H=>∃W:Nat->St->Hp->Prop,(∃m,W m σ H)/\∀m σ H,W m σ H ->
 c σ H λb H1=>if b=true then ∃N:St->Hp->Prop,(∀σ' H',N σ' H'->∃m',m'<m/\W m' σ' H')/\tb {D with nx:=N,ct:=N,bk:=D.nx} σ H1 else D.nx σ H1
theorem qE{c:Expr}{body:List Stmt}{tc:TT}{tb:TS}(hp:PassesOwn (model X.prog X.w) X.A X.env X.xe)(hc:PT X c tc)(hb:fj X body tb):PS X (.While c body [] pos) (aaH tc tb):=by
 intro pins s σ H D I h;obtain⟨W,⟨m0,w0⟩,turn⟩:=h;refine wpAny_While (codeAny_whileLoop (λn s'=>∃σ' H',Inv X pins σ' H' s'/\W n σ' H') ?_ m0 ⟨σ,H,I,w0⟩);rintro n s1 ⟨σ1,H1,I1,w1⟩;refine mO hp (aC (hc pins s1 σ1 H1 _ I1 (turn n σ1 H1 w1)) λb s2 ⟨H2,I2,q2⟩=>?_);cases b with
 |true =>
  obtain⟨N,hN,q2⟩:=q2;rw[if_pos rfl];refine mO hp (aC (hb pins s2 σ1 H2 _ I2 q2) λf s3 q3=>?_);cases f with
  |next =>
   obtain⟨σ3,H3,I3,n3⟩:=q3;obtain⟨m',hm,w3⟩:=hN σ3 H3 n3;exact⟨m',hm,σ3,H3,I3,w3⟩
  |cont =>
   obtain⟨σ3,H3,I3,n3⟩:=q3;obtain⟨m',hm,w3⟩:=hN σ3 H3 n3;exact⟨m',hm,σ3,H3,I3,w3⟩
  |brk=>exact q3
  |ret v=>exact q3
 |false =>
  rw[if_neg Bool.false_ne_true];exact xE ⟨σ1,H2,I2,q2⟩
end
structure It where
 go:Nat->Hp->Prop
 jX:Nat->Hp->V->Hp->Prop
 stop:Nat->Hp->Prop
noncomputable def cq(X:Cx)(pins:List (Addr × Obj))(H:Hp)(b:Addr):Prop:=
 H b=none/\b≠X.env.locals/\b ∉ X.fs/\(b∈X.ex\/X.s₀.heap.objs.size<=b)/\(∀x c,X.env.cells.lookup x=some c->c≠b)/\∀p∈X.pn++pins,p.1≠b
theorem Inv.km{X:Cx}{pins:List (Addr × Obj)}{σ:St}{H H':Hp}{s:Shared}{b:Addr}(I:Inv X pins σ H s)(hb:s.heap.objs.size<=b)(hn:H' b=none):cq X pins H' b:=by
 refine⟨hn,gF (dD I.lt hb),I.Xd hb,.inr (cp I.sz hb),λx c e z=>?_,λp hp z=>?_⟩
 ·obtain⟨v,q⟩:=I.cell x c e
  exact absurd (dD q.lt (by rw[z];exact hb)) (gE _)
 ·exact absurd (dD (aP (I.pin p hp).1) (by rw[z];exact hb)) (gE _)
structure Turn (P:Program) (w:World) (K:W.Frag) (tg:Expr) (J:It) (fp:List Addr) (it:Addr) (tn:Nat->Heap->Prop):Prop where
 mem:it∈fp
 obj:∀i h,tn i h->∀b∈fp,∃o,h.get? b=some o/\∀v,o.data≠.cell v
 keep:∀i h h',tn i h->(∀b∈fp,∀o,h.get? b=some o->h'.get? b=some o)->tn i h'
 item:∀(X:Cx),X.prog=P->X.w=w->X.K=K->X.calm=true->∀(i:Nat) (pins:List (Addr × Obj)) (s:Shared) (σ:St) (H:Hp) (E:Value->Shared->Prop),Inv X pins σ H s->(∀b∈fp,cq X pins H b)->tn i s.heap->J.go i H ->
  wpAny (model P w) X.A (pyNext (.ref it)) (λr s1=>∃u,r=some u /\
   wpAny (model P w) X.A (letOwnedTupleGo tg (.ref it) u) (λ_ s2=>∃x H',Inv X pins σ H' s2/\RelV x u/\J.jX i H x H'/\tn (i+1) s2.heap/\∀b∈fp,H' b=none) E s1) E s
 done:∀(X:Cx),X.prog=P->X.w=w->X.K=K->X.calm=true->∀(i:Nat) (pins:List (Addr × Obj)) (s:Shared) (σ:St) (H:Hp) (E:Value->Shared->Prop),Inv X pins σ H s->(∀b∈fp,cq X pins H b)->tn i s.heap->J.stop i H ->
  wpAny (model P w) X.A (pyNext (.ref it)) (λr s1=>r=none/\Inv X pins σ H s1) E s
 self:∀(A:Around) (i:Nat) (s:Shared) (Q:Value->Shared->Prop) (E:Value->Shared->Prop),tn i s.heap->Q (.ref it) s->wpAny (model P w) A (pyIter (.ref it)) Q E s
abbrev TI:=St->Hp->(It->Hp->Prop)->Prop
noncomputable def PIE(X:Cx)(pins:List (Addr × Obj))(σ:St)(tg:Expr)(R:It->Hp->Prop)(itv:Value)(s2:Shared):Prop:=
 ∃(it:Addr) (fp:List Addr) (tn:Nat->Heap->Prop) (J:It) (H':Hp),itv = .ref it/\Inv X pins σ H' s2/\Turn X.prog X.w X.K tg J fp it tn/\tn 0 s2.heap/\(∀b∈fp,cq X pins H' b)/\R J H'
noncomputable def PI(X:Cx)(tg iter:Expr)(wi:TI):Prop:=
 ∀(pins:List (Addr × Obj)) (s:Shared) (σ:St) (H:Hp) (R:It->Hp->Prop),Inv X pins σ H s->wi σ H R ->
  wpAny (model X.prog X.w) X.A (eval iter X.env) (λv s1=>wpAny (model X.prog X.w) X.A (pyIter v) (PIE X pins σ tg R) X.xe s1) X.xe s
theorem tN{M:Model}{A:Around}{E:Value->Shared->Prop}{s:Shared}{tg:Expr}{it:Addr}{u:Value}{o:Obj}{n:String}{vs:Array Value}{Q:Unit->Shared->Prop}(ho:s.heap.get? it=some o)(hc:o.cls = .type n)(hd:o.data = .fields vs)
  (hn:["enumerate","zip","dict_itemiterator","dict_reverseitemiterator","odict_iterator","itertools.zip_longest","itertools.pairwise"].contains n=false) (hQ:Q () s):wpAny M A (letOwnedTupleGo tg (.ref it) u) Q E s:=by
 unfold letOwnedTupleGo;cases tg<;>first
  |exact ak hQ
  | (cases u<;>first
    |exact ak hQ
    | (refine ae (wpAny_load ho ?_);rw[hc,hd];show wpAny M A (if(["enumerate","zip","dict_itemiterator","dict_reverseitemiterator","odict_iterator","itertools.zip_longest","itertools.pairwise"].contains n&&vs[0]?==some (rawInt _))=true then _ else _) Q E s;rw[if_neg (by intro h;rw[hn,lY]at h;cases h)];exact ak hQ))
noncomputable def kO(K:W.Frag)(a:Addr):It:=
 ⟨λi H=>∃xs x,ai K H a xs/\xs[i]?=some x,λi H x H'=>H'=H/\∀xs,ai K H a xs->xs[i]?=some x,λi H=>∃xs,ai K H a xs/\xs.length<=i⟩
noncomputable def kP(K:W.Frag)(a:Addr):It:=
 ⟨λi H=>∃xs x,ax K H a xs/\xs[i]?=some x,λi H x H'=>H'=H/\∀xs,ax K H a xs->xs[i]?=some x,λi H=>∃xs,ax K H a xs/\xs.length<=i⟩
noncomputable def j6(lo:Int)(n:Nat):It:=⟨λi _=>i<n,λi H x H'=>H'=H/\x = .int (lo+i),λi _=>n<=i⟩
theorem aaP{P:Program}{w:World}{K:W.Frag}{tg:Expr}(a it:Addr):Turn P w K tg (kO K a) [it] it (λi h=>h.IsListIter it a i) where
 mem:=by simp
 obj:=λi h st b hb=>by
  have e:b=it:=by simpa using hb
  subst e;obtain⟨o,e,c,d⟩:=st;exact⟨o,e,λv z=>by rw[d]at z;cases z⟩
 keep:=λi h h' st k=>st.at λo e=>k it (by simp) o e
 item:=by
  intro X hP hw hK hc i pins s σ H E I hf st hg;subst hP hw hK;obtain⟨xs,x,hq,hx⟩:=hg;obtain⟨its,rv,p,hz⟩:=I.list hq;obtain⟨u,hu,ru⟩:=rv.get hx;obtain⟨f0,f1,f2,f3,f4,f5⟩:=hf it (by simp);refine wpAny_pyNext_list_item st p.isList (x:=u) (by simpa using hu) λh' st' sb=>?_;have I1:Inv X pins σ H {s with heap:=h'}:=I.turned (t':=s.toks) (λb o hb e=>(sb.2 b hb).trans e) f0 f1 f3 f4 f5;obtain⟨o,e,c,d⟩:=id st';exact⟨u,rfl,tN (s:={s with heap:=h'}) e c d (by decide) ⟨x,H,I1,ru,⟨rfl,λys hy=>by rw[I.Ao hy hq];exact hx⟩,st',λb hb=>(hf b hb).1⟩⟩
 done:=by
  intro X hP hw hK hc i pins s σ H E I hf st hg;subst hP hw hK;obtain⟨xs,hq,hx⟩:=hg;obtain⟨its,rv,p,hz⟩:=I.list hq;obtain⟨f0,f1,f2,f3,f4,f5⟩:=hf it (by simp);have hl:=rv.length;exact wpAny_pyNext_list_end (I.ok.hd hc) st p.isList (by simp;omega) λh' eb=>⟨rfl,I.turned (t':=s.toks) (λb o hb e=>eb b o hb e) f0 f1 f3 f4 f5⟩
 self:=λ_ _ _ _ _ st h=>wpAny_pyIter_listiter st h
theorem aaS{P:Program}{w:World}{K:W.Frag}{tg:Expr}(a it:Addr):Turn P w K tg (kP K a) [it] it (λi h=>h.IsTupleIter it a i) where
 mem:=by simp
 obj:=λi h st b hb=>by
  have e:b=it:=by simpa using hb
  subst e;obtain⟨o,e,c,d⟩:=st;exact⟨o,e,λv z=>by rw[d]at z;cases z⟩
 keep:=λi h h' st k=>st.at λo e=>k it (by simp) o e
 item:=by
  intro X hP hw hK hc i pins s σ H E I hf st hg;subst hP hw hK;obtain⟨xs,x,hq,hx⟩:=hg;obtain⟨its,rv,p,hz⟩:=I.tuple hq;obtain⟨u,hu,ru⟩:=rv.get hx;obtain⟨f0,f1,f2,f3,f4,f5⟩:=hf it (by simp);refine wpAny_pyNext_tuple_item st (show s.heap.IsTuple a its.toArray from p) (x:=u) (by simpa using hu) λh' st' sb=>?_;have I1:Inv X pins σ H {s with heap:=h'}:=I.turned (t':=s.toks) (λb o hb e=>(sb.2 b hb).trans e) f0 f1 f3 f4 f5;obtain⟨o,e,c,d⟩:=id st';exact⟨u,rfl,tN (s:={s with heap:=h'}) e c d (by decide) ⟨x,H,I1,ru,⟨rfl,λys hy=>by rw[I.Dw hy hq];exact hx⟩,st',λb hb=>(hf b hb).1⟩⟩
 done:=by
  intro X hP hw hK hc i pins s σ H E I hf st hg;subst hP hw hK;obtain⟨xs,hq,hx⟩:=hg;obtain⟨its,rv,p,hz⟩:=I.tuple hq;obtain⟨f0,f1,f2,f3,f4,f5⟩:=hf it (by simp);have hl:=rv.length;exact wpAny_pyNext_tuple_end (I.ok.hd hc) st (show s.heap.IsTuple a its.toArray from p) (by simp;omega) λh' eb=>⟨rfl,I.turned (t':=s.toks) (λb o hb e=>eb b o hb e) f0 f1 f3 f4 f5⟩
 self:=λ_ _ _ _ _ st h=>wpAny_pyIter_tupleiter st h
theorem aaQ{P:Program}{w:World}{K:PySem.W.Frag}{tg:Expr}(it:Addr)(lo:Int)(n:Nat):Turn P w K tg (j6 lo n) [it] it (λi h=>IsRangeIter h it (lo+(i:Nat)*1) ((n:Int) - (i:Nat)) 1) where
 mem:=by simp
 obj:=λi h st b hb=>by
  have e:b=it:=by simpa using hb
  subst e;exact⟨_,st,λv z=>by
   have z':Data.fields _=Data.cell v:=z;cases z'⟩
 keep:=λi h h' st k=>k it (by simp) _ st
 item:=by
  intro X hP hw hK hc i pins s σ H E I hf st hg;subst hP hw hK;obtain⟨f0,f1,f2,f3,f4,f5⟩:=hf it (by simp);have W:=Walks.range (prog:=X.prog) (w:=X.w) (I.ok.hd hc) it lo 1 n;refine W.item i s _ _ hg st λv h' tk hv st' kk=>?_;obtain⟨t,rfl⟩:=hv;have I1:Inv X pins σ H {s with heap:=h',toks:=tk}:=I.turned (λb o hb e=>kk b o (by simpa using hb) e) f0 f1 f3 f4 f5;refine⟨_,rfl,tN (s:={s with heap:=h',toks:=tk}) (n:= "range_iterator") st' rfl rfl (by decide) ⟨.int (lo+i),H,I1,⟨t,?_⟩,⟨rfl,rfl⟩,st',λb hb=>(hf b hb).1⟩⟩;rw[Int.mul_one]
 done:=by
  intro X hP hw hK hc i pins s σ H E I hf st hg;subst hP hw hK;obtain⟨f0,f1,f2,f3,f4,f5⟩:=hf it (by simp);exact wpAny_pyNext_range_end (I.ok.hd hc) st (by have:n<=i:=hg;omega) λh' eb=>⟨rfl,I.turned (t':=s.toks) (λb o hb e=>eb b o hb e) f0 f1 f3 f4 f5⟩
 self:=λ_ _ _ _ _ st h=>wpAny_pyIter_rangeiter st h
section
variable {X:Cx} {tg:Expr}
noncomputable def Jr(K:W.Frag)(tl:TE):TI:=λσ H R=>tl σ H λx H1=>∃a,x = .ref a/\(∃xs,ai K H1 a xs)/\R (kO K a) H1
noncomputable def Js(K:W.Frag)(tl:TE):TI:=λσ H R=>tl σ H λx H1=>∃a,x = .ref a/\(∃xs,ax K H1 a xs)/\R (kP K a) H1
theorem Yz{l:Expr}{tl:TE}(hl:PE X l tl):PI X tg l (Jr X.K tl):=by
 intro pins s σ H R I h;refine aC (hl pins s σ H _ I h) λv s1 ⟨x,H1,I1,r1,q1⟩=>?_;obtain⟨a,e,⟨xs,hq⟩,q⟩:=q1;subst e;cases r1;obtain⟨its,rv,p,hz⟩:=I1.list hq;refine pk p.isList ?_;refine⟨s1.heap.objs.size,[s1.heap.objs.size],_,_,H1,rfl,I1.kept (t':=s1.toks) λb o e=>aI _ e,aaP a _,⟨_,bf _ rfl,rfl,rfl⟩,λb hb=>?_,q⟩;have e:b=s1.heap.objs.size:=by simpa using hb
 subst e;exact I1.km (aH _) (I1.hok.fresh (aH _))
theorem YC{l:Expr}{tl:TE}(hl:PE X l tl):PI X tg l (Js X.K tl):=by
 intro pins s σ H R I h;refine aC (hl pins s σ H _ I h) λv s1 ⟨x,H1,I1,r1,q1⟩=>?_;obtain⟨a,e,⟨xs,hq⟩,q⟩:=q1;subst e;cases r1;obtain⟨its,rv,p,hz⟩:=I1.tuple hq;refine wpAny_pyIter_tuple (show s1.heap.IsTuple a its.toArray from p) ?_;refine⟨s1.heap.objs.size,[s1.heap.objs.size],_,_,H1,rfl,I1.kept (t':=s1.toks) λb o e=>aI _ e,aaS a _,⟨_,bf _ rfl,rfl,rfl⟩,λb hb=>?_,q⟩;have e:b=s1.heap.objs.size:=by simpa using hb
 subst e;exact I1.km (aH _) (I1.hok.fresh (aH _))
theorem M0{pins:List (Addr × Obj)}{σ:St}{H:Hp}{s:Shared}{R:It->Hp->Prop}{E:Value->Shared->Prop}{lo hi:Int}{t u v:Tok}{tk:Nat}(I:Inv X pins σ H s)(h1:-(2 ^ 62)<=lo)(h2:lo<2 ^ 62)(h3:-(2 ^ 62)<=hi)(h4:hi<2 ^ 62)
  (q:R (j6 lo (hi - lo).toNat) H):wpAny (model X.prog X.w) X.A (pyIter (.ref s.heap.objs.size)) (PIE X pins σ tg R) E {s with heap:=s.heap.push {cls:=.type "range", data:=.fields #[.int lo t,.int hi u,.int 1 v]},toks:=tk}:=by
 refine wpAny_pyIter_range (IsRange.new ..) (small_one h1 h2 h3 h4) ?_;have I1:Inv X pins σ H {s with heap:=s.heap.push {cls:=.type "range", data:=.fields #[.int lo t,.int hi u,.int 1 v]},toks:=tk}:=I.kept λb o e=>aI _ e;refine⟨(s.heap.push {cls:=.type "range", data:=.fields #[.int lo t,.int hi u,.int 1 v]}).objs.size,[(s.heap.push {cls:=.type "range", data:=.fields #[.int lo t,.int hi u,.int 1 v]}).objs.size],_,_,H,rfl,
  I1.kept (t':=tk) λb o e=>aI _ e,aaQ _ lo (hi - lo).toNat,?_,λb hb=>?_,q⟩
 ·have e1:lo+((0:Nat):Int)*1=lo:=by simp
  have e2:(((hi - lo).toNat:Nat):Int) - ((0:Nat):Int)=Builtin.Range.rangeSize lo hi 1:=by rw[rangeSize_one];split<;>omega
  show IsRangeIter _ _ (lo+((0:Nat):Int)*1) ((((hi - lo).toNat:Nat):Int) - ((0:Nat):Int)) 1;rw[e1,e2];exact bf _ rfl
 ·have e:b=(s.heap.push {cls:=.type "range", data:=.fields #[.int lo t,.int hi u,.int 1 v]}).objs.size:=by simpa using hb
  subst e;exact I1.km (aH _) (I1.hok.fresh (aH _))
noncomputable def Vr(ta:TA):TI:=λσ H R=>ta σ H λvs H1=>∃j:Int,vs = [.int j]/\-(2 ^ 62)<=j/\j<2 ^ 62/\R (j6 0 j.toNat) H1
noncomputable def Vs(ta:TA):TI:=λσ H R=>ta σ H λvs H1=>∃i j:Int,vs = [.int i,.int j]/\(-(2 ^ 62)<=i/\i<2 ^ 62/\-(2 ^ 62)<=j/\j<2 ^ 62)/\R (j6 i (j - i).toNat) H1
theorem dI {a:Expr} {ta:TA} {p pos:Pos} (hg:Gl X "range") (hm:X.mg "range" = none) (ha:PA X [a] ta) (hs:starEach [a] X.env = [(false,eval a X.env)]:=by rfl):PI X tg (.Call (.Name "range" p) [a] [] pos) (Vr ta):=by
 intro pins s σ H R I h;refine Call_ (iR I hg hm boot_range (o8 (aC (ha pos pins s σ H _ I h) λus s1 ⟨vs,H1,I1,r1,q1⟩=>?_) hs rfl));obtain⟨j,e,q1,q2,q⟩:=q1;subst e;cases r1 with
 |cons r rr =>
  cases rr;obtain⟨t,rfl⟩:=r;exact call_range_1 (M0 I1 (by omega) (by omega) q1 q2 (by simpa using q))
theorem Bp {a b:Expr} {ta:TA} {p pos:Pos} (hg:Gl X "range") (hm:X.mg "range" = none) (ha:PA X [a,b] ta) (hs:starEach [a,b] X.env = [(false,eval a X.env),(false,eval b X.env)]:=by rfl) (hs2:starEach [b] X.env = [(false,eval b X.env)]:=by rfl) :
  PI X tg (.Call (.Name "range" p) [a,b] [] pos) (Vs ta):=by
 intro pins s σ H R I h;refine Call_ (iR I hg hm boot_range (o8 (aC (ha pos pins s σ H _ I h) λus s1 ⟨vs,H1,I1,r1,q1⟩=>?_) (by rw[hs,hs2]) (by rw[hs2];rfl)));obtain⟨i,j,e,⟨q1,q2,q3,q4⟩,q⟩:=q1;subst e;cases r1 with
 |cons r rr =>
  cases rr with
  |cons r' rr =>
   cases rr;obtain⟨t,rfl⟩:=r;obtain⟨t',rfl⟩:=r';exact call_range_2 (M0 I1 q1 q2 q3 q4 q)
noncomputable def aau(wi:TI)(g:TG)(tb:TS):TS:=λD σ H=>wi σ H λJ H1=>∃W:Nat->Nat->St->Hp->Prop,(∃m,W 0 m σ H1)/\∀i m σ H,W i m σ H ->
 (J.stop i H/\D.nx σ H)\/(J.go i H/\∃N:St->Hp->Prop,(∀σ' H',N σ' H'->∃m',m'<m/\W (i+1) m' σ' H')/\∀x H',J.jX i H x H'->g x σ H' λσ2 H2=>tb {D with nx:=N,ct:=N,bk:=D.nx} σ2 H2)
noncomputable def qy(fp:List Addr)(h:Heap):List (Addr × Obj):=fp.filterMap λb=>(h.get? b).map λo=>(b,o)
theorem uc{fp:List Addr}{h:Heap}{b:Addr}{o:Obj}(hb:b∈fp)(e:h.get? b=some o):(b,o)∈qy fp h:=List.mem_filterMap.mpr ⟨b,hb,by rw[e];rfl⟩
theorem Xg{fp:List Addr}{h:Heap}{p:Addr × Obj}(hp:p∈qy fp h):p.1∈fp/\h.get? p.1=some p.2:=by
 obtain⟨b,hb,e⟩:=List.mem_filterMap.mp hp;cases q:h.get? b with
 |none=>rw[q]at e;cases e
 |some o =>
  rw[q]at e;have e':(b,o)=p:=df e;subst e';exact⟨hb,q⟩
theorem Inv.pinned{pins:List (Addr × Obj)}{σ:St}{H:Hp}{s:Shared}{fp:List Addr}(I:Inv X pins σ H s)(hf:∀b∈fp,cq X pins H b)(ho:∀b∈fp,∃o,s.heap.get? b=some o/\∀v,o.data≠.cell v):Inv X (pins++qy fp s.heap) σ H s:=
 I.qz λp hp=>(iz.mp hp).elim (λz=>I.pin p (eI _ z)) λz=>by
  obtain⟨hb,e⟩:=Xg z;obtain⟨f0,f1,f2,_⟩:=hf p.1 hb;obtain⟨o,e',d⟩:=ho p.1 hb;rw[e]at e';cases e';exact⟨e,f0,f1,f2,d⟩
theorem Inv.vS{pins pl:List (Addr × Obj)}{σ:St}{H:Hp}{s:Shared}(I:Inv X (pins++pl) σ H s):Inv X pins σ H s:=I.qz λp hp=>I.pin p (eI _ (List.mem_append_left _ hp))
theorem cD{iter:Expr}{body:List Stmt}{wi:TI}{g:TG}{tb:TS}{pos:Pos}(hp:PassesOwn (model X.prog X.w) X.A X.env X.xe)(hc:X.calm=true)(hi:PI X tg iter wi)(hg:PG X tg g)(hb:fj X body tb)(hs:∀x,foldedSetIterable iter X.env x=pure x:=by intro _;rfl):PS X (.For tg iter body [] pos) (aau wi g tb):=by
 intro pins s σ H D I h;refine wpAny_For (aC (hi pins s σ H _ I h) λv s1 h1=>aC h1 λitv s2 h2=>?_) hs;obtain⟨it,fp,tn,J,H2,e,I2,T,st2,f2,W,⟨m0,w0⟩,turn⟩:=h2;subst e;have stat:∀{H':Hp},(∀b∈fp,H' b=none)->∀b∈fp,cq X pins H' b:=λhn b hb=>⟨hn b hb,(f2 b hb).2⟩;refine codeAny_forLoop_any (λn s'=>∃i σ' H',Inv X pins σ' H' s'/\tn i s'.heap/\(∀b∈fp,H' b=none)/\W i n σ' H') ?_ m0 ⟨0,σ,H2,I2,st2,λb hb=>(f2 b hb).1,w0⟩;rintro n s3 ⟨i,σ3,H3,I3,st3,pV,w3⟩
 rcases turn i n σ3 H3 w3 with⟨stop,qn⟩|⟨go,N,hN,step⟩
 ·refine mO hp (aC (T.done X rfl rfl rfl hc i pins s3 σ3 H3 X.xe I3 (stat pV) st3 stop) λr s4 ⟨hr,I4⟩=>?_)
  subst hr;exact xE ⟨σ3,H3,I4,qn⟩
 ·refine mO hp (aC (T.item X rfl rfl rfl hc i pins s3 σ3 H3 X.xe I3 (stat pV) st3 go) λr s4 ⟨u,hr,h4⟩=>?_)
  subst hr;refine mO hp (aC h4 λ_ s5 ⟨x,H5,I5,r5,y5,iT,zq⟩=>?_);have wo:=I5.pinned (stat zq) (T.obj _ _ iT);refine mO hp (aC (hg _ s5 σ3 H5 x u _ wo r5 (step x H5 y5)) λ_ s6 ⟨σ6,H6,I6,q6⟩=>?_);refine mO hp (aC (hb _ s6 σ6 H6 _ I6 q6) λf s7 q7=>?_);have again:∀{σ7:St} {H7:Hp},Inv X (pins++qy fp s5.heap) σ7 H7 s7->N σ7 H7->∃m,m<n/\∃i σ' H',Inv X pins σ' H' s7/\tn i s7.heap/\(∀b∈fp,H' b=none)/\W i m σ' H':=λ{σ7 H7} I7 n7=>by
   obtain⟨m',hm,w7⟩:=hN σ7 H7 n7;refine⟨m',hm,i+1,σ7,H7,I7.vS,T.keep _ _ _ iT λb hb o e=>(I7.pin (b,o) (eI _ (eI _ (uc hb e)))).1,λb hb=>?_,w7⟩;obtain⟨o,e,d⟩:=T.obj _ _ iT b hb;exact(I7.pin (b,o) (eI _ (eI _ (uc hb e)))).2.1
  cases f with
  |next=>obtain⟨σ7,H7,I7,n7⟩:=q7;exact again I7 n7
  |cont=>obtain⟨σ7,H7,I7,n7⟩:=q7;exact again I7 n7
  |brk=>obtain⟨σ7,H7,I7,q7⟩:=q7;exact⟨σ7,H7,I7.vS,q7⟩
  |ret v=>obtain⟨x7,σ7,H7,I7,r7,q7⟩:=q7;exact⟨x7,σ7,H7,I7.vS,r7,q7⟩
end
theorem jE{K:PySem.W.Frag}{a:Addr}{xs:List V}{g:TG}{tb:TS}{D:Ends}{σ:St}{H:Hp}(Pv:Nat->St->Hp->Prop)(h0:Pv 0 σ H)(hl:∀i σ H,i<=xs.length->Pv i σ H->ai K H a xs)
  (hs:∀i x σ H,xs[i]?=some x->Pv i σ H->g x σ H λσ2 H2=>tb {D with nx:=Pv (i+1),ct:=Pv (i+1),bk:=D.nx} σ2 H2) (hd:∀σ H,Pv xs.length σ H->D.nx σ H) :
  ∃W:Nat->Nat->St->Hp->Prop,(∃m,W 0 m σ H)/\∀i m σ H,W i m σ H ->
   ((kO K a).stop i H/\D.nx σ H)\/((kO K a).go i H/\∃N:St->Hp->Prop,(∀σ' H',N σ' H'->∃m',m'<m/\W (i+1) m' σ' H')/\∀x H',(kO K a).jX i H x H'->g x σ H' λσ2 H2=>tb {D with nx:=N,ct:=N,bk:=D.nx} σ2 H2):=by
 refine⟨λi m σ H=>m=xs.length - i/\i<=xs.length/\Pv i σ H,⟨xs.length,by simp,bM _,h0⟩,?_⟩;rintro i m σ H ⟨rfl,hi,p⟩;have q:=hl i σ H hi p
 by_cases hlt:i<xs.length
 ·refine .inr ⟨⟨xs,xs[i],q,by simp[hlt]⟩,Pv (i+1),λσ' H' p'=>⟨xs.length - (i+1),by omega,rfl,hlt,p'⟩,λx H' y=>?_⟩
  obtain⟨e,y⟩:=y;subst e;exact hs i x σ _ (y xs q) p
 ·have e:i=xs.length:=by omega
  subst e;exact .inl ⟨⟨xs,q,aH _⟩,hd σ H p⟩
theorem Ib{K:PySem.W.Frag}{a:Addr}{xs:List V}{g:TG}{tb:TS}{D:Ends}{σ:St}{H:Hp}(Pv:Nat->St->Hp->Prop)(h0:Pv 0 σ H)(hl:∀i σ H,i<=xs.length->Pv i σ H->ax K H a xs)
  (hs:∀i x σ H,xs[i]?=some x->Pv i σ H->g x σ H λσ2 H2=>tb {D with nx:=Pv (i+1),ct:=Pv (i+1),bk:=D.nx} σ2 H2) (hd:∀σ H,Pv xs.length σ H->D.nx σ H) :
  ∃W:Nat->Nat->St->Hp->Prop,(∃m,W 0 m σ H)/\∀i m σ H,W i m σ H ->
   ((kP K a).stop i H/\D.nx σ H)\/((kP K a).go i H/\∃N:St->Hp->Prop,(∀σ' H',N σ' H'->∃m',m'<m/\W (i+1) m' σ' H')/\∀x H',(kP K a).jX i H x H'->g x σ H' λσ2 H2=>tb {D with nx:=N,ct:=N,bk:=D.nx} σ2 H2):=by
 refine⟨λi m σ H=>m=xs.length - i/\i<=xs.length/\Pv i σ H,⟨xs.length,by simp,bM _,h0⟩,?_⟩;rintro i m σ H ⟨rfl,hi,p⟩;have q:=hl i σ H hi p
 by_cases hlt:i<xs.length
 ·refine .inr ⟨⟨xs,xs[i],q,by simp[hlt]⟩,Pv (i+1),λσ' H' p'=>⟨xs.length - (i+1),by omega,rfl,hlt,p'⟩,λx H' y=>?_⟩
  obtain⟨e,y⟩:=y;subst e;exact hs i x σ _ (y xs q) p
 ·have e:i=xs.length:=by omega
  subst e;exact .inl ⟨⟨xs,q,aH _⟩,hd σ H p⟩
theorem hZ{lo:Int}{n:Nat}{g:TG}{tb:TS}{D:Ends}{σ:St}{H:Hp}(Pv:Nat->St->Hp->Prop)(h0:Pv 0 σ H)
  (hs:∀i σ H,i<n->Pv i σ H->g (.int (lo+i)) σ H λσ2 H2=>tb {D with nx:=Pv (i+1),ct:=Pv (i+1),bk:=D.nx} σ2 H2) (hd:∀σ H,Pv n σ H->D.nx σ H) :
  ∃W:Nat->Nat->St->Hp->Prop,(∃m,W 0 m σ H)/\∀i m σ H,W i m σ H ->
   ((j6 lo n).stop i H/\D.nx σ H)\/((j6 lo n).go i H/\∃N:St->Hp->Prop,(∀σ' H',N σ' H'->∃m',m'<m/\W (i+1) m' σ' H')/\∀x H',(j6 lo n).jX i H x H'->g x σ H' λσ2 H2=>tb {D with nx:=N,ct:=N,bk:=D.nx} σ2 H2):=by
 refine⟨λi m σ H=>m=n - i/\i<=n/\Pv i σ H,⟨n,by simp,bM _,h0⟩,?_⟩;rintro i m σ H ⟨rfl,hi,p⟩
 by_cases hlt:i<n
 ·refine .inr ⟨hlt,Pv (i+1),λσ' H' p'=>⟨n - (i+1),by omega,rfl,hlt,p'⟩,λx H' y=>?_⟩
  obtain⟨e,y⟩:=y;subst e y;exact hs i σ _ hlt p
 ·have e:i=n:=by omega
  subst e;exact .inl ⟨aH _,hd σ H p⟩
abbrev R2:=V->V->Hp->VK->Prop
noncomputable def bS(X:Cx)(f:Value->Value->Sem Value)(r:R2):Prop:=
 ∀(pins:List (Addr × Obj)) (s:Shared) (σ:St) (H:Hp) (x y:V) (v u:Value) (Q:VK),Inv X pins σ H s->RelV x v->RelV y u->r x y H Q ->
  wpAny (model X.prog X.w) X.A (f v u) (EP X pins σ Q) X.xe s
noncomputable def cX(X:Cx)(f:Value)(r:List V->Hp->VK->Prop):Prop:=
 ∀(pins:List (Addr × Obj)) (s:Shared) (σ:St) (H:Hp) (xs:List V) (us:List Value) (Q:VK),Inv X pins σ H s->Vals xs us->r xs H Q ->
  wpAny (model X.prog X.w) X.A (call f us) (EP X pins σ Q) X.xe s
noncomputable def vN(r:R2)(ta tb:TE):TE:=λσ H Q=>ta σ H λx H1=>tb σ H1 λy H2=>r x y H2 Q
noncomputable def rI(C:Int->Int->Prop)(g:Int->Int->V):R2:=λx y H Q=>∃i j,x = .int i/\y = .int j/\C i j/\Q (g i j) H
noncomputable def jR(g:Int->Int->V):R2:=λx y H Q=>∃i j,x = .int i/\y = .int j/\Q (g i j) H
section
variable {X:Cx} {a b c:Expr} {ta tb tc:TE} {pos:Pos}
theorem xY(ha:PE X a ta)(hb:PE X b tb){pins:List (Addr × Obj)}{s:Shared}{σ:St}{H:Hp}{R:V->V->Hp->Prop}(I:Inv X pins σ H s)(h:ta σ H λx H1=>tb σ H1 λy H2=>R x y H2){Q:Value->Shared->Prop}{f:Value->Value->Sem Value}(hf:∀v u s2 x y H2,Inv X pins σ H2 s2->RelV x v->RelV y u->R x y H2->wpAny (model X.prog X.w) X.A (f v u) Q X.xe s2):wpAny (model X.prog X.w) X.A (eval a X.env) (λv s₁=>wpAny (model X.prog X.w) X.A (eval b X.env) (λu s₂=>wpAny (model X.prog X.w) X.A (f v u) Q X.xe s₂) X.xe s₁) X.xe s:=by
 refine aC (ha pins s σ H _ I h) λv s1 ⟨x,H1,I1,r1,q1⟩=>?_;refine aC (hb pins s1 σ H1 _ I1 q1) λu s2 ⟨y,H2,I2,r2,q2⟩=>?_;exact hf v u s2 x y H2 I2 r1 r2 q2
theorem aO{op:Operator}{r:R2}(ho:bS X (binaryOp op) r)(ha:PE X a ta)(hb:PE X b tb):PE X (.BinOp a op b pos) (vN r ta tb):=by
 intro pins s σ H Q I h;exact wpAny_BinOp (xY ha hb I h λv u s2 x y H2 I2 rx ry q=>ho pins s2 σ H2 x y v u Q I2 rx ry q)
theorem uv{f:Value->Value->Sem Value}{C:Int->Int->Prop}{g:Int->Int->Int}
  (rule:∀(i j:Int) (t u:Tok) (s:Shared) (Q:Value->Shared->Prop) (E:Value->Shared->Prop),C i j->Q (.int (g i j) s.toks) {s with toks:=s.toks+1}->wpAny (model X.prog X.w) X.A (f (.int i t) (.int j u)) Q E s) :
  bS X f (rI C λi j=>.int (g i j)):=by
 intro pins s σ H x y v u Q I rx ry h;obtain⟨i,j,rfl,rfl,hc,q⟩:=h;obtain⟨t,rfl⟩:=rx;obtain⟨t',rfl⟩:=ry;exact rule i j t t' s _ _ hc ⟨.int (g i j),H,I.tok _,⟨_,rfl⟩,q⟩
theorem Bf{f:Value->Value->Sem Value}{g:Int->Int->Int}
  (rule:∀(i j:Int) (t u:Tok) (s:Shared) (Q:Value->Shared->Prop) (E:Value->Shared->Prop),Q (.int (g i j) s.toks) {s with toks:=s.toks+1}->wpAny (model X.prog X.w) X.A (f (.int i t) (.int j u)) Q E s) :
  bS X f (jR λi j=>.int (g i j)):=by
 intro pins s σ H x y v u Q I rx ry h;obtain⟨i,j,rfl,rfl,q⟩:=h;obtain⟨t,rfl⟩:=rx;obtain⟨t',rfl⟩:=ry;exact rule i j t t' s _ _ ⟨.int (g i j),H,I.tok _,⟨_,rfl⟩,q⟩
theorem ur{f:Value->Value->Sem Value}{g:Int->Int->Bool}(rule:∀(i j:Int) (t u:Tok) (s:Shared) (Q:Value->Shared->Prop) (E:Value->Shared->Prop),Q (.bool (g i j)) s->wpAny (model X.prog X.w) X.A (f (.int i t) (.int j u)) Q E s):bS X f (jR λi j=>.bl (g i j)):=by
 intro pins s σ H x y v u Q I rx ry h;obtain⟨i,j,rfl,rfl,q⟩:=h;obtain⟨t,rfl⟩:=rx;obtain⟨t',rfl⟩:=ry;exact rule i j t t' s _ _ ⟨.bl (g i j),H,I,rfl,q⟩
noncomputable def Qe(i j:Int):Prop:=0<j/\j<1073741824
noncomputable def Qf(i j:Int):Prop:=0<=j/\j<=1000000/\i.natAbs<2 ^ 64
noncomputable def qZ(i j:Int):Prop:=(-(2 ^ 64)<i/\i<2 ^ 64)\/(-(2 ^ 64)<j/\j<2 ^ 64)
theorem qZ.ok{i j:Int}(h:qZ i j):IntMulOk i j:=by
 rcases h with⟨h1,h2⟩|⟨h1,h2⟩
 ·exact .of_left (intBits_le_64 h1 h2)
 ·exact .of_right (intBits_le_64 h1 h2)
theorem eh:bS X (binaryOp .Add) (jR λi j=>.int (i+j)):=Bf λ_ _ _ _ _ _ _ q=>add_int q
theorem LK:bS X (binaryOp .Sub) (jR λi j=>.int (i - j)):=Bf λ_ _ _ _ _ _ _ q=>sub_int q
theorem eu:bS X (binaryOp .Mult) (rI qZ λi j=>.int (i*j)):=uv λ_ _ _ _ _ _ _ hc q=>mul_int q hc.ok
theorem lJ:bS X (binaryOp .FloorDiv) (rI Qe λi j=>.int (i / j)):=uv λi j _ _ _ _ _ hc q=>by
 have h1:(0:Int)<j:=hc.1;have h2:j<1073741824:=hc.2;exact floordiv_int (by omega) (by rw[Int.fdiv_eq_ediv_of_nonneg i (by omega)];exact q) (.inl (PyProof.noPylong_small (by omega)))
theorem dv:bS X (binaryOp .Mod) (rI (λ_ j=>0<j) λi j=>.int (i % j)):=uv λi j _ _ _ _ _ hc q=>by
 have h1:(0:Int)<j:=hc;exact mod_int' (by omega) (by rw[Int.fmod_eq_emod_of_nonneg i (by omega)];exact q)
theorem X6:bS X (binaryOp .Pow) (rI Qf λi j=>.int (i ^ j.toNat)):=uv λ_ _ _ _ _ _ _ hc q=>pow_int_small hc.1 hc.2.1 hc.2.2 q
theorem LQ:bS X (binaryOp .BitXor) (jR λi j=>.int (Builtin.bitXor i j)):=Bf λ_ _ _ _ _ _ _ q=>xor_int q
end
noncomputable def Oi:V->V->Bool
 |.non,.non=>true | .non,.int _=>true | .int _,.non=>true | .non,.bl _=>true | .bl _,.non=>true | .non,.str _=>true | .str _,.non=>true
 |.int _,.int _=>true | .bl _,.bl _=>true | .str _,.str _=>true | .gI _,.gI _=>true
 |.int _,.str _=>true | .str _,.int _=>true | .bl _,.str _=>true | .str _,.bl _=>true
 |_,_=>false
noncomputable def Y6:R2:=λx y H Q=>Oi x y=true/\Q (.bl (decide (x=y))) H
noncomputable def Zd:R2:=λx y H Q=>Oi x y=true/\Q (.bl (!decide (x=y))) H
theorem He{i j:Int}:decide (V.int i=V.int j)=(i==j):=by
 rw[cE];simp
theorem Hc{i j:Bool}:decide (V.bl i=V.bl j)=(i==j):=by
 rw[cE];simp
theorem Hf{i j:Str}:decide (V.str i=V.str j)=(i==j):=by
 rw[cE];simp
theorem Hd{i j:Array UInt8}:decide (V.gI i=V.gI j)=(i.toList==j.toList):=by
 rw[cE];cases i;cases j;simp
section
variable {X:Cx} {a b c:Expr} {ta tb tc:TE} {pos:Pos}
theorem bN{pins:List (Addr × Obj)}{σ:St}{H:Hp}{s:Shared}{Q:VK}{k k':Bool}(I:Inv X pins σ H s)(q:Q (.bl k) H)(e:k=k'):EP X pins σ Q (.bool k') s:=by
 subst e;exact⟨.bl k,H,I,rfl,q⟩
theorem jN:bS X (compareOp .Eq) Y6:=by
 intro pins s σ H x y v u Q I rx ry h;obtain⟨hs,q⟩:=h;cases x with
 |non =>
  cases rx;cases y with
  |non=>cases ry;exact PySem.EqNone.eq_none_none (bN I q (by simp))
  |bl j=>cases ry;exact PySem.EqNone.eq_none_bool (bN I q (by simp))
  |int j=>obtain⟨t',rfl⟩:=ry;exact PySem.EqNone.eq_none_int (bN I q (by simp))
  |str j=>obtain⟨t',rfl⟩:=ry;exact PySem.EqNone.eq_none_str (bN I q (by simp))
  |_=>exact absurd (show false=true from hs) Bool.false_ne_true
 |bl i =>
  cases rx;cases y with
  |non=>cases ry;exact PySem.EqNone.eq_bool_none (bN I q (by simp))
  |bl j=>cases ry;exact eq_bool (bN I q Hc)
  |str j=>obtain⟨t',rfl⟩:=ry;exact PySem.EqMixed.eq_bool_str (bN I q (by simp))
  |_=>exact absurd (show false=true from hs) Bool.false_ne_true
 |int i =>
  obtain⟨t,rfl⟩:=rx;cases y with
  |non=>cases ry;exact PySem.EqNone.eq_int_none (bN I q (by simp))
  |int j=>obtain⟨t',rfl⟩:=ry;exact eq_int (bN I q He)
  |str j=>obtain⟨t',rfl⟩:=ry;exact PySem.EqMixed.eq_int_str (bN I q (by simp))
  |_=>exact absurd (show false=true from hs) Bool.false_ne_true
 |str i =>
  obtain⟨t,rfl⟩:=rx;cases y with
  |non=>cases ry;exact PySem.EqNone.eq_str_none (bN I q (by simp))
  |bl j=>cases ry;exact PySem.EqMixed.eq_str_bool (bN I q (by simp))
  |int j=>obtain⟨t',rfl⟩:=ry;exact PySem.EqMixed.eq_str_int (bN I q (by simp))
  |str j=>obtain⟨t',rfl⟩:=ry;exact eq_str (bN I q Hf)
  |_=>exact absurd (show false=true from hs) Bool.false_ne_true
 |gI i =>
  obtain⟨t,rfl⟩:=rx;cases y with
  |gI j=>obtain⟨t',rfl⟩:=ry;exact W.eq_bytes (bN I q Hd)
  |_=>exact absurd (show false=true from hs) Bool.false_ne_true
 |_=>cases y<;>exact absurd (show false=true from hs) Bool.false_ne_true
theorem kB:bS X (compareOp .NotEq) Zd:=by
 intro pins s σ H x y v u Q I rx ry h;obtain⟨hs,q⟩:=h;cases x with
 |non =>
  cases rx;cases y with
  |non=>cases ry;exact PySem.EqNone.ne_none_none (bN I q (by simp))
  |bl j=>cases ry;exact PySem.EqNone.ne_none_bool (bN I q (by simp))
  |int j=>obtain⟨t',rfl⟩:=ry;exact PySem.EqNone.ne_none_int (bN I q (by simp))
  |str j=>obtain⟨t',rfl⟩:=ry;exact PySem.EqNone.ne_none_str (bN I q (by simp))
  |_=>exact absurd (show false=true from hs) Bool.false_ne_true
 |bl i =>
  cases rx;cases y with
  |non=>cases ry;exact PySem.EqNone.ne_bool_none (bN I q (by simp))
  |bl j=>cases ry;exact ne_bool (bN I q (congrArg not Hc))
  |str j=>obtain⟨t',rfl⟩:=ry;exact PySem.EqMixed.ne_bool_str (bN I q (by simp))
  |_=>exact absurd (show false=true from hs) Bool.false_ne_true
 |int i =>
  obtain⟨t,rfl⟩:=rx;cases y with
  |non=>cases ry;exact PySem.EqNone.ne_int_none (bN I q (by simp))
  |int j=>obtain⟨t',rfl⟩:=ry;exact ne_int (bN I q (congrArg not He))
  |str j=>obtain⟨t',rfl⟩:=ry;exact PySem.EqMixed.ne_int_str (bN I q (by simp))
  |_=>exact absurd (show false=true from hs) Bool.false_ne_true
 |str i =>
  obtain⟨t,rfl⟩:=rx;cases y with
  |non=>cases ry;exact PySem.EqNone.ne_str_none (bN I q (by simp))
  |bl j=>cases ry;exact PySem.EqMixed.ne_str_bool (bN I q (by simp))
  |int j=>obtain⟨t',rfl⟩:=ry;exact PySem.EqMixed.ne_str_int (bN I q (by simp))
  |str j=>obtain⟨t',rfl⟩:=ry;exact ne_str (bN I q (congrArg not Hf))
  |_=>exact absurd (show false=true from hs) Bool.false_ne_true
 |gI i =>
  obtain⟨t,rfl⟩:=rx;cases y with
  |gI j=>obtain⟨t',rfl⟩:=ry;exact W.ne_bytes (bN I q (congrArg not Hd))
  |_=>exact absurd (show false=true from hs) Bool.false_ne_true
 |_=>cases y<;>exact absurd (show false=true from hs) Bool.false_ne_true
theorem LC:bS X (compareOp .Lt) (jR λi j=>.bl (decide (i<j))):=ur λ_ _ _ _ _ _ _ q=>lt_int q
theorem jO:bS X (compareOp .LtE) (jR λi j=>.bl (decide (i<=j))):=ur λ_ _ _ _ _ _ _ q=>le_int q
theorem qo:bS X (compareOp .Gt) (jR λi j=>.bl (decide (j<i))):=ur λ_ _ _ _ _ _ _ q=>gt_int q
theorem X4:bS X (compareOp .GtE) (jR λi j=>.bl (decide (j<=i))):=ur λ_ _ _ _ _ _ _ q=>ge_int q
theorem Bg:bS X (compareOp .Is) (λx y H Q=>y = .non/\Q (.bl (decide (x = .non))) H):=by
 intro pins s σ H x y v u Q I rx ry h;obtain⟨rfl,q⟩:=h;cases ry;refine is_none_gen (bN I q ?_);cases x<;>first
  | (cases rx;rfl)
  | (obtain⟨t,rfl⟩:=rx;rfl)
theorem bL(b:Expr){op:CmpOp}(h:op≠.In:=by decide)(h2:op≠.NotIn:=by decide):behindInMarks op b=false:=by
 have e1:(op==CmpOp.In)=false:=by cases op<;>first|rfl|exact absurd rfl h
 have e2:(op==CmpOp.NotIn)=false:=by cases op<;>first|rfl|exact absurd rfl h2
 cases b<;>simp[behindInMarks,e1,e2]
theorem oq{op:CmpOp}{r:R2}(ho:bS X (compareOp op) r)(ha:PE X a ta)(hb:PE X b tb)(hm:behindInMarks op b=false):PE X (.Compare a [op] [b] pos) (vN r ta tb):=by
 intro pins s σ H Q I h;exact wpAny_Compare1 (xY ha hb I h λv u s2 x y H2 I2 rx ry q=>ho pins s2 σ H2 x y v u Q I2 rx ry q) hm
noncomputable def Pq(t:TE):TT:=λσ H Q=>t σ H λx H'=>∃k,x = .bl k/\Q k H'
theorem bW{op:CmpOp}{r:R2}(ho:bS X (compareOp op) r)(ha:PE X a ta)(hb:PE X b tb)(hm:behindInMarks op b=false):PT X (.Compare a [op] [b] pos) (Pq (vN r ta tb)):=by
 intro pins s σ H Q I h;refine wpAny_isTrue_Compare1 (aC (ha pins s σ H _ I h) λv s1 ⟨x,H1,I1,r1,q1⟩=>aC (hb pins s1 σ H1 _ I1 q1) λu s2 ⟨y,H2,I2,r2,q2⟩ =>
  aC (ho pins s2 σ H2 x y v u _ I2 r1 r2 q2) λc s3 ⟨z,H3,I3,r3,k,e,q3⟩=>?_) hm
 subst e;cases r3;exact gZ ⟨H3,I3,q3⟩
noncomputable def Pa(r r':R2)(ta tb tc:TE):TE:=λσ H Q=>ta σ H λx H1=>tb σ H1 λy H2=>r x y H2 λz H3=>∃k,z = .bl k /\
 (if k=true then tc σ H3 λw' H4=>r' y w' H4 Q else Q (.bl false) H3)
theorem Yi{op op':CmpOp}{r r':R2}(ho:bS X (compareOp op) r)(ho':bS X (compareOp op') r')(ha:PE X a ta)(hb:PE X b tb)(hc:PE X c tc)(hm:lastMarks [op,op'] [b,c]=false:=by with_unfolding_all rfl):PE X (.Compare a [op,op'] [b,c] pos) (Pa r r' ta tb tc):=by
 intro pins s σ H Q I h;refine Compare_chain (aC (ha pins s σ H _ I h) λv s1 ⟨x,H1,I1,r1,q1⟩=>chain_link (aC (hb pins s1 σ H1 _ I1 q1) λu s2 ⟨y,H2,I2,r2,q2⟩ =>
  aC (ho pins s2 σ H2 x y v u _ I2 r1 r2 q2) λd s3 ⟨z,H3,I3,r3,k,e,q3⟩=>?_)) hm
 subst e;cases r3;refine gZ ?_;cases k with
 |false=>exact ite_ff ⟨.bl false,H3,I3,rfl,q3⟩
 |true=>exact ite_tt (chain_last (aC (hc pins s3 σ H3 _ I3 q3) λw' s4 ⟨z',H4,I4,r4,q4⟩=>ho' pins s4 σ H4 y z' u w' Q I4 r2 r4 q4))
theorem Bs{op op':CmpOp}{r r':R2}(ho:bS X (compareOp op) r)(ho':bS X (compareOp op') r')(ha:PE X a ta)(hb:PE X b tb)(hc:PE X c tc)(hm:lastMarks [op,op'] [b,c]=false:=by with_unfolding_all rfl):PT X (.Compare a [op,op'] [b,c] pos) (Pq (Pa r r' ta tb tc)):=by
 intro pins s σ H Q I h;refine isTrue_chain (aC (ha pins s σ H _ I h) λv s1 ⟨x,H1,I1,r1,q1⟩=>test_link (aC (hb pins s1 σ H1 _ I1 q1) λu s2 ⟨y,H2,I2,r2,q2⟩ =>
  aC (ho pins s2 σ H2 x y v u _ I2 r1 r2 q2) λd s3 ⟨z,H3,I3,r3,k,e,q3⟩=>?_)) hm
 subst e;cases r3;refine gZ ?_;cases k with
 |false =>
  obtain⟨k',e',q'⟩:=q3;cases e';exact ite_ff ⟨H3,I3,q'⟩
 |true =>
  refine ite_tt (test_last (aC (hc pins s3 σ H3 _ I3 q3) λw' s4 ⟨z',H4,I4,r4,q4⟩=>aC (ho' pins s4 σ H4 y z' u w' _ I4 r2 r4 q4) λd' s5 ⟨z2,H5,I5,r5,k2,e2,q5⟩=>?_));subst e2;cases r5;exact gZ ⟨H5,I5,q5⟩
theorem t9:(sizeLine:Nat)<2 ^ 63:=by rw[sizeLine_eq];decide
theorem vals1{x:V}{us:List Value}(r:Vals [x] us):∃u,us = [u]/\RelV x u:=by
 cases r with
 |cons r1 r2=>cases r2;exact⟨_,rfl,r1⟩
end
structure kY (h:Heap) (x dx C:Addr) (mA:Str->Option Value):Prop where
 obj:h.get? x=some (W.instObj C dx)
 ns:h.Ns1 dx mA
 ne:dx≠x
theorem Wo{h:Heap}{dx:Addr}{mA:Str->Option Value}(n:h.Ns1 dx mA):∃od,h.get? dx=some od/\∀name,W.lookIn name od=some (mA name):=by
 obtain⟨o,es,ep,ho,hd,hk,_,hm⟩:=n;refine⟨o,ho,λname=>?_⟩;have e:=hm name;unfold nsFind findBy at e;rw[<- Array.find?_toList]at e;unfold W.lookIn;rw[hd];dsimp only
 split
 ·rename_i y q
  rw[q]at e;exact congrArg some e
 ·rename_i q
  rw[q]at e;have a:es.toList.any (·.refKey)=false:=by
   rw[List.any_eq_false];intro y hy;obtain⟨z,t,hkey⟩:=hk y (Eb.mp hy);simp[DictEntry.refKey,hkey]
  have a':¬ es.toList.any (·.refKey)=true:=by rw[a];exact Bool.false_ne_true
  rw[if_neg a'];exact congrArg some e
theorem kY.look{h:Heap}{x dx C:Addr}{mA:Str->Option Value}(I:kY h x dx C mA):∃od,W.InstAt h x (W.instObj C dx) C (some od)/\∀name,W.lookIn name od=some (mA name):=
 let⟨od,ho,hl⟩:=Wo I.ns
 ⟨od,⟨I.obj,rfl,rfl,ho⟩,hl⟩
section
variable {prog:Program} {w:World} {A:Around} {E:Value->Shared->Prop} {s:Shared} {K:W.Frag} {x dx C f:Addr} {mA:Str->Option Value} {name:Str} {v:Value}
theorem get_map{expr:Bool}{Q:Value->Shared->Prop}(X:K.In s.heap)(I:kY s.heap x dx C mA)(hg:W.plainGet K C name=true)(hh:W.hasDictIn K C=true)
  (ha:W.findIn K (.ref C) name=some none) (hv:mA name=some v) (hv':W.handedIn v=true) (h:Q v {s with toks:=s.toks+1}) :
  wpAny (model prog w) A (getAttr (.ref x) name expr) Q E s:=by
 obtain⟨od,J,hl⟩:=I.look;exact W.get_value X J (W.plainGet_of hg).1 (W.findObj_own hh ha rfl (by rw[hl,hv])) hv' h
theorem TV{pl:Sem Bool}{Q:Value × List Value->Shared->Prop}(X:K.In s.heap)(I:kY s.heap x dx C mA)(hg:W.plainGet K C name=true)(hf:W.findIn K (.ref C) name=some (some (.ref f)))(ht:W.isFn K (.ref f)=true)(hv:mA name=none)(h:Q (.ref f,[.ref x]) s):wpAny (model prog w) A (getMethod (.ref x) name pl) Q E s:=by
 obtain⟨od,J,hl⟩:=I.look;exact W.method_fn X J (W.plainGet_of hg).1 (W.plainGet_of hg).2 hf (gH.mp ht) (by show(W.lookIn name od).map (·.isSome)=some false;rw[hl,hv];rfl) h
theorem ZV{ns:List Str}{Q:Unit->Shared->Prop}(X:K.In s.heap)(I:kY s.heap x dx C mA)
  (hs:W.findIn K (.ref C) "__setattr__" = some (some (.builtin "object.__setattr__"))) (hp:W.plainOver K C=true) (ht:W.takerIn K C name=some none) (hh:W.hasDictIn K C=true)
  (hw:PySem.Within mA ns) (hsz:ns.length<=sizeLine)
  (h:∀h',kY h' x dx C (λy=>if y=name then some v else mA y)->Heap.SameBut dx s.heap h'->Q () {s with heap:=h',toks:=s.toks+2}) :
  wpAny (model prog w) A (setAttr (.ref x) name v) Q E s:=by
 obtain⟨od,J,hl⟩:=I.look;refine W.set_plain X J hs (W.osa_open (s:={s with toks:=s.toks+1}) (r:=none) X J hp ht λb=>?_);obtain⟨cd,hc,hd'⟩:=W.any_some hh;have hx:s.heap.get? x=some ⟨.ref C,some dx,.plain,#[]⟩:=I.obj;refine ae (ak (ae (ae (wpAny_loadPart hx (ae (W.Looks.here (s:={s with toks:=s.toks+1}) (W.looks_clsIn X hc) ?_))))));rw[hd'];refine ak (a:=some dx) (ae (ak (ae ?_)));refine wpAny_nsSet1 (s:={s with toks:=s.toks+1}) I.ns λh' hn2 hs2=>?_;obtain⟨oD,esD,epD,hoD,hdD,hcD⟩:=hn2.count (PySem.Within.cons name v hw);refine ae (wpAny_lookBehind hoD (by rw[hdD];exact pastItsLine_dict (cp hcD (by rw[dW];omega))) ?_);exact ak (h _ ⟨(hs2.2 _ (b_ I.ne)).trans I.obj,hn2,I.ne⟩ hs2)
theorem Wv{R:Result->Shared->Prop}{vs:List Value}{kw:List (Str × Value)}(X:K.In s.heap)(hm:W.makesIn K C=true)
  (hi:W.findIn K (.ref C) "__init__" = some (some (.ref f))) (hf:W.typeIn K (.ref f)=some (.type "function"))
  (h:codeAny (model prog w) (A.under (.builtin "type.__call__" ⟨.ref C::vs,kw⟩)) (.call (.ref f) ⟨.ref (s.heap.objs.size+1)::vs,kw⟩) (W.InitBack (s.heap.objs.size+1) R)
   {s with heap:=(s.heap.push W.emptyDict).push (W.instObj C s.heap.objs.size)}) :
  codeAny (model prog w) A (.call (.ref C) ⟨vs,kw⟩) R s:=by
 obtain⟨hh,g,d,t,os⟩:=s;exact W.make_core (W.makes_of X hm) (W.looks_findIn X hi) (λself=>W.bind_fn X self hf) (.inl rfl) h
end
noncomputable def bh(f:Str)(v:V):List (Str × V)->List (Str × V)
 | []=>[(f,v)]
 | (g,x)::r=>if g=f then(g,v)::r else(g,x)::bh f v r
theorem da(f g:Str)(v:V):∀fs:List (Str × V),(bh f v fs).lookup g=if g=f then some v else fs.lookup g
 | []=>by
  show List.lookup g [(f,v)]=_
  by_cases h:g=f
  ·have hb:(g==f)=true:=gH.mpr h
   simp only[List.lookup,hb,if_pos h]
  ·have hb:(g==f)=false:=kf.mpr h
   simp only[List.lookup,hb,if_neg h]
 | (k,x)::r=>by
  have ih:=da f g v r;rw[show bh f v ((k,x)::r)=(if k=f then(k,v)::r else(k,x)::bh f v r)from rfl]
  by_cases hk:k=f
  ·rw[if_pos hk]
   by_cases h:g=k
   ·have hb:(g==k)=true:=gH.mpr h
    simp only[List.lookup,hb,if_pos (h.trans hk)]
   ·have hb:(g==k)=false:=kf.mpr h
    simp only[List.lookup,hb,if_neg (λe:g=f=>h (e.trans hk.symm))]
  ·rw[if_neg hk]
   by_cases h:g=k
   ·have hb:(g==k)=true:=gH.mpr h
    simp only[List.lookup,hb,if_neg (λe:g=f=>hk (h.symm.trans e))]
   ·have hb:(g==k)=false:=kf.mpr h
    simp only[List.lookup,hb];exact ih
theorem Af(f:Str)(v:V):∀fs:List (Str × V),f∈(bh f v fs).map (·.1)/\∀g,g∈fs.map (·.1)->g∈(bh f v fs).map (·.1)
 | []=>⟨by simp[bh],λg h=>by simp at h⟩
 | (k,x)::r=>by
  obtain⟨i1,i2⟩:=Af f v r;rw[show bh f v ((k,x)::r)=(if k=f then(k,v)::r else(k,x)::bh f v r)from rfl]
  by_cases hk:k=f
  ·rw[if_pos hk]
   subst hk;exact⟨by simp,λg h=>by simpa using h⟩
  ·rw[if_neg hk]
   refine⟨?_,λg h=>?_⟩
   ·rw[bA]
    exact bu _ i1
   ·rw[bA]at h ⊢
    rcases aY.mp h with e|e
    ·exact aY.mpr (.inl e)
    ·exact bu _ (i2 g e)
theorem oa(f:Str)(v:V):∀fs:List (Str × V),(bh f v fs).length<=fs.length+1
 | []=>by simp[bh]
 | (k,x)::r=>by
  have ih:=oa f v r;rw[show bh f v ((k,x)::r)=(if k=f then(k,v)::r else(k,x)::bh f v r)from rfl]
  by_cases hk:k=f
  ·rw[if_pos hk,dW,dW];omega
  ·rw[if_neg hk,dW,dW];omega
theorem d6.some_of{v:V}{o:Option Value}(r:d6 (some v) o):∃u,o=some u/\RelV v u:=by
 cases o with
 |none=>exact(show False from r).elim
 |some u=>exact⟨u,rfl,r⟩
theorem d6.none_of{o:Option Value}(r:d6 none o):o=none:=by
 cases o with
 |none=>rfl
 |some u=>exact(show False from r).elim
theorem Ur{v:V}{u:Value}(r:RelV v u):W.handedIn u=true:=by
 cases v with
 |non=>cases(show u=Value.none from r);rfl
 |bl b=>cases(show u=Value.bool b from r);rfl
 |int i=>obtain⟨t,e⟩:=(show ∃t,u=Value.int i t from r);cases e;rfl
 |str x=>obtain⟨t,e⟩:=(show ∃t,u=Value.str x t from r);cases e;rfl
 |gI b=>obtain⟨t,e⟩:=(show ∃t,u=Value.bytes b t from r);cases e;rfl
 |flt b=>obtain⟨t,e⟩:=(show ∃t,u=Value.float b t from r);cases e;rfl
 |ref a=>cases(show u=Value.ref a from r);rfl
 |ty n=>cases(show u=Value.type n from r);rfl
section
variable {P:Program} {w:World} {H H':Hp} {h h':Heap} {a C dx:Addr} {fs fs':List (Str × V)}
theorem tY(hok:bJ P w H h)(e:H a=some (.ins C dx fs)):∃mA,kY h a dx C mA/\(∀f,d6 (fs.lookup f) (mA f))/\PySem.Within mA (fs.map (·.1))/\fs.length<=1000/\H dx=some (.own a):=by
 obtain⟨d,z,ne,ob,mA,n,r,q⟩:=(show a8 P w H h a (.ins C dx fs)from hok a _ e);exact⟨mA,⟨ob,n,ne⟩,r,q,z,d⟩
end
structure Cls (K:W.Frag) (C:Addr):Prop where
 pg:W.plainGet K C Str.empty=true
 hd:W.hasDictIn K C=true
 po:W.plainOver K C=true
 sa:W.findIn K (.ref C) "__setattr__" = some (some (.builtin "object.__setattr__"))
theorem Cls.get{K:W.Frag}{C:Addr}(c:Cls K C)(f:Str):W.plainGet K C f=true:=c.pg
noncomputable def gW(K:W.Frag)(C:Addr)(f:Str):Prop:=W.findIn K (.ref C) f=some none
theorem gW.taker{K:W.Frag}{C:Addr}{f:Str}(n:gW K C f):W.takerIn K C f=some none:=by
 unfold W.takerIn;rw[show W.findIn K (.ref C) f=some none from n];rfl
structure Meth (K:W.Frag) (C:Addr) (m:Str) (f:Addr):Prop where
 at_:W.findIn K (.ref C) m=some (some (.ref f))
 fn:W.isFn K (.ref f)=true
 kp:W.keepIn K (.ref f)=true
section
variable {X:Cx} {pins:List (Addr × Obj)} {σ:St} {H:Hp} {s:Shared} {a C dx:Addr} {fs:List (Str × V)} {f:Str} {v:V} {A:Around} {E:Value->Shared->Prop}
theorem TX{b:Bool}{Q:Value->Shared->Prop}(I:Inv X pins σ H s)(e:H a=some (.ins C dx fs))(c:Cls X.K C)(n:gW X.K C f)(l:fs.lookup f=some v)(h:∀u s',Inv X pins σ H s'->RelV v u->Q u s'):wpAny (model X.prog X.w) A (getAttr (.ref a) f b) Q E s:=by
 obtain⟨mA,O,r,_,_,_⟩:=tY I.hok e;obtain⟨u,hu,ru⟩:=d6.some_of (v:=v) (o:=mA f) (by rw[<- l];exact r f);exact get_map I.bU O (c.get f) c.hd n hu (Ur ru) (h u _ (I.tok _) ru)
theorem TY{m:Str}{g:Addr}{pl:Sem Bool}{Q:Value × List Value->Shared->Prop}(I:Inv X pins σ H s)(e:H a=some (.ins C dx fs))(c:Cls X.K C)(k:Meth X.K C m g)(l:fs.lookup m=none)(h:Q (.ref g,[.ref a]) s):wpAny (model X.prog X.w) A (getMethod (.ref a) m pl) Q E s:=by
 obtain⟨mA,O,r,_,_,_⟩:=tY I.hok e;have hn:mA m=none:=d6.none_of (by rw[<- l];exact r m);exact TV I.bU O (c.get m) k.at_ k.fn hn h
theorem Z0{y:V}{u:Value}{Q:Unit->Shared->Prop}(I:Inv X pins σ H s)(e:H a=some (.ins C dx fs))(c:Cls X.K C)(n:gW X.K C f)(hl:fs.length<1000)(ry:RelV y u)(h:∀s',Inv X pins σ (upd H a (.ins C dx (bh f y fs))) s'->Q () s'):wpAny (model X.prog X.w) A (setAttr (.ref a) f u) Q E s:=by
 obtain⟨mA,O,r,wi,_,ho⟩:=tY I.hok e;have hz:(fs.map (·.1)).length<=sizeLine:=by rw[ao,sizeLine_eq];omega
 refine ZV I.bU O c.sa c.po n.taker c.hd wi hz λh' O' sb=>h _ ?_;have hd:∃o,h'.get? dx=some o:=let⟨o,_,_,e',_⟩:=O'.ns;⟨o,e'⟩
 refine I.write (x:=a) (e:=dx) (by rw[e];exact True.intro) (.inr ho) (λb q hb z=>(sb.2 b hb).trans z) hd ?_;refine⟨by rw[aG O.ne];exact ho,?_,O.ne,O'.obj,_,O'.ns,λg=>?_,λg hg=>?_⟩
 ·have:=oa f y fs;omega
 ·show d6 ((bh f y fs).lookup g) (if g=f then some u else mA g)
  rw[da]
  by_cases q:g=f
  ·rw[if_pos q,if_pos q];exact ry
  ·rw[if_neg q,if_neg q];exact r g
 ·by_cases q:g=f
  ·rw[q];exact(Af f y fs).1
  ·refine(Af f y fs).2 g (wi g λz=>hg ?_)
   show(if g=f then some u else mA g)=none;rw[if_neg q];exact z
theorem Inv.made(I:Inv X pins σ H s):Inv X pins σ (upd (upd H s.heap.objs.size (.own (s.heap.objs.size+1))) (s.heap.objs.size+1) (.ins C s.heap.objs.size []))
  {s with heap:=(s.heap.push W.emptyDict).push (W.instObj C s.heap.objs.size)}:=by
 have e1:(s.heap.push W.emptyDict).get? s.heap.objs.size=some W.emptyDict:=bf s.heap rfl;have e2:((s.heap.push W.emptyDict).push (W.instObj C s.heap.objs.size)).get? (s.heap.objs.size+1)=some (W.instObj C s.heap.objs.size):=by
  have:=bf (s.heap.push W.emptyDict) (o:=W.instObj C s.heap.objs.size) rfl
  rwa [eK]at this
 have e3:(s.heap.push W.emptyDict).Ns s.heap.objs.size (λ_=>none):=⟨W.emptyDict,#[],_,e1,rfl,(λe he=>absurd he (by simp)),λ_=>rfl⟩;have I1:=I.laid (a:=s.heap.objs.size) (o:=.own (s.heap.objs.size+1)) (h':=s.heap.push W.emptyDict) (t':=s.toks) (λb u q=>aI _ q) (aH _) ⟨_,e1⟩;refine I1.laid (a:=s.heap.objs.size+1) (o:=.ins C s.heap.objs.size []) (t':=s.toks) (λb u q=>aI _ q) (oV (eK _ _)) ?_;have ne:s.heap.objs.size≠s.heap.objs.size+1:=a_ (oX _);refine⟨by rw[aG ne,aA],bM _,ne,e2,λ_=>none,(Heap.Ns1.of_empty e3).at λo q=>aI _ q,λ_=>True.intro,λy hy=>absurd rfl hy⟩
theorem Q8{prog:Program}{w:World}{env:Env}{e:Expr}{f:Str}{pos:Pos}{s:Shared}{Q:Value->Shared->Prop}(hb:attributeBase e f env (eval e env)=eval e env)(h:wpAny (model prog w) A (eval e env) (λo s₁=>wpAny (model prog w) A (getAttr o f true) Q E s₁) E s):wpAny (model prog w) A (eval (.Attribute e f pos) env) Q E s:=
 Attribute_any_ h (by rw[arm_eval_Attribute,hb])
end
noncomputable def Ph(K:W.Frag)(ta:TE)(f:Str):TE:=λσ H Q=>ta σ H λx H1=>∃a C dx fs v,x = .ref a/\H1 a=some (.ins C dx fs)/\Cls K C/\gW K C f/\fs.lookup f=some v/\Q v H1
noncomputable def M_(K:W.Frag)(ta tv:TE)(f:Str):TS:=λD σ H=>tv σ H λy H1=>ta σ H1 λx H2=>∃a C dx fs,x = .ref a/\H2 a=some (.ins C dx fs)/\Cls K C/\gW K C f/\fs.length<1000 /\
 D.nx σ (upd H2 a (.ins C dx (bh f y fs)))
section
variable {X:Cx} {o e value:Expr} {f:Str} {pos pos' tpos:Pos} {ta tv:TE}
theorem Yn(he:PE X e ta)(hb:attributeBase e f X.env (eval e X.env)=eval e X.env):PE X (.Attribute e f pos) (Ph X.K ta f):=by
 intro pins s σ H Q I h;refine Q8 hb (aC (he pins s σ H _ I h) λu s1 ⟨x,H1,I1,rx,a,C,dx,fs,v,ex,ea,c,n,l,q⟩=>?_);subst ex;obtain rfl:u=Value.ref a:=rx;exact TX I1 ea c n l λu' s2 I2 ru=>⟨v,H1,I2,ru,q⟩
theorem YM(ha:PE X o ta)(hv:PE X value tv)(hs:swapsWith value (some (.Attribute o f pos')) pos.line X.env=pure false):PS X (.Assign [.Attribute o f pos'] value pos) (M_ X.K ta tv f):=by
 intro pins s σ H D I h;refine plainObj_wpAny_Assign_Attribute (aC (hv pins s σ H _ I h) λu s1 ⟨y,H1,I1,ry,q⟩=>aC (ha pins s1 σ H1 _ I1 q) λov s2 ⟨x,H2,I2,rx,a,C,dx,fs,ex,ea,c,n,l,q2⟩=>?_) hs;subst ex;obtain rfl:ov=Value.ref a:=rx;exact Z0 I2 ea c n l ry λs3 I3=>⟨σ,_,I3,q2⟩
end
section
variable {X:Cx} {pins:List (Addr × Obj)} {σ:St} {H:Hp} {s:Shared} {A:Around} {E:Value->Shared->Prop} {Q:Value->Shared->Prop} {c:Value} {b:Bool}
inductive ft (K:W.Frag) (H:Hp):V->Value->Prop where
 |non:ft K H .non (.type "NoneType")
 |bl (x:Bool):ft K H (.bl x) (.type "bool")
 |int (i:Int):ft K H (.int i) (.type "int")
 |str (x:Str):ft K H (.str x) (.type "str")
 |flt (x:UInt64):ft K H (.flt x) (.type "float")
 |lst {a:Addr} {xs:List V} (e:H a=some (.lst xs)):ft K H (.ref a) (.type "list")
 |cT {a:Addr} {o:Obj} {xs:List V} (e:H a=some (.cT o (.lst xs))):ft K H (.ref a) (.type "list")
 |tup {a:Addr} {xs:List V} (e:H a=some (.tup xs)):ft K H (.ref a) (.type "tuple")
 |dK {a:Addr} {kvs:List (Key × V)} (e:H a=some (.dK kvs)):ft K H (.ref a) (.type "dict")
 |dT {a:Addr} {kvs:List (List Key × V)} (e:H a=some (.dT kvs)):ft K H (.ref a) (.type "dict")
 |ins {a C dx:Addr} {fs:List (Str × V)} (e:H a=some (.ins C dx fs)) (cl:Cls K C) (ha:W.findIn K (.ref C) "__class__" = some (some (.builtin "object.__class__")))
   (hn:W.specialIn K (.builtin "object.__class__") "__get__" = some (some (.builtin "getset_descriptor.__get__"))) (htk:W.takesIn K (.builtin "object.__class__")=some true)
   (hm:W.mroIn K C (.type "object")=some true):ft K H (.ref a) (.ref C)
theorem VG{x:V}{u t:Value}(I:Inv X pins σ H s)(rx:RelV x u)(ty:ft X.K H x t)(e:W.kitOne X.K t c=some b)(h:∀tk,Q (.bool b) {s with toks:=tk}):
  wpAny (model X.prog X.w) A (call (.builtin "isinstance") [u,c]) Q E s:=by
 cases ty with
 |non=>cases(show u=Value.none from rx);exact W.kia_one W.kitx_none I.bU True.intro e (λz=>nomatch z) h
 |bl y=>cases(show u=Value.bool y from rx);exact W.kia_one W.kitx_bool I.bU True.intro e (λz=>nomatch z) h
 |int i=>obtain⟨t,q⟩:=(show ∃t,u=Value.int i t from rx);cases q;exact W.kia_one W.kitx_int I.bU True.intro e (λz=>nomatch z) h
 |str y=>obtain⟨t,q⟩:=(show ∃t,u=Value.str y t from rx);cases q;exact W.kia_one W.kitx_str I.bU True.intro e (λz=>nomatch z) h
 |flt y=>obtain⟨t,q⟩:=(show ∃t,u=Value.float y t from rx);cases q;exact W.kia_one W.kitx_float I.bU True.intro e (λz=>nomatch z) h
 | @lst a xs ea =>
  cases(show u=Value.ref a from rx);obtain⟨_,_,n,_,h1⟩:=(show a8 X.prog X.w H s.heap a (.lst xs)from I.hok a _ ea);exact W.kia_one W.kitx_list I.bU ⟨_,h1,rfl⟩ e (λz=>nomatch z) h
 | @cT a ob xs ea =>
  cases(show u=Value.ref a from rx);obtain⟨_,_,_,n,_,h1⟩:=(show a8 X.prog X.w H s.heap a (.cT ob (.lst xs))from I.hok a _ ea);exact W.kia_one W.kitx_list I.bU ⟨_,h1,rfl⟩ e (λz=>nomatch z) h
 | @tup a xs ea =>
  cases(show u=Value.ref a from rx);obtain⟨_,_,_,p,_⟩:=(show a8 X.prog X.w H s.heap a (.tup xs)from I.hok a _ ea);obtain⟨o,h1,h2,_⟩:=p;exact W.kia_one W.kitx_tuple I.bU ⟨o,h1,h2⟩ e (λz=>nomatch z) h
 | @dK a kvs ea =>
  cases(show u=Value.ref a from rx);obtain⟨_,_,vs,_,p⟩:=(show a8 X.prog X.w H s.heap a (.dK kvs)from I.hok a _ ea);obtain⟨o,es,ep,h1,h2,_⟩:=p;exact W.kia_one W.kitx_dict I.bU ⟨o,h1,h2.1⟩ e (λz=>nomatch z) h
 | @dT a kvs ea =>
  cases(show u=Value.ref a from rx);obtain⟨_,_,xs,_,o,es,ep,h1,h2,_⟩:=(show a8 X.prog X.w H s.heap a (.dT kvs)from I.hok a _ ea);exact W.kia_one W.kitx_dict I.bU ⟨o,h1,h2.1⟩ e (λz=>nomatch z) h
 | @ins a C dx fs ea cl ha hn htk hm =>
  cases(show u=Value.ref a from rx);obtain⟨mA,O,_⟩:=tY I.hok ea;obtain⟨od,J,_⟩:=O.look;exact W.kia_one (W.kitx_own (cl.get _) cl.hd ha hn htk hm) I.bU J e (λz=>nomatch z) h
end
structure bj (k:Nat) (A:Around):Prop where
 hd:A.handled=none
 dp:A.depth+3*k+5<recursionLimit
 un:A.units+16*k+200<cLine
 gd:A.guards=some []
theorem bj.mono{j k:Nat}{A:Around}(r:bj k A)(h:j<=k):bj j A:=⟨r.hd,by have:=r.dp;omega,by have:=r.un;omega,r.gd⟩
theorem bj.deeper{k:Nat}{A:Around}(r:bj (k+1) A)(env:Env):bj k (A.deeper env):=
 ⟨r.hd,by have:=r.dp;show A.depth+1+3*k+5<_;omega,by have:=r.un;show A.units+3+16*k+200<_;omega,r.gd⟩
theorem Wt {A:Around} {C:Addr} {us:List Value} {kw:List (Str × Value)}:(A.under (.builtin "type.__call__" ⟨.ref C::us,kw⟩)).depth=A.depth+1:=by
 first|rfl|simp[Around.under,Code.weight,Code.isCreation,Code.isGuard,Code.isCaller,Code.frames,Code.isFrame,guardIds]
theorem Ww {A:Around} {C:Addr} {us:List Value} {kw:List (Str × Value)}:(A.under (.builtin "type.__call__" ⟨.ref C::us,kw⟩)).units=A.units+1:=by
 first|rfl|simp[Around.under,Code.cUnits,Code.frames,Code.isFrame]
theorem Wu {A:Around} {C:Addr} {us:List Value} {kw:List (Str × Value)}:(A.under (.builtin "type.__call__" ⟨.ref C::us,kw⟩)).guards=A.guards:=by
 first|rfl | (cases h:A.guards<;>simp[Around.under,Code.guards,pushGuards,Code.isGuard,guardIds,h])
theorem bj.make {k:Nat} {A:Around} (r:bj (k+1) A) (C:Addr) (us:List Value) (kw:List (Str × Value)):bj k (A.under (.builtin "type.__call__" ⟨.ref C::us,kw⟩)):=
 ⟨r.hd,by have:=r.dp;rw[Wt];omega,by have:=r.un;rw[Ww];omega,by rw[Wu];exact r.gd⟩
theorem bj.depth{k:Nat}{A:Around}(r:bj k A):A.depth<recursionLimit:=by have:=r.dp;omega
theorem bj.units{k:Nat}{A:Around}(r:bj k A):A.units+64<cLine:=by have:=r.un;omega
noncomputable def vM:TA:=λ_ H Q=>Q [] H
noncomputable def lT(ta:TE)(tr:TA):TA:=λσ H Q=>ta σ H λx H1=>tr σ H1 λxs H2=>Q (x::xs) H2
section
variable {X:Cx} {e:Expr} {es:List Expr} {te:TE} {t:TA} {pos:Pos}
theorem ah:PA X [] vM:=λ_ _ _ _ H Q I h=>Calls.spliced_nil ⟨[],H,I,.nil,h⟩
theorem ag(ha:PE X e te)(hr:PA X es t)(hs:starEach (e::es) X.env=(false,eval e X.env)::starEach es X.env:=by rfl):PA X (e::es) (lT te t):=by
 intro pos pins s σ H Q I h;rw[hs];show wpAny _ _ (spliced ((false,eval e X.env)::backTo pos (starEach es X.env))) _ _ s;refine Calls.spliced_cons (aC (ha pins s σ H _ I h) λu s1 ⟨x,H1,I1,r1,q1⟩=>?_);exact aC (hr pos pins s1 σ H1 _ I1 q1) λus s2 ⟨xs,H2,I2,r2,q2⟩=>⟨x::xs,H2,I2,.cons r1 r2,q2⟩
noncomputable def aaG(t:TA):TE:=λσ H Q=>t σ H λxs H1=>xs.length<=sizeLine/\∀p,H1 p=none->Q (.ref p) (upd H1 p (.tup xs))
noncomputable def aav(t:TA):TE:=λσ H Q=>t σ H λxs H1=>xs.length<=sizeLine/\∀p,H1 p=none->Q (.ref p) (upd H1 p (.lst xs))
theorem ie{x1}(h:PA X es t):PE X (.Tuple es x1 pos) (aaG t):=by
 intro pins s σ H Q I hq;refine wpAny_Tuple_spliced (aC (h pos pins s σ H _ I hq) λus s1 ⟨xs,H1,I1,r,z,q⟩=>⟨by rw[<- r.length];exact z,?_⟩);have hf:H1 s1.heap.objs.size=none:=I1.hok.fresh (aH _);refine⟨.ref s1.heap.objs.size,upd H1 s1.heap.objs.size (.tup xs),I1.laid (t':=s1.toks) (λb u e=>aI _ e) (aH _) ?_,rfl,q _ hf⟩;exact⟨z,us,r,⟨_,bf _ rfl,rfl,_,rfl⟩,_,bf _ rfl,rfl⟩
theorem ic(h:PA X es t):PE X (.List es pos) (aav t):=by
 intro pins s σ H Q I hq;refine wpAny_List_spliced (aC (h pos pins s σ H _ I hq) λus s1 ⟨xs,H1,I1,r,z,q⟩=>⟨by rw[<- r.length];exact z,?_⟩);have hf:H1 s1.heap.objs.size=none:=I1.hok.fresh (aH _);refine⟨.ref s1.heap.objs.size,upd H1 s1.heap.objs.size (.lst xs),I1.laid (t':=s1.toks) (λb u e=>aI _ e) (aH _) ?_,rfl,q _ hf⟩;exact⟨z,us,0,r,bf _ rfl⟩
end
abbrev Sp:=List V->Hp->VK->XK->Prop
abbrev gj:=List Env->Hp->Shared->XK->Value->Shared->Prop
structure fK (P:Program) (w:World) (K:W.Frag) (mg:Str->Option Value) (base:Heap) (A:Around) (outer:List Env) (s:Shared) (H:Hp):Prop where
 frames:A.frames=some outer
 mod:Mod K mg base
 bs:∀b o,base.get? b=some o->s.heap.get? b=some o/\H b=none
 fS:base.objs.size<=s.heap.objs.size
 d9:s.heap.FunFrames base outer
 iK:∀b∈frs outer,H b=none
 hok:bJ P w H s.heap
 bare:AllBare s.gens
noncomputable def CE(outer:List Env)(P:Program)(w:World)(H:Hp)(s:Shared)(Q:VK)(u:Value)(s':Shared):Prop:=
 ∃v H',s'.os=s.os/\AllBare s'.gens/\Un (frs outer) [] H H' s.heap s'.heap/\bJ P w H' s'.heap/\RelV v u/\Q v H'
noncomputable def CR(CX:gj)(outer:List Env)(P:Program)(w:World)(H:Hp)(s:Shared)(Q:VK)(E:XK)(r:Result)(s':Shared):Prop:=
 match r with
 |.ok (.ret u)=>CE outer P w H s Q u s'
 |.ok _=>False
 |.error e=>CX outer H s E e s'
structure aM (P:Program) (w:World) (K:W.Frag) (mg:Str->Option Value) (base:Heap) (CX:gj) (k:Nat) (f:Addr) (fd:FuncData) (ps:List Str) (sp:Sp):Prop where
 len:∀vs H Q E,sp vs H Q E->vs.length=ps.length
 run:∀(A:Around) (outer:List Env) (s:Shared) (H:Hp) (args:Args) (us:List Value) (vs:List V) (Q:VK) (E:XK),bj k A->fK P w K mg base A outer s H->BindsTo s fd args (ps.zip us)->Vals vs us->sp vs H Q E ->
  codeAny (model P w) A (.call (.ref f) args) (CR CX outer P w H s Q E) s
theorem aM.mono{P:Program}{w:World}{K:W.Frag}{mg:Str->Option Value}{base:Heap}{CX:gj}{j k:Nat}{f:Addr}{fd:FuncData}{ps:List Str}{sp:Sp}(F:aM P w K mg base CX j f fd ps sp)(h:j<=k):aM P w K mg base CX k f fd ps sp:=⟨F.len,λA outer s H args us vs Q E hr=>F.run A outer s H args us vs Q E (hr.mono h)⟩
theorem fK.make{P:Program}{w:World}{K:W.Frag}{mg:Str->Option Value}{base:Heap}{A:Around}{outer:List Env}{s:Shared}{H:Hp}(e:fK P w K mg base A outer s H)(C:Addr)(us:List Value)(kw:List (Str × Value)):
  fK P w K mg base (A.under (.builtin "type.__call__" ⟨.ref C::us,kw⟩)) outer s H:=⟨by first|exact e.frames | (simpa[Around.under,Code.envs,Code.isFrame,pushEnvs]using e.frames),e.mod,e.bs,e.fS,e.d9,e.iK,e.hok,e.bare⟩
section
variable {X:Cx} {pins:List (Addr × Obj)} {σ:St} {H:Hp} {s s':Shared}
theorem Inv.env0(I:Inv X pins σ H s):fK X.prog X.w X.K X.mg X.base X.A X.stack s H:=
 ⟨I.ok.frames,I.ok.mod,I.bs,cp I.ok.fS I.sz,I.stack,I.Dk,I.hok,I.bare⟩
theorem Inv.after{Q:VK}{u:Value}(I:Inv X pins σ H s)(h:CE X.stack X.prog X.w H s Q u s'):EP X pins σ Q u s':=by
 obtain⟨v,H',os,bare,un,hok,r,q⟩:=h;obtain⟨hh,g,d,t,os'⟩:=s';obtain rfl:os'=s.os:=os;exact⟨v,H',I.call (h':=hh) (g':=g) (d':=d) (t':=t) (ch:=[]) un hok bare (λb z=>absurd z (by simp)),r,q⟩
end
noncomputable def O9(sp:Sp)(dE:List V)(E:XK)(t:TA):TE:=λσ H Q=>t σ H λvs H1=>sp (vs++dE) H1 Q E
noncomputable def Pl(C:Addr)(m:Str)(sp:Sp)(dE:List V)(E:XK)(ta:TE)(t:TA):TE:=λσ H Q=>ta σ H λx H1=>∃a dx fs,x = .ref a/\H1 a=some (.ins C dx fs)/\fs.lookup m=none /\
 t σ H1 λvs H2=>sp (x::(vs++dE)) H2 Q E
noncomputable def Pk(C:Addr)(sp:Sp)(dE:List V)(E:XK)(t:TA):TE:=λσ H Q=>t σ H λvs H1=>∀x dx,H1 x=none->H1 dx=none->dx≠x ->
 sp (.ref x::(vs++dE)) (upd (upd H1 dx (.own x)) x (.ins C dx [])) (λv H2=>v = .non/\Q (.ref x) H2) E
noncomputable def Binds(K:W.Frag)(fd:FuncData)(ps:List Str)(ds:List Value):Prop:=
 ∀(s:Shared) (us:List Value),K.In s.heap->(us++ds).length=ps.length->BindsTo s fd ⟨us,[]⟩ (ps.zip (us++ds))
theorem Binds.all{K:W.Frag}{fd:FuncData}{ps:List Str}(h:∀us:List Value,us.length=ps.length->bindArgs fd ⟨us,[]⟩=pure (ps.zip us)):Binds K fd ps []:=λs us _ hl=>by
 rw[j8]at hl ⊢;exact .of_eq (h us hl)
noncomputable def Passes(CX:gj)(X:Cx)(E:XK):Prop:=∀(pins:List (Addr × Obj)) (σ:St) (H:Hp) (s:Shared) (e:Value) (s':Shared),Inv X pins σ H s->CX X.stack H s E e s'->X.xe e s'
section
variable {X:Cx} {CX:gj} {k:Nat} {f C:Addr} {fd:FuncData} {ps:List Str} {sp:Sp} {dE:List V} {ds:List Value} {E:XK} {x m:Str} {p pos apos:Pos} {e o:Expr} {es:List Expr} {ta:TE} {t:TA}
theorem M6{pins:List (Addr × Obj)}{σ:St}{H:Hp}{s:Shared}{Q:VK}{us:List Value}{vs:List V}(F:aM X.prog X.w X.K X.mg X.base CX k f fd ps sp)(hr:bj k X.A)(hb:Binds X.K fd ps ds)(hd:Vals dE ds)(hx:Passes CX X E)(I:Inv X pins σ H s)(r:Vals vs us)(h:sp (vs++dE) H Q E):wpAny (model X.prog X.w) X.A (call (.ref f) us) (EP X pins σ Q) X.xe s:=by
 have r2:Vals (vs++dE) (us++ds):=r.append hd;have hl:(us++ds).length=ps.length:=by rw[<- r2.length];exact F.len _ _ _ _ h
 refine mN (fM (F.run X.A X.stack s H ⟨us,[]⟩ (us++ds) (vs++dE) Q E hr I.env0 (hb s us I.bU hl) r2 h) λr s' hq=>?_);cases r with
 |error e=>exact hx pins σ H s e s' I hq
 |ok fl =>
  cases fl with
  |ret u=>exact I.after hq
  |next=>exact False.elim hq
  |brk=>exact False.elim hq
  |cont=>exact False.elim hq
theorem Yd(F:aM X.prog X.w X.K X.mg X.base CX k f fd ps sp)(hr:bj k X.A)(hg:Gl X x)(hm:X.mg x=some (.ref f))(hk:W.keepIn X.K (.ref f)=true)(hb:Binds X.K fd ps ds)(hd:Vals dE ds)(hx:Passes CX X E)
  (ha:PA X (e::es) t) (hdb:(x==("__debug__" : Str))=false:=by decide) (he:starEach (e::es) X.env=(false,eval e X.env)::starEach es X.env:=by rfl) (hpl:(backTo pos (starEach es X.env)).any (·.1)=false:=by rfl) :
  PE X (.Call (.Name x p) (e::es) [] pos) (O9 sp dE E t):=by
 intro pins s σ H Q I h;refine je (qd I hg hm ?_ hdb);refine W.callWith_K (h₀:=X.base) I.ok.mod.jK hk (aC (ha pos pins s σ H _ I h) λus s1 ⟨vs,H1,I1,r,q⟩=>⟨I1.bU,?_⟩) he hpl;exact M6 F hr hb hd hx I1 r q
theorem Yq{pl:Sem Bool}(he:PE X o ta)(c:Cls X.K C)(hm:Meth X.K C m f)(F:aM X.prog X.w X.K X.mg X.base CX k f fd ps sp)(hr:bj k X.A)(hb:Binds X.K fd ps ds)(hd:Vals dE ds)(hx:Passes CX X E)(ha:PA X (e::es) t)(hst:starEach (e::es) X.env=(false,eval e X.env)::starEach es X.env:=by rfl)(hpl:(backTo pos (starEach es X.env)).any (·.1)=false:=by rfl)
  (ht:eval (.Call (.Attribute o m apos) (e::es) [] pos) X.env=(do
   let ov <- eval o X.env
   standAt apos.atName
   let(f,first) <- holding [ov] (getMethod ov m pl)
   callWith pos f first (backTo pos (starEach (e::es) X.env)) (backToKw pos (keywordEach [] X.env))):=by rfl) :
  PE X (.Call (.Attribute o m apos) (e::es) [] pos) (Pl C m sp dE E ta t):=by
 intro pins s σ H Q I h;refine W.methodCall_KW (pl:=pl) (aC (he pins s σ H _ I h) λu s1 ⟨x,H1,I1,rx,a,dx,fs,ex,ea,l,q⟩=>?_) ht;subst ex;obtain rfl:u=Value.ref a:=rx;refine TY I1 ea c hm l ?_;refine W.callWith_K (first:=[.ref a]) (h₀:=X.base) I.ok.mod.jK hm.kp (aC (ha pos pins s1 σ H1 _ I1 q) λus s2 ⟨vs,H2,I2,r,q2⟩=>⟨I2.bU,?_⟩) hst hpl;exact M6 (us:=.ref a::us) (vs:=.ref a::vs) F hr hb hd hx I2 (.cons rfl r) q2
structure Mk (K:W.Frag) (C f:Addr):Prop where
 makes:W.makesIn K C=true
 init:W.findIn K (.ref C) "__init__" = some (some (.ref f))
 fn:W.isFn K (.ref f)=true
 kp:W.keepIn K (.ref C)=true
theorem Zz{pins:List (Addr × Obj)}{σ:St}{H:Hp}{s:Shared}{Q:VK}{us:List Value}{vs:List V}(M:Mk X.K C f)(F:aM X.prog X.w X.K X.mg X.base CX k f fd ps sp)(hr:bj (k+1) X.A)(hb:Binds X.K fd ps ds)(hd:Vals dE ds)(hx:Passes CX X E)(I:Inv X pins σ H s)(r:Vals vs us)(h:∀x dx,H x=none->H dx=none->dx≠x->sp (.ref x::(vs++dE)) (upd (upd H dx (.own x)) x (.ins C dx [])) (λv H2=>v = .non/\Q (.ref x) H2) E):wpAny (model X.prog X.w) X.A (call (.ref C) us) (EP X pins σ Q) X.xe s:=by
 have hq:=h (s.heap.objs.size+1) s.heap.objs.size (I.hok.fresh (rD _)) (I.hok.fresh (aH _)) (a_ (oX _));have I2:=Inv.made (C:=C) I;have r2:Vals (V.ref (s.heap.objs.size+1)::(vs++dE)) (Value.ref (s.heap.objs.size+1)::(us++ds)):=.cons rfl (r.append hd);have hl:(Value.ref (s.heap.objs.size+1)::us++ds).length=ps.length:=by
  have e:=r2.length;rw[F.len _ _ _ _ hq]at e;exact e.symm
 refine mN (Wv (f:=f) I.bU M.makes M.init (gH.mp M.fn) (fM (F.run _ X.stack _ _ ⟨Value.ref (s.heap.objs.size+1)::us,[]⟩ (Value.ref (s.heap.objs.size+1)::(us++ds)) _ _ E (hr.make C us [])
  (I2.env0.make C us []) (hb _ (Value.ref (s.heap.objs.size+1)::us) I2.bU hl) r2 hq) λr s' hq'=>?_))
 cases r with
 |error e=>exact hx pins σ _ _ e s' I2 hq'
 |ok fl =>
  cases fl with
  |ret u =>
   obtain⟨v,H',I3,rv,ev,q3⟩:=I2.after hq';subst ev;exact⟨rv,⟨V.ref (s.heap.objs.size+1),H',I3,rfl,q3⟩⟩
  |next=>exact False.elim hq'
  |brk=>exact False.elim hq'
  |cont=>exact False.elim hq'
theorem Yo(M:Mk X.K C f)(F:aM X.prog X.w X.K X.mg X.base CX k f fd ps sp)(hr:bj (k+1) X.A)(hg:Gl X x)(hm:X.mg x=some (.ref C))(hb:Binds X.K fd ps ds)(hd:Vals dE ds)(hx:Passes CX X E)
  (ha:PA X (e::es) t) (hdb:(x==("__debug__" : Str))=false:=by decide) (he:starEach (e::es) X.env=(false,eval e X.env)::starEach es X.env:=by rfl) (hpl:(backTo pos (starEach es X.env)).any (·.1)=false:=by rfl) :
  PE X (.Call (.Name x p) (e::es) [] pos) (Pk C sp dE E t):=by
 intro pins s σ H Q I h;refine je (qd I hg hm ?_ hdb);refine W.callWith_K (h₀:=X.base) I.ok.mod.jK M.kp (aC (ha pos pins s σ H _ I h) λus s1 ⟨vs,H1,I1,r,q⟩=>⟨I1.bU,?_⟩) he hpl;exact Zz M F hr hb hd hx I1 r q
end
section
variable {X:Cx} {CX:gj} {k:Nat} {f C:Addr} {fd:FuncData} {ps ks:List Str} {sp:Sp} {E:XK} {x m:Str} {p pos apos kpos:Pos} {e o:Expr} {es:List Expr} {kws:List Keyword} {te ta:TE} {t tk:TA} {nm:Option Str}
variable {g:List Value->List Value->List Value} {gV:List V->List V->List V}
end
structure aU (N P:List Str) (sc:Scope):Prop where
 kind:sc.kind = .function
 co:sc.isCoroutine=false
 gen:sc.isGenerator=false
 nd:N.Nodup
 pre:N.take P.length=P
 par:∀x∈P,sc.names.lookup x=some .local\/sc.names.lookup x=some .cell
 K4:∀y∈sc.names,y.2≠.free
theorem GC{kindOf:Str->Option NameKind}{x:Str}:∀{binds:List (Str × Value)} {m:Str->Option Value},(∀v,(x,v) ∉ binds)->bindL kindOf binds m x=m x
 | [],_,_=>rfl
 | (n,v)::r,m,h=>by
  unfold bindL;rw[GC λw hw=>h w (bu _ hw)]
  split
  ·have:x≠n:=by rintro rfl;exact h v bx
   simp[this]
  ·rfl
theorem Gy{kindOf:Str->Option NameKind}{x:Str}:∀{binds:List (Str × Value)} {m:Str->Option Value},(∀v,(x,v) ∉ binds)->bindC kindOf binds m x=m x
 | [],_,_=>rfl
 | (n,v)::r,m,h=>by
  unfold bindC;rw[Gy λw hw=>h w (bu _ hw)]
  split
  ·rfl
  ·have:x≠n:=by rintro rfl;exact h v bx
   simp[this]
theorem Gz{kindOf:Str->Option NameKind}{x:Str}{v:Value}:∀{P:List Str} {vs:List Value} {i:Nat} {m:Str->Option Value},P.Nodup->P[i]?=some x->vs[i]?=some v->kindOf x=some .local->bindL kindOf (P.zip vs) m x=some v
 | [],_,_,_,_,h,_,_=>by simp at h
 |_::_,[],_,_,_,_,h,_=>by simp at h
 |p::P,w::vs,0,m,nd,h1,h2,hk=>by
  simp at h1 h2;subst h1;subst h2;show bindL kindOf ((p,w)::P.zip vs) m p=_;unfold bindL;rw[GC λv hv=>(fe.mp nd).1 (rB hv).1,if_pos hk];simp
 |p::P,w::vs,i+1,m,nd,h1,h2,hk=>by
  show bindL kindOf ((p,w)::P.zip vs) m x=_;unfold bindL;exact Gz (i:=i) (fe.mp nd).2 (by simpa using h1) (by simpa using h2) hk
theorem Gx{kindOf:Str->Option NameKind}{x:Str}{v:Value}:∀{P:List Str} {vs:List Value} {i:Nat} {m:Str->Option Value},P.Nodup->P[i]?=some x->vs[i]?=some v->kindOf x≠some .local->bindC kindOf (P.zip vs) m x=some v
 | [],_,_,_,_,h,_,_=>by simp at h
 |_::_,[],_,_,_,_,h,_=>by simp at h
 |p::P,w::vs,0,m,nd,h1,h2,hk=>by
  simp at h1 h2;subst h1;subst h2;show bindC kindOf ((p,w)::P.zip vs) m p=_;unfold bindC;rw[Gy λv hv=>(fe.mp nd).1 (rB hv).1,if_neg hk];simp
 |p::P,w::vs,i+1,m,nd,h1,h2,hk=>by
  show bindC kindOf ((p,w)::P.zip vs) m x=_;unfold bindC;exact Gx (i:=i) (fe.mp nd).2 (by simpa using h1) (by simpa using h2) hk
noncomputable def start(N:List Str)(vs:List V):St:=vs.map some++List.replicate (N.length - vs.length) none
noncomputable def kh(CX:gj)(P:Program)(w:World)(K:W.Frag)(mg:Str->Option Value)(base:Heap)(N:List Str)(qual:Str)(scope:Scope)(f:Addr)(cd:Value)(A:Around)(outer:List Env)(s:Shared)(H:Hp)(E:XK):Cx where
 prog:=P
 w:=w
 K:=K
 mg:=mg
 base:=base
 A:=A.deeper (envOfC qual scope s.heap.objs.size f cd)
 N:=N
 s₀:=s
 H₀:=H
 env:=envOfC qual scope s.heap.objs.size f cd
 outer:=outer
 stack:=envOfC qual scope s.heap.objs.size f cd::outer
 ex:=[]
 calm:=true
 fn:=λ_=>true
 pn:=[]
 xe:=λe s'=>wpAny (model P w) (A.deeper (envOfC qual scope s.heap.objs.size f cd)) (leaving (envOfC qual scope s.heap.objs.size f cd) e) (λ_ s''=>CX outer H s E e s'') (λe' s''=>CX outer H s E e' s'') s'
theorem GQ{sc:Scope}{n:Nat}{x:Str}(h:sc.names.lookup x=some .cell):∃c,(cellsFrom n sc.names []).lookup x=some c:=by
 have q:=W.cellsFrom_some sc.names n [] (.inl h);exact Option.isSome_iff_exists.mp q
theorem JD{CX:gj}{P:Program}{w:World}{K:W.Frag}{mg:Str->Option Value}{base:Heap}{N ps:List Str}{qual:Str}{scope:Scope}{f:Addr}{cd:Value}{A:Around}{outer:List Env}{s s1:Shared}{H:Hp}{E:XK}{us:List Value}{vs:List V}(S:aU N ps scope)(hd:A.handled=none)(e0:fK P w K mg base A outer s H)(hl:vs.length=ps.length)(r:Vals vs us)(x:InCallC s s.heap.objs.size (bindL (envOfC qual scope s.heap.objs.size f cd).kindOf (ps.zip us) λ_=>none) (cellsFrom (s.heap.objs.size+1) scope.names []) (bindC (envOfC qual scope s.heap.objs.size f cd).kindOf (ps.zip us) λ_=>none) s1):Inv (kh CX P w K mg base N qual scope f cd A outer s H E) [] (start N vs) H s1:=by
 have hpl:ps.length<=N.length:=by have:=congrArg List.length S.pre;rw[iY]at this;omega
 obtain⟨h1,tk,rfl,hk⟩:=x.done;have jM:∀b:Addr,b ∉ (kh CX P w K mg base N qual scope f cd A outer s H E).ex:=λb z=>absurd (show b∈([]:List Addr)from z) (by simp);refine⟨⟨e0.mod,S.kind,rfl,rfl,aH _,λy z c h1 h2=>?_,λy hy=>?_,λy c _ h=>?_,λ_=>hd,Around.frames_deeper e0.frames,.inr ⟨rfl,rfl⟩,λb z=>absurd z (jM b),e0.bs,e0.fS,λb _ _=>jM b,λb z=>absurd z (jM b),e0.d9,e0.iK⟩,
  rfl,e0.bare,Un.kept hk,⟨_,x.toInCall.ns,λi y v h1 h2 h3=>?_⟩,λy c h=>⟨_,x.cell y c h⟩,e0.hok.fresh (aH _),λy c h=>?_,λp hp=>absurd (show p∈([]:List (Addr × Obj))from hp) (by simp),e0.hok.kept hk,?_⟩
 ·exact name_of_addr x.apart (iF h1) (iF h2)
 ·have hy:scope.names.lookup y=some .cell\/scope.names.lookup y=some .free:=hy
  rcases hy with hy|hy
  ·exact GQ hy
  ·exact absurd rfl (S.K4 _ (iF hy))
 ·exact fL (x.above y c (iF h))
 ·have hi:i<vs.length:=by
   unfold start at h2
   by_cases hi:i<vs.length
   ·exact hi
   ·rw[kR (by simpa using hi)]at h2
    rw[Qr]at h2
    split at h2<;>cases h2
  have ha:vs[i]?=some v:=by
   unfold start at h2;rw[mD (by simpa using hi),bC]at h2;cases e:vs[i]? with
   |none=>rw[e]at h2;cases h2
   |some a=>rw[e]at h2;cases h2;rfl
  obtain⟨u,hu,rv⟩:=r.get ha;have hp:ps[i]?=some y:=by
   rw[<- S.pre,Ex (by omega)];exact h1
  have KH:ps.Nodup:=by rw[<- S.pre];exact S.nd.sublist (List.take_sublist _ _)
  refine⟨u,rv,?_⟩
  rcases S.par y (cu hp)with k|k
  ·exact .inl ⟨k,Gz KH hp hu k⟩
  ·obtain⟨c,e⟩:=GQ (n:=s.heap.objs.size+1) k
   refine .inr ⟨.inl k,c,e,?_⟩;have q:=x.cell y c e;rw[Gx KH hp hu (by show scope.names.lookup y≠_;rw[k];decide)]at q;exact q
 ·exact e0.hok.fresh (fL (x.above y c (iF h)))
 ·unfold start
  show _=N.length;rw[de,ao,Qt];omega
theorem HS{CX:gj}{P:Program}{w:World}{K:W.Frag}{mg:Str->Option Value}{base:Heap}{k:Nat}{f:Addr}{name qual:Str}{params:Arguments}{body:List Stmt}{scope:Scope}{dV kV doc pm cdv ct oc:Value}{an od:Option Addr}
  {osl:Array (Option Value)} {N ps:List Str} {sp:Sp} (lk:K.lookup f=some ⟨oc,od,.func (W.fnOf name qual params body scope dV kV doc pm an cdv ct),osl⟩) (hcd:W.codeIn K cdv qual=true) (S:aU N ps scope)
  (len:∀vs H Q E,sp vs H Q E->vs.length=ps.length)
  (hbody:∀(A:Around) (outer:List Env) (s:Shared) (H:Hp) (vs:List V) (Q:VK) (E:XK),bj k (A.deeper (envOfC qual scope s.heap.objs.size f cdv))->sp vs H Q E ->
   ∃t,fj (kh CX P w K mg base N qual scope f cdv A outer s H E) body t/\t {nx:=λ_ H'=>Q .non H',rt:=Q} (start N vs) H) :
  aM P w K mg base CX (k+1) f (W.fnOf name qual params body scope dV kV doc pm an cdv ct) ps sp:=by
 refine⟨len,λA outer s H args us vs Q E hr e0 hb r hsp=>?_⟩;have hl:=len _ _ _ _ hsp;have KX:K.In s.heap:=e0.mod.jK.keeps λb o e=>(e0.bs b o e).1;have lim:s.heap.NoLimit:=e0.mod.nolimit.keeps λb o e=>(e0.bs b o e).1;have hkind:∀y∈ps.zip us,scope.names.lookup y.1=some .local\/(scope.names.lookup y.1=some .cell/\((cellsFrom (s.heap.objs.size+1) scope.names []).lookup y.1).isSome=true):=λ⟨n,v⟩ hy=>by
  rcases S.par n (rB hy).1 with q|q
  ·exact .inl q
  ·exact .inr ⟨q,W.cellsFrom_some _ _ _ (.inl q)⟩
 refine codeAny_call_function hr.depth (KX _ _ lk) rfl S.co S.gen rfl (W.codeRec_of KX hcd) (hb _ _ _ _ ?_);refine wpAny_newFunctionEnv_cells S.kind hkind λenv he s1 x=>?_;subst he;refine⟨lim.keeps x.toInCall.keep,codeAny_func ?_⟩;obtain⟨t,ht,hq⟩:=hbody A outer s H vs Q E (hr.deeper _) hsp;have I:Inv (kh CX P w K mg base N qual scope f cdv A outer s H E) [] (start N vs) H s1:=JD S hr.hd e0 hl r x;refine fO (ht [] s1 (start N vs) H _ I hq) (λfl s' hs=>?_) λe s' hs=>hs;have fin:∀{σ':St} {H':Hp} {v:V} {u:Value},Inv (kh CX P w K mg base N qual scope f cdv A outer s H E) [] σ' H' s'->RelV v u->Q v H'->CE outer P w H s Q u s':=
  λ{σ' H' v u} J rv q=>⟨v,H',J.os,J.bare,J.base,J.hok,rv,q⟩
 cases fl with
 |ret u =>
  obtain⟨v,σ',H',J,rv,q⟩:=hs;exact fin J rv q
 |next =>
  obtain⟨σ',H',J,q⟩:=hs;exact fin (v:=V.non) (u:=Value.none) J rfl q
 |brk =>
  obtain⟨_,_,_,q⟩:=hs;exact False.elim q
 |cont =>
  obtain⟨_,_,_,q⟩:=hs;exact False.elim q
section
variable {X:Cx} {x:Str} {p pos:Pos} {e:Expr} {es:List Expr} {t:TA} {id T:String} {r:List V->Hp->VK->Prop}
noncomputable def O8(r:List V->Hp->VK->Prop)(t:TA):TE:=λσ H Q=>t σ H λvs H1=>r vs H1 Q
theorem cL (hc:cX X (.builtin id) r) (hg:Gl X x) (hm:X.mg x=none) (hv:bootBuiltins x=some (.builtin id)) (ha:PA X (e::es) t) (hn:x ≠ "__name__" :=by decide) (hdb:(x==("__debug__" : Str))=false:=by decide)
  (he:starEach (e::es) X.env=(false,eval e X.env)::starEach es X.env:=by rfl) (hpl:(backTo pos (starEach es X.env)).any (·.1)=false:=by rfl):PE X (.Call (.Name x p) (e::es) [] pos) (O8 r t):=by
 intro pins s σ H Q I h;refine je (iR I hg hm hv ?_ hn hdb);exact PyProof.Rows.callWith_builtin1 (aC (ha pos pins s σ H _ I h) λus s1 ⟨vs,H1,I1,r1,q1⟩=>hc pins s1 σ H1 vs us Q I1 r1 q1) he hpl
theorem eA (hc:cX X (.type T) r) (hg:Gl X x) (hm:X.mg x=none) (hv:bootBuiltins x=some (.type T)) (ha:PA X (e::es) t) (hn:x ≠ "__name__" :=by decide) (hdb:(x==("__debug__" : Str))=false:=by decide)
  (he:starEach (e::es) X.env=(false,eval e X.env)::starEach es X.env:=by rfl) (hpl:(backTo pos (starEach es X.env)).any (·.1)=false:=by rfl):PE X (.Call (.Name x p) (e::es) [] pos) (O8 r t):=by
 intro pins s σ H Q I h;refine je (iR I hg hm hv ?_ hn hdb);exact o8 (aC (ha pos pins s σ H _ I h) λus s1 ⟨vs,H1,I1,r1,q1⟩=>hc pins s1 σ H1 vs us Q I1 r1 q1) he hpl
end
end L2
namespace HT
open PySem PyProof.Rows
noncomputable def lexLt:List Int->List Int->Bool
 | [],[]=>false
 | [],_::_=>true
 |_::_,[]=>false
 |x::xs,y::ys=>if x=y then lexLt xs ys else decide (x<y)
theorem Kj(x y:Int)(xs ys:List Int):lexLt (x::xs) (y::ys)=if x=y then lexLt xs ys else decide (x<y):=rfl
theorem Wm:lexLt [] []=false:=rfl
theorem Wj(y:Int)(ys:List Int):lexLt [] (y::ys)=true:=rfl
theorem Wi(x:Int)(xs:List Int):lexLt (x::xs) []=false:=rfl
theorem Ta(A:Around)(s:Shared)(a:Int)(t:Tok)(c:Int)(u:Tok):∃e,SeqAt.EqAt A s (.int a t) (.int c u) e/\(e=true ↔ a=c):=
 ⟨(a==c),xv a t c u,by simp⟩
theorem Zo(A:Around)(s:Shared)(a:Int)(t:Tok)(c:Int)(u:Tok)(prog:Program)(w:World)(E:Value->Shared->Prop)(Q:Value->Shared->Prop)(h:Q (.bool (decide (a<c))) s):wpAny (model prog w) A (richCompare .Lt (.int a t) (.int c u)) Q E s:=
 (PyProof.Rows.lt_int h:wpAny (model prog w) A (compareOp .Lt (.int a t) (.int c u)) Q E s)
section
open PySem.SeqAt
open PySem.AutoSeq1 (wpAny_loadPart')
open PySem.MeetsSeq PySem.MeetsSeq2 PySem.MeetsSeq3
theorem aaN(l b:Addr)(items items2:Array Value)(n n2:Nat)(dd dd2:Option Addr)(sl sl2:Array (Option Value))(ns ms:List Int)(hi:IntsAre items.toList ns)(hj:IntsAre items2.toList ms):Meets (Builtin.«tuple.__lt__» ⟨[.ref l,.ref b],[]⟩)
   (λ_ R s=>s.heap.get? l=some {cls:=.type "tuple", dict:=dd,data:=.seq items n,slots:=sl}/\s.heap.get? b=some {cls:=.type "tuple", dict:=dd2,data:=.seq items2 n2,slots:=sl2} /\
    R (.ok (.ret (.bool (lexLt ns ms)))) s):=
 .of_wp λprog w A R s h=>by
  obtain⟨hp,g,d,tk,os⟩:=s;obtain⟨hl,hb,h⟩:=h;have f2:=AutoSeq1.sub_tuple_tuple;have z1:items.size=ns.length:=by rw[<- hi.length];simp
  have z2:items2.size=ms.length:=by rw[<- hj.length];simp
  wp_walk using wpAny_loadPart' hl,wpAny_loadPart' hb,wpAny_forIn_list _ (λrest b s'=>b.1=none/\s'=⟨hp,g,d,tk,os⟩/\∃(vs ws:List Value) (ns' oh:List Int),rest=vs.zip ws /\
   IntsAre vs ns'/\IntsAre ws oh/\ns'.length+items2.size=oh.length+items.size/\R (.ok (.ret (.bool (lexLt ns' oh)))) ⟨hp,g,d,tk,os⟩) _
  case turn =>
   rintro⟨y,x⟩ rest b s' ⟨hb',rfl,vs,ws,ns',oh,hz,zZ,hwi,hlen,hR⟩;cases zZ with
   |nil=>rw[List.zip_nil_left]at hz;cases hz
   |cons a t Vj =>
    cases hwi with
    |nil=>rw[List.zip_nil_right]at hz;cases hz
    |cons c u Vl =>
     rw[mE]at hz;injection hz with hyx hrest
     injection hyx with hy hx
     subst hy hx;rw[Kj]at hR;simp only[dW]at hlen;obtain⟨e,he,hiff⟩:=Ta A.in1 ⟨hp,g,d,tk,os⟩ a t c u;refine ae (he prog w _ _ ?_);cases e with
     |true =>
      rw[if_pos (hiff.mp rfl)]at hR
      wp_walk
      exact⟨rfl,rfl,_,_,_,_,hrest,Vj,Vl,by omega,hR⟩
     |false =>
      rw[if_neg (λq=>absurd (hiff.mpr q) Bool.false_ne_true)]at hR;have Vb:=Zo A.in1 ⟨hp,g,d,tk,os⟩ a t c u prog w
      wp_walk using Vb
      exact⟨_,rfl,by simpa using hR⟩
  case fin =>
   rintro⟨b1,b2⟩ s' ⟨hb',rfl,vs,ws,ns',oh,hz,zZ,hwi,hlen,hR⟩;simp only at hb';subst hb';have hv:lexLt ns' oh=decide (items.size<items2.size):=by
    cases zZ with
    |nil =>
     cases hwi with
     |nil =>
      simp only[rn]at hlen;rw[Wm];exact(dr (by omega)).symm
     |cons c u hw =>
      simp only[rn,dW]at hlen;rw[Wj];exact(cC (by omega)).symm
    |cons a t hv =>
     cases hwi with
     |nil =>
      simp only[rn,dW]at hlen;rw[Wi];exact(dr (by omega)).symm
     |cons c u hw =>
      rw[mE]at hz;cases hz
   rw[hv]at hR
   wp_walk
   exact⟨_,rfl,by simpa[Builtin.Tuple.tupleCompareSizes]using hR⟩
  case h =>
   exact⟨rfl,rfl,items.toList,items2.toList,ns,ms,rfl,hi,hj,by omega,h⟩
end
section
variable {prog:Program} {w:World} {A:Around} {E:Value->Shared->Prop} {s:Shared}
theorem Ws{l b:Addr}{items items2:Array Value}{ns ms:List Int}{Q:Value->Shared->Prop}(hl:IsTup s.heap l items)(hb:IsTup s.heap b items2)(hi:IntsAre items.toList ns)(hj:IntsAre items2.toList ms)(hu:A.units<cLine)(h:Q (.bool (lexLt ns ms)) s):wpAny (model prog w) A (compareOp .Lt (.ref l) (.ref b)) Q E s:=by
 obtain⟨⟨cls,dd,data,sl⟩,ho,hc,n,hd⟩:=id hl;obtain⟨⟨cls2,dd2,data2,sl2⟩,ho2,hc2,n2,hd2⟩:=id hb;simp only at hc hd hc2 hd2;subst hc hd hc2 hd2;exact richCompare_meets_room (op:=.Lt) ⟨_,ho,rfl⟩ ⟨_,ho2,rfl⟩ PySem.F.slot_tuple_lt PySem.F.entry_tuple_lt (PySem.F.args_tuple_lt_2 _ _) (aaN l b items items2 n n2 dd dd2 sl sl2 ns ms hi hj)
  ⟨ho,ho2,show Value.bool (lexLt ns ms)≠Value.notImplemented/\Q (.bool (lexLt ns ms)) s from⟨(λx=>nomatch x),h⟩⟩ hu
noncomputable def dS(n d:Nat):Option Int->Nat
 |none=>d
 |some v=>if v<0 then(v+(n:Int)).toNat else min v.toNat n
theorem ZN(n d k:Nat):dS n d (some (k:Int))=min k n:=by
 show(if(k:Int)<0 then((k:Int)+(n:Int)).toNat else min (k:Int).toNat n)=min k n;rw[if_neg (by omega),ck]
end
end HT
namespace L2
open PySem PySem.Spec PyProof.Rows
abbrev TO:=St->Hp->(Option Int->Hp->Prop)->Prop
noncomputable def PO(X:Cx)(e:Option Expr)(t:TO):Prop:=
 ∀(pins:List (Addr × Obj)) (s:Shared) (σ:St) (H:Hp) (Q:Option Int->Hp->Prop),Inv X pins σ H s->t σ H Q ->
  wpAny (model X.prog X.w) X.A (evalPart e X.env) (λu s'=>∃o H',Inv X pins σ H' s'/\IsPart u o/\Q o H') X.xe s
noncomputable def aax:TO:=λ_ H Q=>Q none H
noncomputable def aaC(t:TE):TO:=λσ H Q=>t σ H λx H1=>∃i,x = .int i/\Q (some i) H1
section
variable {X:Cx} {e:Expr} {te:TE} {lo hi:Option Expr} {tl th:TO} {pos p2:Pos}
theorem uG:PO X none aax:=by
 intro pins s σ H Q I h;rw[evalPart_none];exact ak ⟨none,H,I,.none,h⟩
theorem ow(h:PE X e te):PO X (some e) (aaC te):=by
 intro pins s σ H Q I hw;rw[evalPart_some];refine aC (h pins s σ H _ I hw) λu s1 ⟨x,H1,I1,r1,q1⟩=>?_;obtain⟨i,rfl,q⟩:=q1;obtain⟨t,rfl⟩:=r1;exact⟨some i,H1,I1,.int i t,q⟩
noncomputable def xO(X:Cx)(r:V->Option Int->Option Int->Hp->VK->Prop):Prop:=
 ∀(pins:List (Addr × Obj)) (s:Shared) (σ:St) (H:Hp) (x:V) (v vl vu:Value) (lo hi:Option Int) (sl:Addr) (Q:VK),Inv X pins σ H s->RelV x v->s.heap.IsSliceOf sl vl vu .none->IsPart vl lo->IsPart vu hi->r x lo hi H Q ->
  ∃T id,typeLookup (.type T) "__getitem__" = pure (some (.builtin id))/\s.TypeIs v T/\wpAny (model X.prog X.w) X.A (getItem v (.ref sl)) (EP X pins σ Q) X.xe s
noncomputable def tSl(r:V->Option Int->Option Int->Hp->VK->Prop)(te:TE)(tl th:TO):TE:=λσ H Q=>te σ H λx H1=>tl σ H1 λl H2=>th σ H2 λu H3=>r x l u H3 Q
theorem qw{r:V->Option Int->Option Int->Hp->VK->Prop}(hr:xO X r)(he:PE X e te)(hl:PO X lo tl)(hu:PO X hi th):PE X (.Subscript e (.Slice lo hi none p2) pos) (tSl r te tl th):=by
 intro pins s σ H Q I h;refine Subscript_ (aC (he pins s σ H _ I h) λv s1 ⟨x,H1,I1,r1,q1⟩=>?_);refine wpAny_Slice (aC (hl pins s1 σ H1 _ I1 q1) λvl s2 ⟨l,H2,I2,pl,q2⟩=>aC (hu pins s2 σ H2 _ I2 q2) λvu s3 ⟨u,H3,I3,pu,q3⟩=>?_);rw[evalPart_none];refine ak ?_;have I4:Inv X pins σ H3 {s3 with heap:=s3.heap.push {cls:=.type "slice", data:=.fields #[vl,vu,.none]}}:=I3.kept (t':=s3.toks) λb ob q=>aI _ q;obtain⟨T,id,hT,ht,hg⟩:=hr pins {s3 with heap:=s3.heap.push {cls:=.type "slice", data:=.fields #[vl,vu,.none]}} σ H3 x v vl vu l u s3.heap.objs.size Q I4 r1 (Heap.IsSliceOf.new ..) pl pu q3;show wpAny (model X.prog X.w) X.A (subscriptTail e (.Slice lo hi none p2) v (.ref s3.heap.objs.size)) (EP X pins σ Q) X.xe {s3 with heap:=s3.heap.push {cls:=.type "slice", data:=.fields #[vl,vu,.none]}};exact tail_any (ops:=[.ref s3.heap.objs.size,v]) ht hT hg (by with_unfolding_all rfl)
noncomputable def kg(xs:List V)(lo hi:Option Int):List V:=(xs.drop (HT.dS xs.length 0 lo)).take (HT.dS xs.length xs.length hi - HT.dS xs.length 0 lo)
theorem R6(xs:List V)(lo hi:Option Int):(kg xs lo hi).length<=xs.length:=by
 unfold kg;rw[iY,E_];omega
end
noncomputable def iQ(n:Nat)(i:Int):Option Nat:=if 0<=i then(if i<n then some i.toNat else none)else if -(n:Int)<=i then some (i+n).toNat else none
noncomputable def jr{α:Type}(xs:List α)(i:Int):Option α:=(iQ xs.length i).bind λj=>xs[j]?
theorem JL{n:Nat}{i:Int}{j:Nat}(h:iQ n i=some j):seqIndex? i n=some j/\j<n/\-(n:Int)<=i/\i<n:=by
 unfold iQ at h
 by_cases h0:0<=i
 ·rw[if_pos h0]at h
  by_cases h1:i<n
  ·rw[if_pos h1]at h
   have e:i.toNat=j:=df h;exact⟨by rw[seqIndex_of h0 h1,e],by omega,by omega,h1⟩
  ·rw[if_neg h1]at h;cases h
 ·rw[if_neg h0]at h
  by_cases h1:-(n:Int)<=i
  ·rw[if_pos h1]at h
   have e:(i+n).toNat=j:=df h;exact⟨by rw[seqIndex_neg (by omega) h1,e],by omega,h1,by omega⟩
  ·rw[if_neg h1]at h;cases h
theorem Gv{α:Type}{xs:List α}{i:Int}{v:α}(h:jr xs i=some v):∃j,seqIndex? i xs.length=some j/\xs[j]?=some v/\j<xs.length/\-(xs.length:Int)<=i/\i<xs.length:=by
 unfold jr at h;cases e:iQ xs.length i with
 |none=>rw[e]at h;cases h
 |some j =>
  rw[e]at h;obtain⟨h1,h2,h3,h4⟩:=JL e;exact⟨j,h1,h,h2,h3,h4⟩
theorem aS{α:Type}{xs:List α}{j:Nat}{v:α}(h:xs[j]?=some v):jr xs (j:Int)=some v:=by
 have hj:j<xs.length:=(bp.mp h).1;have e:iQ xs.length (j:Int)=some j:=by
  unfold iQ;rw[if_pos (by omega),if_pos (by omega)];simp
 unfold jr;rw[e];exact h
noncomputable def QB(b:Expr):Prop:=∀o i,subscripted b false o i=operate [o,i] (getItem o i)
noncomputable def mw(X:Cx)(r:R2):Prop:=
 ∀(value slice:Expr) (pins:List (Addr × Obj)) (s:Shared) (σ:St) (H:Hp) (x y:V) (v u:Value) (Q:VK),Inv X pins σ H s->RelV x v->RelV y u->r x y H Q ->
  subscripted slice false v u=operate [v,u] (getItem v u)->wpAny (model X.prog X.w) X.A (subscriptTail value slice v u) (EP X pins σ Q) X.xe s
noncomputable def wN(X:Cx)(id:String)(r:V->List V->Hp->VK->Prop):Prop:=
 ∀(pins:List (Addr × Obj)) (s:Shared) (σ:St) (H:Hp) (x:V) (xs:List V) (v:Value) (us:List Value) (Q:VK),Inv X pins σ H s->RelV x v->Vals xs us->r x xs H Q ->
  wpAny (model X.prog X.w) X.A (call (.builtin id) (v::us)) (EP X pins σ Q) X.xe s
section
variable {X:Cx} {a b:Expr} {ta tb:TE} {pos:Pos}
theorem aF{r:R2}(hr:mw X r)(ha:PE X a ta)(hb:PE X b tb)(hs:QB b):PE X (.Subscript a b pos) (vN r ta tb):=by
 intro pins s σ H Q I h;exact Subscript_ (xY ha hb I h λv u s2 x y H2 I2 rx ry q=>hr a b pins s2 σ H2 x y v u Q I2 rx ry q (hs _ _))
noncomputable def MF(K:W.Frag):R2:=λx y H Q=>∃p xs i v,x = .ref p/\y = .int i/\ai K H p xs/\jr xs i=some v/\Q v H
noncomputable def MJ(K:W.Frag):R2:=λx y H Q=>∃p xs i v,x = .ref p/\y = .int i/\ax K H p xs/\jr xs i=some v/\Q v H
theorem VL:mw X (MF X.K):=by
 intro value slice pins s σ H x y v u Q I rx ry h hs;obtain⟨p,xs,i,z,rfl,rfl,hq,he,q⟩:=h;cases rx;obtain⟨t,rfl⟩:=ry;obtain⟨its,r,pl,hz⟩:=I.list hq;obtain⟨j,h1,h2,h3,h4,h5⟩:=Gv he;obtain⟨w,ew,lM⟩:=r.get h2;have hl:=r.length;have hn:=t9;have fin:EP X pins σ Q w s:=⟨z,H,I,lM,q⟩
 by_cases h0:0<=i
 ·have hj:i.toNat=j:=by
   rw[seqIndex_of h0 h5]at h1;exact df h1
  exact item_listR pl.isList h0 (by omega) (by rw[hj];simpa using ew) fin hs
 ·have hj:(i+(its.toArray.size:Int)).toNat=j:=by
   rw[seqIndex_neg (by omega) h4]at h1;rw[bG,<- hl];exact df h1
  exact subscriptTail_builtinR (x:=w) pl.isList.typeIs slot_list_getitem.lookup
   (wpAny_getItem_list_neg (Q:=λr s'=>r=w/\EP X pins σ Q r s') pl.isList (by omega) (by rw[bG]<;>omega) (by omega) (by rw[hj];simpa using ew) ⟨rfl,fin⟩) hs
theorem VN:mw X (MJ X.K):=by
 intro value slice pins s σ H x y v u Q I rx ry h hs;obtain⟨p,xs,i,z,rfl,rfl,hq,he,q⟩:=h;cases rx;obtain⟨t,rfl⟩:=ry;obtain⟨its,r,pl,hz⟩:=I.tuple hq;obtain⟨j,h1,h2,h3,h4,h5⟩:=Gv he;obtain⟨w,ew,lM⟩:=r.get h2;have hl:=r.length;have hn:=t9;have fin:EP X pins σ Q w s:=⟨z,H,I,lM,q⟩;exact subscriptTail_builtinR (x:=w) pl.typeIs slot_tuple_getitem.lookup
  (getItem_tuple (j:=j) (Q:=λr s'=>r=w/\EP X pins σ Q r s') pl (by omega) (by omega) (by rw[bG,<- hl];exact h1) (by simpa using ew) ⟨rfl,fin⟩) hs
theorem Wx (its:List Value) (n j:Nat) (u:Value):Obj.mapSeq (·.setIfInBounds j u) {cls:=.type "list", data:=.seq its.toArray n} = {cls:=.type "list", data:=.seq (its.set j u).toArray n}:=by
 simp[Obj.mapSeq]
theorem Inv.lst{pins:List (Addr × Obj)}{σ:St}{H:Hp}{s:Shared}{p:Addr}{xs:List V}(I:Inv X pins σ H s)(h:H p=some (.lst xs)):
  ∃(its:List Value) (n:Nat),Vals xs its/\s.heap.get? p=some {cls:=.type "list", data:=.seq its.toArray n}/\xs.length<=sizeLine:=by
 obtain⟨z,its,n,r,e⟩:=I.hok p _ h;exact⟨its,n,r,e,z⟩
theorem Inv.Wq{pins:List (Addr × Obj)}{σ:St}{H:Hp}{s:Shared}{p:Addr}{xs ys:List V}{its its':List Value}{n n':Nat}{f:Obj->Obj}(I:Inv X pins σ H s)(h:H p=some (.lst xs))
  (ho:s.heap.get? p=some {cls:=.type "list", data:=.seq its.toArray n}) (hf:f {cls:=.type "list", data:=.seq its.toArray n} = {cls:=.type "list", data:=.seq its'.toArray n'}) (r:Vals ys its') (hz:ys.length<=sizeLine) (t:Nat) :
  Inv X pins σ (upd H p (.lst ys)) {s with heap:=s.heap.update p f,toks:=t}:=by
 have e:(s.heap.update p f).get? p=some {cls:=.type "list", data:=.seq its'.toArray n'}:=by
  rw[pe f ho (by rw[hf]<;>rfl),hf]
 refine I.write (x:=p) (e:=p) (by rw[h];trivial) (.inl rfl) (λb u hb q=>(xr _ _ (b_ hb)).trans q) ⟨_,e⟩ ?_;exact⟨hz,its',n',r,e⟩
noncomputable def Zf:V->V->V->Hp->(Hp->Prop)->Prop:=λo i v H Q=>∃p xs k j,o = .ref p/\i = .int k/\H p=some (.lst xs)/\iQ xs.length k=some j/\Q (upd H p (.lst (xs.set j v)))
theorem set_list:Fx X Zf:=by
 intro pins s σ H o i v ov iv u Q I ro ri rv h;obtain⟨p,xs,k,j,rfl,rfl,hp,hj,q⟩:=h;cases ro;obtain⟨t,rfl⟩:=ri;obtain⟨its,n,r,ho,hz⟩:=I.lst hp;obtain⟨h1,h2,h3,h4⟩:=JL hj;have hl:=r.length;have hn:=t9;have I':Inv X pins σ (upd H p (.lst (xs.set j v))) {s with heap:=s.heap.update p (Obj.mapSeq (·.setIfInBounds j u))}:=
  I.Wq hp ho (Wx its n j u) (r.set rv j) (by rw[Fb];exact hz) s.toks
 by_cases h0:0<=k
 ·have hk:k.toNat=j:=by
   rw[seqIndex_of h0 h4]at h1;exact df h1
  exact W.ki_setAt ho h0 (by omega) (by rw[bG,<- hl];exact h4) (by rw[hk];exact⟨_,I',q⟩)
 ·have hk:(k+(its.toArray.size:Int)).toNat=j:=by
   rw[seqIndex_neg (by omega) h3]at h1;rw[bG,<- hl];exact df h1
  exact W.ki_setBack ho (by omega) (by rw[bG,<- hl];exact h3) (by omega) (by rw[hk];exact⟨_,I',q⟩)
theorem Z6(lo hi:Option Int)(n:Nat):(sliceBounds lo hi none n).1=((HT.dS n 0 lo:Nat):Int)/\(sliceBounds lo hi none n).2.1=((HT.dS n n hi:Nat):Int)/\(sliceBounds lo hi none n).2.2=1:=by
 refine⟨?_,?_,rfl⟩
 ·cases lo with
  |none=>simp[sliceBounds,HT.dS]
  |some i =>
   simp only[sliceBounds,HT.dS,Option.getD_none,show(1:Int) > 0 by decide,jJ]
   by_cases h:i<0
   ·simp only[h,jJ]<;>omega
   ·simp only[h,dQ]<;>omega
 ·cases hi with
  |none=>simp[sliceBounds,HT.dS]
  |some i =>
   simp only[sliceBounds,HT.dS,Option.getD_none,show(1:Int) > 0 by decide,jJ]
   by_cases h:i<0
   ·simp only[h,jJ]<;>omega
   ·simp only[h,dQ]<;>omega
theorem Z5(its:List Value)(lo hi:Option Int):slicePick its.toArray lo hi none=((its.drop (HT.dS its.length 0 lo)).take (HT.dS its.length its.length hi - HT.dS its.length 0 lo)).toArray:=by
 obtain⟨h1,h2,h3⟩:=Z6 lo hi its.toArray.size;unfold slicePick;rw[h1,h2,h3];simp only[sliceRange_one,pick_run,bG]<;>rfl
noncomputable def MK(K:W.Frag):V->Option Int->Option Int->Hp->VK->Prop:=λx lo hi H Q=>∃a xs,x = .ref a/\ai K H a xs/\∀p,H p=none->Q (.ref p) (upd H p (.lst (kg xs lo hi)))
theorem Z4:xO X (MK X.K):=by
 intro pins s σ H x v vl vu lo hi sl Q I rx hs pl pu h;obtain⟨a,xs,rfl,hx,q⟩:=h;cases rx;obtain⟨its,r,ht,hz⟩:=I.list hx;have hlen:=r.length;refine⟨"list", _,slot_list_getitem.lookup,ht.isList.typeIs,?_⟩;refine wpAny_getItem_list_slice ht.isList hs pl pu .none (by simp) ?_ (by rw[bG]<;>omega);rw[Z5,<- hlen];refine⟨.ref s.heap.objs.size,_,I.laid (t':=s.toks) (o:=.lst (kg xs lo hi)) (λb ob q=>aI _ q) (aH _) ?_,rfl,q _ (I.hok.fresh (aH _))⟩;exact⟨cp (R6 xs lo hi) hz,_,0,(r.drop (HT.dS xs.length 0 lo)).take (HT.dS xs.length xs.length hi - HT.dS xs.length 0 lo),bf _ rfl⟩
noncomputable def jD:V->Bool
 |.non=>true
 |.bl _=>true
 |.int _=>true
 |.str _=>true
 |_=>false
noncomputable def jC:V->V->Bool
 |.non,.non=>true
 |.bl a,.bl b=>a==b
 |.bl a,.int b=>(if a then 1 else 0)==b
 |.int a,.bl b=>a==(if b then 1 else 0)
 |.int a,.int b=>a==b
 |.str a,.str b=>a==b
 |_,_=>false
theorem S_{A:Around}{s:Shared}{y x:V}{u v:Value}(ry:RelV y u)(rx:RelV x v)(fy:jD y=true)(fx:jD x=true):SeqAt.EqAt A s u v (jC y x):=by
 cases y with
 |non =>
  cases ry;cases x with
  |non=>cases rx;exact rP _
  |bl b=>cases rx;exact SeqAt.EqAt.none_bool b
  |int b=>obtain⟨t,rfl⟩:=rx;exact SeqAt.EqAt.none_int b t
  |str b=>obtain⟨t,rfl⟩:=rx;exact SeqAt.EqAt.none_str b t
  |_=>exact absurd (show false=true from fx) Bool.false_ne_true
 |bl a =>
  cases ry;cases x with
  |non=>cases rx;exact SeqAt.EqAt.bool_none a
  |bl b=>cases rx;exact xu a b
  |int b=>obtain⟨t,rfl⟩:=rx;exact SeqAt.EqAt.bool_int a b t
  |str b=>obtain⟨t,rfl⟩:=rx;exact SeqAt.EqAt.bool_str a b t
  |_=>exact absurd (show false=true from fx) Bool.false_ne_true
 |int a =>
  obtain⟨t',rfl⟩:=ry;cases x with
  |non=>cases rx;exact SeqAt.EqAt.int_none a t'
  |bl b=>cases rx;exact SeqAt.EqAt.int_bool a t' b
  |int b=>obtain⟨t,rfl⟩:=rx;exact xv a t' b t
  |str b=>obtain⟨t,rfl⟩:=rx;exact SeqAt.EqAt.int_str a t' b t
  |_=>exact absurd (show false=true from fx) Bool.false_ne_true
 |str a =>
  obtain⟨t',rfl⟩:=ry;cases x with
  |non=>cases rx;exact SeqAt.EqAt.str_none a t'
  |bl b=>cases rx;exact SeqAt.EqAt.str_bool a t' b
  |int b=>obtain⟨t,rfl⟩:=rx;exact SeqAt.EqAt.str_int a t' b t
  |str b=>obtain⟨t,rfl⟩:=rx;exact SeqAt.EqAt.str_str a t' b t
  |_=>exact absurd (show false=true from fx) Bool.false_ne_true
 |_=>exact absurd (show false=true from fy) Bool.false_ne_true
noncomputable def jB(x:V)(u:Value):Bool:=match u with
 |.none=>jC .non x
 |.bool b=>jC (.bl b) x
 |.int i _=>jC (.int i) x
 |.str z _=>jC (.str z) x
 |_=>false
theorem HB{x y:V}{u:Value}(r:RelV y u)(f:jD y=true):jB x u=jC y x:=by
 cases y with
 |non=>cases r;rfl
 |bl b=>cases r;rfl
 |int i=>obtain⟨t,rfl⟩:=r;rfl
 |str z=>obtain⟨t,rfl⟩:=r;rfl
 |_=>exact absurd (show false=true from f) Bool.false_ne_true
theorem xU{x:V}:∀{xs:List V} {us:List Value},Vals xs us->xs.all jD=true->us.any (jB x)=xs.any λy=>jC y x
 |_,_,.nil,_=>rfl
 |y::xs,u::us,.cons r t,f=>by
  rw[Er,bw]at f;rw[mz,mz,HB r f.1,xU t f.2]
theorem Aq{A:Around}{s:Shared}{x:V}{v:Value}(rx:RelV x v)(fx:jD x=true):∀{xs:List V} {us:List Value},Vals xs us->xs.all jD=true->∀u∈us,SeqAt.EqAt A s u v (jB x u)
 |_,_,.nil,_=>λu hu=>by cases hu
 |y::xs,u::us,.cons r t,f=>λu' hu=>by
  rw[Er,bw]at f
  rcases aY.mp hu with rfl|hu
  ·rw[HB r f.1];exact S_ r rx f.1 fx
  ·exact Aq rx fx t f.2 u' hu
noncomputable def inV(x:V)(xs:List V):Bool:=xs.any λy=>jC y x
noncomputable def Mz(K:W.Frag)(neg:Bool):R2:=λx y H Q=>∃p xs,y = .ref p/\(ai K H p xs\/ax K H p xs)/\jD x=true/\xs.all jD=true/\Q (.bl (if neg then !inV x xs else inV x xs)) H
theorem X5:bS X (compareOp .In) (Mz X.K false):=by
 intro pins s σ H x y v u Q I rx ry h;obtain⟨p,xs,rfl,hq,fx,fs,q⟩:=h;cases ry
 rcases hq with hq|hq
 ·obtain⟨its,r,pl,hz⟩:=I.list hq
  refine SeqAt.in_listAt (jB x) pl.isList (λw hw=>Aq rx fx r fs w (by simpa using hw)) ⟨.bl _,H,I,rfl,?_⟩;rw[show its.toArray.any (jB x)=its.any (jB x)by simp,xU r fs];exact q
 ·obtain⟨its,r,pl,hz⟩:=I.tuple hq
  refine SeqAt.in_tupleAt (jB x) pl (λw hw=>Aq rx fx r fs w (by simpa using hw)) ⟨.bl _,H,I,rfl,?_⟩;rw[show its.toArray.any (jB x)=its.any (jB x)by simp,xU r fs];exact q
theorem Ru:cX X (.builtin "len") (λxs H Q=>∃p ys,xs = [.ref p]/\(ai X.K H p ys\/ax X.K H p ys)/\Q (.int ys.length) H):=by
 intro pins s σ H xs us Q I r h;obtain⟨p,ys,rfl,hq,q⟩:=h;obtain⟨u,rfl,rx⟩:=vals1 r;cases rx;have hn:=t9
 rcases hq with hq|hq
 ·obtain⟨its,r',pl,hz⟩:=I.list hq
  have hlen:=r'.length;exact Calls.call_len_list pl.isList (by simp only[bG]<;>omega) ⟨.int ys.length,H,I.tok _,⟨s.toks+1,by rw[bG,hlen]⟩,q⟩
 ·obtain⟨its,r',pl,hz⟩:=I.tuple hq
  have hlen:=r'.length;exact len_tuple pl (by simp only[bG]<;>omega) ⟨.int ys.length,H,I.tok _,⟨s.toks+1,by rw[bG,hlen]⟩,q⟩
theorem Rx:cX X (.type "list") (λxs H Q=>∃p ys,xs = [.ref p]/\(ai X.K H p ys\/ax X.K H p ys)/\∀l,H l=none->Q (.ref l) (upd H l (.lst ys))):=by
 intro pins s σ H xs us Q I r h;obtain⟨p,ys,rfl,hq,q⟩:=h;obtain⟨u,rfl,rx⟩:=vals1 r;cases rx;have fin:∀(its:List Value),Vals ys its->ys.length<=sizeLine->∀(h':Heap) (c':Nat),(∀b o',s.heap.get? b=some o'->h'.get? b=some o') ->
   h'.get? s.heap.objs.size=some {cls:=.type "list", dict:=none,data:=.seq its.toArray c',slots:=#[]}->EP X pins σ Q (.ref s.heap.objs.size) {s with heap:=h'}:=λits r' hz h' c' kp e =>
  ⟨.ref s.heap.objs.size,_,I.laid (t':=s.toks) kp (aH _) (show a8 X.prog X.w _ h' _ (.lst ys)from⟨hz,its,c',r',e⟩),rfl,q _ (I.hok.fresh (aH _))⟩
 rcases hq with hq|hq
 ·obtain⟨its,r',pl,hz⟩:=I.list hq
  have hlen:=r'.length;obtain⟨o,ho,hc,n,hd⟩:=pl.isList;exact call_list_seq p (.inl rfl) ho hc hd (λh' c' kp e=>fin its r' hz h' c' kp e) (by simp only[bG]<;>omega)
 ·obtain⟨its,r',pl,hz⟩:=I.tuple hq
  have hlen:=r'.length;obtain⟨o,ho,hc,n,hd⟩:=pl;exact call_list_seq p (.inr rfl) ho hc hd (λh' c' kp e=>fin its r' hz h' c' kp e) (by simp only[bG]<;>omega)
theorem RK:cX X (.type "tuple") (λxs H Q=>∃p ys,xs = [.ref p]/\((ai X.K H p ys/\∀l,H l=none->Q (.ref l) (upd H l (.tup ys)))\/(ax X.K H p ys/\Q (.ref p) H))):=by
 intro pins s σ H xs us Q I r h;obtain⟨p,ys,rfl,h⟩:=h;obtain⟨u,rfl,rx⟩:=vals1 r;cases rx
 rcases h with⟨hq,q⟩|⟨hq,q⟩
 ·obtain⟨its,r',pl,hz⟩:=I.list hq
  have hlen:=r'.length;refine call_tuple_list pl.isList (λh' kp=>?_) (by simp only[bG]<;>omega);have I1:Inv X pins σ H {s with heap:=h'}:=I.kept (t':=s.toks) kp;have I2:Inv X pins σ (upd H h'.objs.size (.tup ys)) {s with heap:=h'.push {cls:=.type "tuple", data:=.seq its.toArray}}:=
   I1.laid (t':=s.toks) (λb o e=>aI _ e) (aH _) (show a8 X.prog X.w _ _ _ (.tup ys)from⟨hz,its,r',IsTup.new _ _,_,bf _ rfl,rfl⟩)
  exact⟨.ref h'.objs.size,_,I2,rfl,q _ (I1.hok.fresh (aH _))⟩
 ·obtain⟨its,r',pl,hz⟩:=I.tuple hq
  exact call_tuple_same pl ⟨.ref p,H,I,rfl,q⟩
noncomputable def PJ(K:W.Frag)(T:String)(x:V)(H:Hp):Prop:=match x with
 |.str _=>T = "str"
 |.int _=>T = "int"
 |.ref p=>(T = "list" /\ ∃xs,ai K H p xs)\/(T = "tuple" /\ ∃o,K.lookup p=some o/\o.cls = .type "tuple" /\ o.dict=none) \/
   (T = "dict" /\ ((∃kvs,H p=some (.dK kvs))\/∃kvs,H p=some (.dT kvs)))\/(T = "set" /\ ∃S n,H p=some (.set S n))\/(T = "tuple" /\ ∃xs,H p=some (.tup xs))
 |_=>False
theorem aaU{pins:List (Addr × Obj)}{σ:St}{H:Hp}{s:Shared}{T:String}{x:V}{v:Value}(I:Inv X pins σ H s)(r:RelV x v)(ty:PJ X.K T x H):s.TypeIs v T/\∀a,v = .ref a->∃ob,s.heap.get? a=some ob/\ob.dict=none:=by
 cases x with
 |str z =>
  obtain⟨t,rfl⟩:=r;cases(show T = "str" from ty);exact⟨typeIs_str s z t,λ_ e=>nomatch e⟩
 |int i =>
  obtain⟨t,rfl⟩:=r;cases(show T = "int" from ty);exact⟨typeIs_int s i t,λ_ e=>nomatch e⟩
 |ref p =>
  cases r
  rcases ty with⟨rfl,xs,hq⟩|⟨rfl,o,hk,hc,hd⟩|⟨rfl,hk⟩|⟨rfl,S,n,hk⟩|⟨rfl,zs,hk⟩
  ·obtain⟨its,_,pl,_⟩:=I.list hq
   refine⟨pl.isList.typeIs,λa e=>?_⟩;cases e;obtain⟨o,n,e,c,hd,_⟩:=pl;exact⟨o,e,hd⟩
  ·refine⟨⟨o,I.bU p o hk,hc⟩,λa e=>?_⟩
   cases e;exact⟨o,I.bU _ o hk,hd⟩
  ·have z:∃o,s.heap.get? p=some o/\o.ExactDict:=by
    rcases hk with⟨kvs,hk⟩|⟨kvs,hk⟩
    ·obtain⟨_,_,_,_,o,_,_,e,ex,_⟩:=I.hok p _ hk
     exact⟨o,e,ex⟩
    ·obtain⟨_,_,_,_,o,_,_,e,ex,_⟩:=I.hok p _ hk
     exact⟨o,e,ex⟩
   obtain⟨o,e,ex⟩:=z;refine⟨⟨o,e,ex.1⟩,λa e2=>?_⟩;cases e2;exact⟨o,e,ex.2.1⟩
  ·obtain⟨o,_,_,_,e,ex,_⟩:=I.hok p _ hk
   refine⟨⟨o,e,ex.1⟩,λa e2=>?_⟩;cases e2;exact⟨o,e,ex.2.1⟩
  ·obtain⟨_,_,_,⟨o2,e2,c2,_⟩,o,e,hd⟩:=(show a8 X.prog X.w H s.heap p (.tup zs)from I.hok p _ hk)
   refine⟨⟨o2,e2,c2⟩,λa e3=>?_⟩;cases e3;exact⟨o,e,hd⟩
 |_=>exact False.elim ty
noncomputable def O7(K:W.Frag)(T:String)(r:V->List V->Hp->VK->Prop)(to:TE)(t:TA):TE:=λσ H Q=>to σ H λx H1=>PJ K T x H1/\t σ H1 λxs H2=>r x xs H2 Q
variable {o e:Expr} {es:List Expr} {to:TE} {t:TA} {name:Str} {apos cpos:Pos} {T id:String} {r:V->List V->Hp->VK->Prop}
theorem Yc (pa:PlainAttrs T) (slot:Slot T name id) (hty:typeOf (.builtin id)=pure (.type "method_descriptor")) (hm:wN X id r) (ho:PE X o to) (ha:PA X (e::es) t)
  (hbase:attributeBase o name X.env (eval o X.env)=eval o X.env:=by rfl)
  (hfew:((backTo cpos (starEach (e::es) X.env)).all (λx=>!x.1)&&(backToKw cpos (keywordEach [] X.env)).all (λx=>x.1.isSome)
   && decide ((e::es).length+([]:List Keyword).length+(if([]:List Keyword).isEmpty then 0 else 1)<30))=true:=by rfl)
  (hline:(apos.endLine==cpos.line)=true:=by rfl) (hs:starEach (e::es) X.env=(false,eval e X.env)::starEach es X.env:=by rfl) (hplain:(backTo cpos (starEach es X.env)).any (·.1)=false:=by rfl) :
  PE X (.Call (.Attribute o name apos) (e::es) [] cpos) (O7 X.K T r to t):=by
 intro pins s σ H Q I h;refine wpAny_Call_method_late hbase hfew hline rfl (aC (ho pins s σ H _ I h) λv s1 ⟨x,H1,I1,r1,ty,q1⟩=>?_);obtain⟨h1,h2⟩:=aaU I1 r1 ty;refine⟨T,id,pa,slot,hty,h1,h2,?_⟩;have hA:=ha cpos pins s1 σ H1 _ I1 q1;rw[hs]at hA ⊢;refine Calls.callWith_builtin (by show(false||(backTo cpos (starEach es X.env)).any (·.1))=false;rw[hplain]<;>rfl) (Calls.evalArgs_plain ?_);exact aC hA λus s2 ⟨vs,H2,I2,r2,q2⟩=>hm pins s2 σ H2 x vs v us Q I2 r1 r2 q2
end
noncomputable def Fj(X:Cx)(id:String)(r:V->List V->Hp->VK->Prop):Prop:=
 ∀(pins:List (Addr × Obj)) (s:Shared) (σ:St) (H:Hp) (x:V) (xs:List V) (v:Value) (us:List Value) (Q:VK),Inv X pins σ H s->RelV x v->Vals xs us->r x xs H Q ->
  wpAny (model X.prog X.w) X.A (call (.builtin id) (v::us)) (EP X pins σ Q) X.xe s
theorem Vals.one{x:V}{us:List Value}(h:Vals [x] us):∃u,us = [u]/\RelV x u:=by
 cases h with
 |cons r t=>cases t;exact⟨_,rfl,r⟩
theorem Vals.two{x y:V}{us:List Value}(h:Vals [x,y] us):∃u v,us = [u,v]/\RelV x u/\RelV y v:=by
 cases h with
 |cons r t =>
  obtain⟨v,rfl,q⟩:=Vals.one t;exact⟨_,_,rfl,r,q⟩
section
variable {X:Cx} {pins:List (Addr × Obj)} {σ:St} {H:Hp} {s:Shared} {l b:Addr} {xs ys zs:List V}
theorem Inv.ua{its its':List Value}{n:Nat}{f:Array Value->Array Value}{t':Nat}(I:Inv X pins σ H s)(hH:H l=some (.lst xs))
  (e:s.heap.get? l=some {cls:=.type "list", data:=.seq its.toArray n}) (hf:f its.toArray=its'.toArray) (hv:Vals ys its') (hz:ys.length<=sizeLine) :
  Inv X pins σ (upd H l (.lst ys)) {s with heap:=s.heap.update l (Obj.mapSeq f),toks:=t'}:=by
 have q:=PySem.IsL.update e f;rw[hf]at q;refine I.write (x:=l) (e:=l) (by rw[hH];exact trivial) (.inl rfl) (λb' u hb hu=>(xr s.heap (Obj.mapSeq f) (b_ hb)).trans hu) ⟨_,q⟩ ?_;exact⟨hz,its',_,hv,q⟩
theorem Inv.t_{its:List Value}{t':Nat}(I:Inv X pins σ H s)(hv:Vals ys its)(hz:ys.length<=sizeLine):
  Inv X pins σ (upd H s.heap.objs.size (.lst ys)) {s with heap:=s.heap.push {cls:=.type "list", data:=.seq its.toArray},toks:=t'}:=
 I.laid (λ_ _ q=>aI _ q) (aH _) ⟨hz,its,0,hv,bf _ rfl⟩
theorem Inv.fresh(I:Inv X pins σ H s):H s.heap.objs.size=none:=I.hok.fresh (aH _)
theorem Inv.lC (I:Inv X pins σ H s) (hH:H l=some (.lst xs)):xs.length<=sizeLine/\∃(its:List Value) (n:Nat),Vals xs its/\xs.length=its.length/\s.heap.get? l=some {cls:=.type "list", data:=.seq its.toArray n}:=by
 obtain⟨z,its,n,r,e⟩:=I.hok l _ hH;exact⟨z,its,n,r,r.length,e⟩
theorem Xe{n:Nat}(h:n<=sizeLine):Builtin.List.listTooLong n=false:=by
 unfold Builtin.List.listTooLong;exact dr (by omega)
end
section
variable {X:Cx}
noncomputable def Y3:V->List V->Hp->VK->Prop:=λx vs H Q=>∃l xs y,x = .ref l/\vs = [y]/\H l=some (.lst xs)/\xs.length<sizeLine/\Q .non (upd H l (.lst (xs++[y])))
theorem qe:Fj X "list.append" Y3:=by
 intro pins s σ H x vs v us Q I rx rv h;obtain⟨l,xs,y,rfl,rfl,hH,hz,q⟩:=h;cases rx;obtain⟨u,rfl,ru⟩:=rv.one;obtain⟨z,its,n,r,hl,e⟩:=I.lC hH;refine call_meets rO ⟨_,e,rfl⟩ F.entry_list_append (F.args_list_append_2 _ _) (PySem.list_append l its.toArray n u (by rw[bG];omega)) ⟨e,?_⟩;refine⟨.non,_,I.ua (its':=its++[u]) hH e (by simp) (r.append (.cons ru .nil)) ?_,rfl,q⟩;rw[de,wJ];omega
noncomputable def Y7:V->List V->Hp->VK->Prop:=λx vs H Q=>∃l b xs zs,x = .ref l/\vs = [.ref b]/\H l=some (.lst xs)/\H b=some (.lst zs)/\xs.length+zs.length<=sizeLine/\Q .non (upd H l (.lst (xs++zs)))
theorem As:Fj X "list.extend" Y7:=by
 intro pins s σ H x vs v us Q I rx rv h;obtain⟨l,b,xs,zs,rfl,rfl,hH,hB,hz,q⟩:=h;cases rx;obtain⟨u,rfl,ru⟩:=rv.one;cases ru;obtain⟨z,its,n,r,hl,e⟩:=I.lC hH;obtain⟨z2,its2,n2,r2,hl2,e2⟩:=I.lC hB;have hsz:its.toArray.size+its2.toArray.size<=sizeLine:=by rw[bG,bG];omega
 have U3:¬ (!its.toArray.isEmpty&&Builtin.List.listTooLong (its.toArray.size+its2.toArray.size))=true:=by
  rw[Xe hsz,Bool.and_false];exact Bool.false_ne_true
 refine call_meets xm ⟨_,e,rfl⟩ F.entry_list_extend (F.args_list_extend_2 _ _)
  (AutoSeq1.list_extend_list_list_0 l its.toArray n b its2.toArray n2 U3 (by rw[bG];omega) (by omega)) ⟨e,e2,?_⟩
 refine⟨.non,_,I.ua (its':=its++its2) hH e (by simp) (r.append r2) ?_,rfl,q⟩;rw[de];omega
noncomputable def Y4:R2:=λx y H Q=>∃l b xs zs,x = .ref l/\y = .ref b/\H l=some (.lst xs)/\H b=some (.lst zs)/\xs.length+zs.length<=sizeLine/\∀p,H p=none->Q (.ref p) (upd H p (.lst (xs++zs)))
theorem uw:bS X (binaryOp .Add) Y4:=by
 intro pins s σ H x y v u Q I rx ry h;obtain⟨l,b,xs,zs,rfl,rfl,hH,hB,hz,q⟩:=h;cases rx;cases ry;obtain⟨z,its,n,r,hl,e⟩:=I.lC hH;obtain⟨z2,its2,n2,r2,hl2,e2⟩:=I.lC hB;refine PySem.P.add_list e e2 ?_ (by rw[bG,bG];omega);have ea:its.toArray++its2.toArray=(its++its2).toArray:=by simp
 rw[ea];exact⟨.ref _,_,I.t_ (t':=s.toks) (r.append r2) (by rw[de];omega),rfl,q _ I.fresh⟩
end
section
variable {prog:Program} {w:World} {A:Around} {E:Value->Shared->Prop} {s:Shared}
end
section
variable {X:Cx}
end
section
variable {κ:Type} [DecidableEq κ]
noncomputable def cS(kvs:List (κ × V))(k:κ):Option V:=(kvs.find? λkv=>decide (kv.1=k)).map (·.2)
noncomputable def putK(kvs:List (κ × V))(k:κ)(v:V):List (κ × V):=
 if(kvs.any λkv=>decide (kv.1=k))=true then kvs.map (λkv=>if kv.1=k then(kv.1,v)else kv)else kvs++[(k,v)]
theorem kM{p:κ × V}{r:List (κ × V)}{k:κ}(e:p.1=k):cS (p::r) k=some p.2:=by simp[cS,oQ,e]
theorem jU{p:κ × V}{r:List (κ × V)}{k:κ}(e:¬ p.1=k):cS (p::r) k=cS r k:=by simp[cS,oQ,e]
theorem DQ(k:κ):∀kvs:List (κ × V),(kvs.any λkv=>decide (kv.1=k))=(cS kvs k).isSome
 | []=>rfl
 |p::r=>by
  rw[mz]
  by_cases e:p.1=k
  ·simp only[kM e,cC e,Bool.true_or,Option.isSome_some]
  ·rw[jU e,dr e,Bool.false_or];exact DQ k r
theorem PN(k j:κ)(y:V):∀kvs:List (κ × V),cS kvs k=none->cS (kvs++[(k,y)]) j=if j=k then some y else cS kvs j
 | [],_=>by
  by_cases e:k=j
  ·rw[if_pos e.symm];exact kM (p:=(k,y)) e
  ·rw[if_neg (λz=>e z.symm)];exact jU (p:=(k,y)) e
 |p::r,hn=>by
  rw[List.cons_append];have hk:¬ p.1=k:=λz=>by rw[kM z]at hn;cases hn
  rw[jU hk]at hn;have ih:=PN k j y r hn
  by_cases e:p.1=j
  ·rw[kM e,kM e,if_neg (λz=>hk (e.trans z))]
  ·rw[jU e,jU e,ih]
theorem Kh(kvs:List (κ × V))(k:κ)(v:V):(putK kvs k v).length<=kvs.length+1:=by
 unfold putK
 split
 ·rw[ao];omega
 ·rw[de,dW,rn];omega
theorem YS{kvs:List (κ × V)}{k:κ}(v:V)(h:cS kvs k=none):putK kvs k v=kvs++[(k,v)]:=by
 unfold putK;rw[DQ,h];exact if_neg (by decide)
theorem d6.VF{o:Option V}{u:Option Value}(r:d6 o u):o.isSome=u.isSome:=by
 cases o with
 |none=>cases u with
  |none=>rfl
  |some _=>exact(show False from r).elim
 |some _=>cases u with
  |none=>exact(show False from r).elim
  |some _=>rfl
theorem d6.getD{o:Option V}{u:Option Value}{d:V}{d':Value}(r:d6 o u)(rd:RelV d d'):RelV (o.getD d) (u.getD d'):=by
 cases o with
 |none=>cases u with
  |none=>exact rd
  |some _=>exact(show False from r).elim
 |some _=>cases u with
  |none=>exact(show False from r).elim
  |some _=>exact r
theorem KV.val{kvs:List (κ × V)}{vs:List (κ × Value)}(r:KV kvs vs)(k:κ):d6 (cS kvs k) (valueAt vs k):=by
 unfold KV at r
 induction r with
 |nil=>exact True.intro
 | @cons p q ps qs h t ih =>
  obtain⟨h1,h2⟩:=h
  by_cases e:p.1=k
  ·have e':q.1=k:=h1.symm.trans e
   have b:valueAt (q::qs) k=some q.2:=by simp[valueAt,oQ,e']
   rw[kM e,b];exact h2
  ·have e':¬ q.1=k:=λz=>e (h1.trans z)
   have b:valueAt (q::qs) k=valueAt qs k:=by simp[valueAt,oQ,e']
   rw[jU e,b];exact ih
theorem KV.any{kvs:List (κ × V)}{vs:List (κ × Value)}(r:KV kvs vs)(k:κ):(kvs.any λkv=>decide (kv.1=k))=vs.any λkv=>decide (kv.1=k):=by
 unfold KV at r
 induction r with
 |nil=>rfl
 |cons h t ih=>rw[mz,mz,ih,h.1]
theorem KV.repl{kvs:List (κ × V)}{vs:List (κ × Value)}(r:KV kvs vs)(k:κ){y:V}{u:Value}(ry:RelV y u):
  KV (kvs.map λkv=>if kv.1=k then(kv.1,y)else kv) (vs.map λkv=>if kv.1=k then(kv.1,u)else kv):=by
 unfold KV at r ⊢
 induction r with
 |nil=>exact .nil
 | @cons p q ps qs h t ih =>
  rw[bA,bA];refine .cons ?_ ih;obtain⟨h1,h2⟩:=h
  by_cases e:p.1=k
  ·rw[if_pos e,if_pos (h1.symm.trans e)];exact⟨h1,ry⟩
  ·rw[if_neg e,if_neg (λz=>e (h1.trans z))];exact⟨h1,h2⟩
theorem KV.put{kvs:List (κ × V)}{vs:List (κ × Value)}(r:KV kvs vs)(k:κ){y:V}{u:Value}(ry:RelV y u):KV (putK kvs k y) (stored vs k u):=by
 unfold putK stored;rw[r.any k]
 by_cases e:(vs.any λkv=>decide (kv.1=k))=true
 ·rw[if_pos e,if_pos e];exact r.repl k ry
 ·rw[if_neg e,if_neg e];exact Paired.snoc r ⟨rfl,ry⟩
theorem KV.length{kvs:List (κ × V)}{vs:List (κ × Value)}(r:KV kvs vs):kvs.length=vs.length:=dh r
end
theorem Ad{P:Program}{w:World}{k:Key}{u:Value}(r:RelV (kV k) u):(du P w).is k u=true:=by
 cases k with
 |inl i=>obtain⟨t,e⟩:=(show ∃t,u=Value.int i t from r);subst e;exact WW P w i t
 |inr x=>obtain⟨t,e⟩:=(show ∃t,u=Value.str x t from r);subst e;exact WX P w x t
theorem V0{P:Program}{w:World}{k:Key}{v:V}{u:Value}(q:JQ k v)(r:RelV v u):(du P w).is k u=true:=by
 rcases q with e|⟨b,e,ek⟩
 ·subst e;exact Ad r
 ·subst e;subst ek;cases(show u=Value.bool b from r);exact V2 b
theorem JH{P:Program}{w:World}:∀{ks:List Key} {ws:List V} {us:List Value},t5 ks ws->Vals ws us->ItemsAre (du P w) ks us
 |_,_,_,.nil,.nil=>.nil
 |_,_,_,.cons q t,.cons h t'=>.cons (V0 q h) (JH t t')
abbrev KT (H:Hp):List (List Key × V)->List (List Key × Addr × Value)->Prop:=Paired λp q=>p.1=q.1/\jo H q.2.1 p.1/\RelV p.2 q.2.2
theorem KT.val{H:Hp}{kvs:List (List Key × V)}{xs:List (List Key × Addr × Value)}(r:KT H kvs xs)(k:List Key):d6 (cS kvs k) ((atKey xs k).map (·.2)):=by
 induction r with
 |nil=>exact True.intro
 | @cons p q ps qs h t ih =>
  obtain⟨h1,_,h2⟩:=h
  by_cases e:p.1=k
  ·have e':q.1=k:=h1.symm.trans e
   have b:atKey (q::qs) k=some q.2:=by simp[atKey,oQ,e']
   rw[kM e,b];exact h2
  ·have e':¬ q.1=k:=λz=>e (h1.trans z)
   have b:atKey (q::qs) k=atKey qs k:=by simp[atKey,oQ,e']
   rw[jU e,b];exact ih
theorem KT.repl{H:Hp}{kvs:List (List Key × V)}{xs:List (List Key × Addr × Value)}(r:KT H kvs xs)(k:List Key){y:V}{u:Value}(ry:RelV y u):
  KT H (kvs.map λkv=>if kv.1=k then(kv.1,y)else kv) (xs.map (putAt k u)):=by
 induction r with
 |nil=>exact .nil
 | @cons p q ps qs h t ih =>
  rw[bA,bA];refine .cons ?_ ih;obtain⟨h1,h2,h3⟩:=h;unfold putAt
  by_cases e:p.1=k
  ·rw[if_pos e,if_pos (h1.symm.trans e)];exact⟨h1,h2,ry⟩
  ·rw[if_neg e,if_neg (λz=>e (h1.trans z))];exact⟨h1,h2,h3⟩
theorem KT.put{H:Hp}{kvs:List (List Key × V)}{xs:List (List Key × Addr × Value)}(r:KT H kvs xs)(k:List Key){b:Addr}{y:V}{u:Value}(hb:jo H b k)(ry:RelV y u):KT H (putK kvs k y) (storedH xs k b u):=by
 have e:(kvs.any λkv=>decide (kv.1=k))=(atKey xs k).isSome:=by
  rw[DQ,(r.val k).VF,Option.isSome_map]
 unfold putK storedH;rw[e]
 by_cases q:(atKey xs k).isSome=true
 ·rw[if_pos q,if_pos q];exact r.repl k ry
 ·rw[if_neg q,if_neg q];exact Paired.snoc r ⟨rfl,hb,ry⟩
theorem KT.keeps{H H':Hp}{kvs:List (List Key × V)}{xs:List (List Key × Addr × Value)}(r:KT H kvs xs)(ht:∀b ys,H b=some (.tup ys)->H' b=some (.tup ys)):KT H' kvs xs:=
 Paired.di r λ_ _ z=>⟨z.1,(let⟨ws,k1,k2⟩:=z.2.1;⟨ws,k1,ht _ _ k2⟩),z.2.2⟩
section
variable {P:Program} {w:World} {H:Hp} {h:Heap} {a:Addr}
theorem M5{u:HO}(ok:bJ P w H h)(e:Rd H a u):a8 P w H h a u:=e.ok ok
theorem yv{kvs:List (Key × V)}(ok:bJ P w H h)(e:Rd H a (.dK kvs)):kvs.length<=sizeLine/\(a==sysModules)=false/\∃vs,KV kvs vs/\h.DictOf (du P w) a vs:=
 show a8 P w H h a (.dK kvs)from M5 ok e
theorem Sf{kvs:List (Key × V)}(ok:bJ P w H h)(e:H a=some (.dK kvs)):kvs.length<=sizeLine/\(a==sysModules)=false/\∃vs,KV kvs vs/\h.DictOf (du P w) a vs:=yv ok (.inl e)
theorem nZ{ks:List Key}(ok:bJ P w H h)(e:jo H a ks):(tupleKind (du P w)).is h ks a:=by
 obtain⟨ws,q,e⟩:=e;obtain⟨_,its,r,⟨o,h1,h2,n,h3⟩,_⟩:=(show a8 P w H h a (.tup ws)from ok a _ e);exact⟨o,its.toArray,n,h1,h2,h3,by simpa using JH q r⟩
theorem yw{kvs:List (List Key × V)}(ok:bJ P w H h)(e:Rd H a (.dT kvs)):kvs.length<=sizeLine/\(a==sysModules)=false/\∃xs,KT H kvs xs/\h.DictOfH (tupleKind (du P w)) a xs:=by
 obtain⟨z,y,xs,r,o,es,ep,h1,h2,h3,h4,h5⟩:=(show a8 P w H h a (.dT kvs)from M5 ok e);refine⟨z,y,xs,r,o,es,ep,h1,h2,h3,h4,λx hx=>?_,h5⟩;have all:∀{l:List (List Key × V)} {m:List (List Key × Addr × Value)},KT H l m->∀x∈m,(tupleKind (du P w)).is h x.1 x.2.1:=by
  intro l m q
  induction q with
  |nil=>intro x hx;exact nomatch hx
  | @cons p q ps qs hq t ih =>
   intro x hx
   rcases aY.mp hx with e|hx
   ·subst e
    exact nZ ok (by rw[<- hq.1];exact hq.2.1)
   ·exact ih x hx
 exact all r x hx
theorem Hm{kvs:List (List Key × V)}(ok:bJ P w H h)(e:H a=some (.dT kvs)):kvs.length<=sizeLine/\(a==sysModules)=false/\∃xs,KT H kvs xs/\h.DictOfH (tupleKind (du P w)) a xs:=yw ok (.inl e)
end
noncomputable def oK(H:Hp)(a:Addr)(y:V)(r:Option V):Prop:=
 (∃kvs k,Rd H a (.dK kvs)/\y=kV k/\r=cS kvs k)\/∃kvs k b,Rd H a (.dT kvs)/\y = .ref b/\jo H b k/\r=cS kvs k
noncomputable def oM(H:Hp)(a:Addr)(y v:V)(H':Hp):Prop:=
 (∃kvs k,H a=some (.dK kvs)/\y=kV k/\kvs.length<sizeLine/\H'=upd H a (.dK (putK kvs k v))) \/
 ∃kvs k b,H a=some (.dT kvs)/\y = .ref b/\jo H b k/\kvs.length<sizeLine/\H'=upd H a (.dT (putK kvs k v))
theorem oK.t{H:Hp}{a b:Addr}{kvs:List (List Key × V)}{k:List Key}(e:H a=some (.dT kvs))(eb:jo H b k):oK H a (.ref b) (cS kvs k):=.inr ⟨kvs,k,b,.inl e,rfl,eb,rfl⟩
theorem oM.t{H:Hp}{a b:Addr}{kvs:List (List Key × V)}{k:List Key}{v:V}(e:H a=some (.dT kvs))(eb:jo H b k)(hl:kvs.length<sizeLine):oM H a (.ref b) v (upd H a (.dT (putK kvs k v))):=.inr ⟨kvs,k,b,e,rfl,eb,hl,rfl⟩
section
variable {X:Cx} {pins:List (Addr × Obj)} {σ:St} {H:Hp} {s:Shared} {a:Addr} {y v:V} {u r:Value} {o:Option V} {A:Around} {E:Value->Shared->Prop}
theorem Inv.big(I:Inv X pins σ H s):sysModules<s.heap.objs.size:=by
 have h:mainGlobals<s.heap.objs.size:=(I.mod.glob.keeps I.bk).lt;exact wX (by decide) h
theorem pT{h':Heap}{t':Nat}{ob:HO}(I:Inv X pins σ H s)(mu:oT (H a))(hs:Heap.SameBut a s.heap h')(he:∃q,h'.get? a=some q)(new:a8 X.prog X.w (upd H a ob) h' a ob):
  Inv X pins σ (upd H a ob) {s with heap:=h',toks:=t'}:=
 I.write (x:=a) (e:=a) mu (.inl rfl) (λb q hb z=>(hs.2 b hb).trans z) he new
theorem Se{P:Program}{w:World}{H':Hp}{h':Heap}{kvs:List (Key × V)}{vs:List (Key × Value)}(z:kvs.length<=sizeLine)(hd:(a==sysModules)=false)(rel:KV kvs vs)(dd:h'.DictOf (du P w) a vs):a8 P w H' h' a (.dK kvs):=⟨z,hd,vs,rel,dd⟩
theorem Sb{H':Hp}{Q:Unit->Shared->Prop}(hu:A.units+1<cLine)(I:Inv X pins σ H s)(g:oM H a y v H')(ry:RelV y u)(rv:RelV v r)(h:∀s',Inv X pins σ H' s'->Q () s'):wpAny (model X.prog X.w) A (setItem (.ref a) u r) Q E s:=by
 rcases g with⟨kvs,k,e,ey,l,eH⟩|⟨kvs,k,b,e,ey,eb,l,eH⟩
 ·subst ey eH
  obtain⟨z,hd,vs,rel,dd⟩:=Sf I.hok e;have hz:vs.length<=sizeLine:=by rw[<- rel.length];exact z
  have hl:(putK kvs k v).length<=sizeLine:=by have:=Kh kvs k v;omega
  refine wpAny_setItem_pairs (hsz:=hz) (Ad ry) dd λh' fz hs=>h _ ?_;have he:∃q,h'.get? a=some q:=let⟨q,_,_,hq,_⟩:=fz;⟨q,hq⟩
  exact pT I (by rw[e];exact True.intro) hs he (Se hl hd (rel.put k rv) fz)
 ·subst ey eH
  cases(show u=Value.ref b from ry);obtain⟨z,hd,xs,rel,dd⟩:=Hm I.hok e;have hz:xs.length<=sizeLine:=by rw[<- dh rel];exact z
  have hl:(putK kvs k v).length<=sizeLine:=by have:=Kh kvs k v;omega
  refine wpAny_setItem_heap (hsz:=hz) (FT hu) (nZ I.hok eb) dd λh' fz hs=>h _ ?_;obtain⟨q,es,ep,hq,h2,h3,h4,_,h5⟩:=fz;refine pT I (by rw[e];exact True.intro) hs ⟨q,hq⟩ ⟨hl,hd,_,(rel.put k eb rv).keeps λc ys ec=>?_,q,es,ep,hq,h2,h3,h4,h5⟩;rw[aG (jL ec e (λz=>nomatch z))];exact ec
end
section
variable {X:Cx} {pins:List (Addr × Obj)} {σ:St} {H:Hp} {s:Shared} {a:Addr} {kvs:List (Key × V)} {k:Key} {u:Value} {A:Around} {E:Value->Shared->Prop}
end
noncomputable def ZK(td ty tv:TE):TS:=λD σ H=>tv σ H λv H1=>td σ H1 λx H2=>ty σ H2 λy H3=>∃a H4,x = .ref a/\oM H3 a y v H4/\D.nx σ H4
section
variable {X:Cx} {o i e value:Expr} {pos pos' tpos:Pos} {td ty tv:TE}
theorem YJ(hu:X.A.units+1<cLine)(ho:PE X o td)(hi:PE X i ty)(hv:PE X value tv)(hs:swapsWith value (some (.Subscript o i pos')) pos.line X.env=pure false):PS X (.Assign [.Subscript o i pos'] value pos) (ZK td ty tv):=by
 intro pins s σ H D I h;refine FV (aC (hv pins s σ H _ I h) λr s1 ⟨v,H1,I1,rv,q1⟩=>aC (ho pins s1 σ H1 _ I1 q1) λu s2 ⟨x,H2,I2,rx,q2⟩=>aC (hi pins s2 σ H2 _ I2 q2) λiv s3 ⟨y,H3,I3,ry,a,H4,ex,g,q3⟩=>?_) hs;subst ex;obtain rfl:u=Value.ref a:=rx;exact Sb hu I3 g ry rv λs4 I4=>⟨σ,H4,I4,q3⟩
end
theorem Hl {P:Program} {w:World} {H:Hp} (h:Heap) (hb:sysModules<h.objs.size):a8 P w H (h.push {cls:=.type "dict", data:=.dict #[]}) h.objs.size (.dT []):=
 ⟨bM _,kf.mpr (b_ (a_ hb)),[],.nil,_,#[],0,bf _ rfl,⟨rfl,rfl,rfl⟩,rfl,rfl,Fd⟩
noncomputable def aas:TE:=λ_ H Q=>∀p,H p=none->Q (.ref p) (upd H p (.dT []))
section
variable {X:Cx} {pos:Pos}
theorem Ym:PE X (.Dict [] [] pos) aas:=λpins s σ H Q I h =>
 wpAny_Dict_empty ⟨.ref s.heap.objs.size,_,I.laid (a:=s.heap.objs.size) (o:=.dT []) (t':=s.toks) (λ_ _ q=>aI _ q) (aH _) (Hl s.heap I.big),rfl,h _ (I.hok.fresh (aH _))⟩
end
noncomputable def Pp:List (TE × TE)->St->Hp->(List (V × V)->Hp->Prop)->Prop
 | [],_,H,Q=>Q [] H
 | (tk,tv)::r,σ,H,Q=>tk σ H λx H1=>tv σ H1 λy H2=>Pp r σ H2 λps H3=>Q ((x,y)::ps) H3
abbrev VV:List (V × V)->List (Value × Value)->Prop:=Paired λp q=>RelV p.1 q.1/\RelV p.2 q.2
noncomputable def rK(X:Cx)(pos:Pos)(keys:List (Option Expr))(values:List Expr)(vR:List (TE × TE)):Prop:=
 ∀(pins:List (Addr × Obj)) (s:Shared) (σ:St) (H:Hp) (Q:List (V × V)->Hp->Prop),Inv X pins σ H s->Pp vR σ H Q ->
  wpAny (model X.prog X.w) X.A (evalPairs (pairTrees keys values X.env pos)) (λvs s'=>∃ps H',Inv X pins σ H' s'/\VV ps vs/\Q ps H') X.xe s
theorem YH{X:Cx}{pos:Pos}:rK X pos [] [] []:=λpins s σ H Q I h=>pairTrees_nil_walk ⟨[],H,I,.nil,h⟩
theorem YG{X:Cx}{pos:Pos}{k v:Expr}{ks:List (Option Expr)}{vs:List Expr}{tk tv:TE}{vR:List (TE × TE)}(hk:PE X k tk)(hv:PE X v tv)(hr:rK X pos ks vs vR):
  rK X pos (some k::ks) (v::vs) ((tk,tv)::vR):=λpins s σ H Q I h =>
 pairTrees_cons_walk (aC (hk pins s σ H _ I h) λu s1 ⟨x,H1,I1,rx,q1⟩=>aC (hv pins s1 σ H1 _ I1 q1) λw2 s2 ⟨y,H2,I2,ry,q2⟩ =>
  aC (hr pins s2 σ H2 _ I2 q2) λws s3 ⟨ps,H3,I3,rel,q3⟩=>⟨(x,y)::ps,H3,I3,.cons ⟨rx,ry⟩ rel,q3⟩)
structure M1 (X:Cx) (o:Expr) (m:Str) (apos:Pos) (e:Expr) (cpos:Pos):Prop where
 base:attributeBase o m X.env (eval o X.env)=eval o X.env
 few:((backTo cpos (starEach [e] X.env)).all (λx=>!x.1)&&(backToKw cpos (keywordEach [] X.env)).all (λx=>x.1.isSome)
  && decide (([e]:List Expr).length+([]:List Keyword).length+(if([]:List Keyword).isEmpty then 0 else 1)<30))=true
 line:(apos.endLine==cpos.line)=true
 trees:backTo cpos (starEach [e] X.env) = [(false,eval e X.env)]
structure M2 (X:Cx) (o:Expr) (m:Str) (apos:Pos) (e f:Expr) (cpos:Pos):Prop where
 base:attributeBase o m X.env (eval o X.env)=eval o X.env
 few:((backTo cpos (starEach [e,f] X.env)).all (λx=>!x.1)&&(backToKw cpos (keywordEach [] X.env)).all (λx=>x.1.isSome)
  && decide (([e,f]:List Expr).length+([]:List Keyword).length+(if([]:List Keyword).isEmpty then 0 else 1)<30))=true
 line:(apos.endLine==cpos.line)=true
 trees:backTo cpos (starEach [e,f] X.env) = [(false,eval e X.env),(false,eval f X.env)]
noncomputable def En(H:Hp)(a:Addr):Prop:=(∃kvs,Rd H a (.dK kvs))\/∃kvs,Rd H a (.dT kvs)
theorem VD{X:Cx}{pins:List (Addr × Obj)}{σ:St}{H:Hp}{s:Shared}{a:Addr}(I:Inv X pins σ H s)(d:En H a):
  s.TypeIs (.ref a) "dict" /\ (∀b,Value.ref a = .ref b->∃ob,s.heap.get? b=some ob/\ob.dict=none)/\(a==sysModules)=false:=by
 rcases d with⟨kvs,e⟩|⟨kvs,e⟩
 ·obtain⟨_,hd,vs,_,dd⟩:=yv I.hok e
  refine⟨dd.typeIs,λb q=>?_,hd⟩;cases q;obtain⟨ob,_,_,h1,h2,_⟩:=dd;exact⟨ob,h1,h2.2.1⟩
 ·obtain⟨_,hd,xs,_,dd⟩:=yw I.hok e
  refine⟨dd.typeIs,λb q=>?_,hd⟩;cases q;obtain⟨ob,_,_,h1,h2,_⟩:=dd;exact⟨ob,h1,h2.2.1⟩
section
variable {X:Cx} {pins:List (Addr × Obj)} {σ:St} {H:Hp} {s:Shared} {a:Addr} {y d:V} {u r:Value} {o:Option V} {A:Around} {E:Value->Shared->Prop}
theorem R_{Q:Value->Shared->Prop}(hu:A.units+1<cLine)(I:Inv X pins σ H s)(g:oK H a y o)(ry:RelV y u)(h:∀w' s',Inv X pins σ H s'->RelV (o.getD .non) w'->Q w' s'):
  wpAny (model X.prog X.w) A (call (.builtin "dict.get") [.ref a,u]) Q E s:=by
 rcases g with⟨kvs,k,e,ey,l⟩|⟨kvs,k,b,e,ey,eb,l⟩
 ·subst ey
  obtain⟨z,hd,vs,rel,dd⟩:=yv I.hok e;refine call_meetsIn FH dd.typeIs QG (QC _ _) (meets_dict_get (du X.prog X.w) a (Ad ry) hd) ⟨_,dd.mapOf,h _ _ (I.tok _) ?_⟩;rw[l];exact(rel.val k).getD rfl
 ·subst ey
  cases(show u=Value.ref b from ry);obtain⟨z,hd,xs,rel,dd⟩:=yw I.hok e;refine call_meetsIn FH dd.typeIs QG (QC _ _) (meetsH_dict_get (tupleKind (du X.prog X.w)) a b hd) ⟨FT hu,k,xs,nZ I.hok eb,dd,h _ _ (I.tok _) ?_⟩;rw[l];exact(rel.val k).getD rfl
end
noncomputable def aaq(td ty:TE):TE:=λσ H Q=>td σ H λx H1=>∃a,x = .ref a/\En H1 a/\ty σ H1 λy H2=>∃o,oK H2 a y o/\Q (o.getD .non) H2
section
variable {X:Cx} {o e f:Expr} {apos cpos:Pos} {td ty tx:TE}
theorem Yj (hu:X.A.units+1<cLine) (ho:PE X o td) (he:PE X e ty) (m:M1 X o "get" apos e cpos):PE X (.Call (.Attribute o "get" apos) [e] [] cpos) (aaq td ty):=by
 intro pins s σ H Q I h;refine wpAny_Call_method m.base m.few m.line PySem.F.plainAttrs_dict FH PySem.F.type_dict_get (aC (ho pins s σ H _ I h) λu s1 ⟨x,H1,I1,rx,a,ex,d,q1⟩=>?_);subst ex;obtain rfl:u=Value.ref a:=rx;obtain⟨t1,t2,_⟩:=VD I1 d;refine⟨t1,t2,?_⟩;rw[m.trees];refine Calls.callWith_builtin rfl (Calls.evalArgs_plain (Calls.spliced_cons (aC (he pins s1 σ H1 _ I1 q1) λiv s2 ⟨y,H2,I2,ry,ov,g,q2⟩=>Calls.spliced_nil ?_)));exact R_ hu I2 g ry λw' s3 I3 lM=>⟨_,H2,I3,lM,q2⟩
end
section
variable {X:Cx} {pins:List (Addr × Obj)} {σ:St} {H:Hp} {s:Shared} {a:Addr} {kvs:List (Key × V)} {A:Around} {E:Value->Shared->Prop}
end
section
variable {X:Cx} {pins:List (Addr × Obj)} {σ:St} {H:Hp} {s:Shared} {a:Addr} {y:V} {u:Value} {A:Around} {E:Value->Shared->Prop}
end
end L2
namespace Ee
open PySem PySem.W PySem.Calls PyProof.Rows
theorem Vz{P:Params}{h:Heap}:∀(ns:List Int) (vs:List Value),WellAll P h vs (ns.map WData.int)->IntsAre vs ns:=by
 intro ns
 induction ns with
 |nil =>
  intro vs w;rw[List.map_nil]at w;cases w;exact .nil
 |cons n ns ih =>
  intro vs w;rw[bA]at w;cases w with
  |cons a b =>
   cases a;exact .cons _ _ (ih _ b)
theorem ZS{l:OpenLaw}{n:Nat}(hn:l.most=some n){P:Params}{h:Heap}{args:List WData}{vals:List Value}(hpre:l.row.toRowW.claim.pre args=true)(hwl:WellAll P h vals args):
  ∃a vs ns,vals = [Value.ref a]/\args = [WData.list (ns.map WData.int)]/\h.get? a=some {cls:=.type "list", data:=.seq vs.toArray}/\IntsAre vs ns/\ns.length<=n:=by
 have hsh:WShape.hasAll [] args [.list .int]=true:=(pre_splitW hpre).1;have hc:l.pre.holds [] {args:=args}=true:=(pre_splitW hpre).2;obtain⟨d,r,rfl,h1,h2⟩:=hasAllW_cons hsh;obtain rfl:=hasAllW_nil h2;obtain⟨xs,rfl,h3⟩:=hasW_list h1;obtain⟨ns,rfl⟩:=items_int h3;have hlen:ns.length<=n:=by
  unfold OpenLaw.pre at hc;have h4:(WTm.not (.lt (.lit (.int (n:Int))) (.len (.arg 0)))).holds [] {args:=[.list (ns.map .int)]}=true:=by
   have h4:=(holds_andW hc).1;rw[hn]at h4;exact h4
  have h5:=condW_of h4 (w_not (w_lt w_lit (w_len_list (w_arg rfl))));rw[ao]at h5;refine i_ λq=>?_;have q':(n:Int)<((ns.length:Nat):Int):=by omega
  first
   | (rw[cC q']at h5;exact absurd h5 (by decide))
   | (simp at h5;omega)
 cases hwl with
 |cons w1 w2 =>
  cases w2;cases w1 with
  |list ho hall=>exact⟨_,_,ns,rfl,rfl,ho,Vz ns _ hall,hlen⟩
theorem YF(l:OpenLaw)(args:List WData):l.row.toRowW.claim.post args (.bool true) args=true:=
 postW_of (r:=l.row.toRowW) (X:=(true==true))
  (show WShape.has [] (.bool true) .bool=true by first|rfl|decide|simp[WShape.has,WShape.arms,WShape.armsAll])
  (show(WTm.eq .res (.lit (.bool true))).value [] {args:=args,res:=some (.bool true),after:=args}=some (.bool (true==true))from w_eq_bool (w_res rfl) w_lit) rfl
theorem Q7{l:OpenLaw}{n:Nat}{q:Program}{loose:List Str}{XP:(Str->Option Value)->Heap->Prop}{YP:World->Heap->Prop}{d:DefRec}(hn:l.most=some n)(hdf:d.params.defaults = [])
  (call:∀(w:World) (s₀ s₁:Shared) (mg mb:Str->Option Value) (fa:Addr) (o:Obj) (pm cd doc:Value) (a:Addr) (vs:List Value) (ns:List Int),
   Ground q loose [] XP w s₀ mg mb s₁.heap->YP w s₁.heap ->
   s₁.heap.get? fa=some o->o.data = .func (docDef d.name d.params d.body d.scope pm cd doc)->s₁.heap.CodeRec cd d.name->mg d.name=some (.ref fa) ->
   s₁.heap.get? a=some {cls:=.type "list", data:=.seq vs.toArray}->IntsAre vs ns->ns.length<=n->s₁.gens = #[] ->
   codeAny (model l.prog w) callerA (.call (.ref fa) ⟨[.ref a],[]⟩) (λr s'=>r = .ok (.ret (.bool true))/\OldK s₁.heap s'.heap/\s'.os=s₁.os/\AllBare s'.gens) s₁) :
  WalkO q loose XP YP l.row.toRowW d [] (λf vs=>PySem.call f vs):=by
 intro w s₀ s₁ mg mb G Y fa o pm cd doc dV kV ho hd hcd hD hmg hg args vals as hpre hlay hrd hwl hlo;obtain rfl:dV = .none:=Dflts.none hD hdf;obtain rfl:kV = .none:=Dflts.noKw hD;obtain⟨a,vs,ns,rfl,rfl,hobj,hints,hlen⟩:=ZS hn hpre hwl;refine enter_call (fM (call w s₀ s₁ mg mb fa o pm cd doc a vs ns G Y ho (fd_plain hd) hcd hmg hobj hints hlen hg) λr s' hq=>?_);obtain⟨rfl,h2,h3,h4⟩:=hq;exact⟨.inl ⟨.bool true,.bool true,[],rfl,λ_=>rfl,.bool true,YF l _,λ_=>⟨List.Pairwise.nil,λ_ hm=>(nomatch hm)⟩⟩,h2,h3,h4⟩
section
variable {prog:Program} {w:World} {A:Around} {E:Value->Shared->Prop} {s:Shared} {K:Frag}
end
end Ee
namespace L2
open PySem PySem.Spec PyProof.Rows
theorem vU:∀{vs:List Value} {ns:List Int},IntsAre vs ns->Vals (ns.map V.int) vs
 |_,_,.nil=>.nil
 |_,_,.cons n t h=>.cons ⟨t,rfl⟩ (vU h)
noncomputable def inClass(s:Stmt)(j:Nat):Stmt:=match s with
 |.ClassDef _ _ _ body _ _ _ _ _ _ _=>body.getD j (.Pass ⟨0,0,0,0⟩)
 |_=>.Pass ⟨0,0,0,0⟩
noncomputable def hV(s:Stmt):Arguments:=match s with
 |.FunctionDef _ a _ _ _ _ _ _ _ _=>a
 |_=>{posonlyargs:=[],args:=[],vararg:=none,kwonlyargs:=[],kw_defaults:=[],kwarg:=none,defaults:=[]}
noncomputable def fA(s:Stmt):List Stmt:=match s with
 |.FunctionDef _ _ b _ _ _ _ _ _ _=>b
 |_=>[]
noncomputable def aB(s:Stmt):Scope:=match s with
 |.FunctionDef _ _ _ _ _ _ sc _ _ _=>sc
 |_=>{kind:=.function,names:=[],isGenerator:=false,isCoroutine:=false}
abbrev aN:gj:=λ_ _ _ _ _ _=>False
abbrev E0:XK:=λ_ _ _=>False
theorem qq{X:Cx}:Passes aN X E0:=λ_ _ _ _ _ _ _ h=>h.elim
structure aR (K:W.Frag) (x qual:Str) (st:Stmt) (f:Addr) (fd:FuncData):Prop where
 ex:∃(oc:Value) (od:Option Addr) (kV doc pm:Value) (an:Option Addr) (cdv ct:Value) (osl:Array (Option Value)),
  fd=W.fnOf x qual (hV st) (fA st) (aB st) .none kV doc pm an cdv ct/\K.lookup f=some ⟨oc,od,.func fd,osl⟩/\W.codeIn K cdv qual=true
 kp:W.keepIn K (.ref f)=true
section
variable {P:Program} {w:World} {K:W.Frag} {mg:Str->Option Value} {base:Heap}
theorem aR.ok{x qual:Str}{st:Stmt}{f:Addr}{fd:FuncData}{N ps:List Str}{k:Nat}{sp:Sp}(F:aR K x qual st f fd)(S:aU N ps (aB st))(len:∀vs H Q E,sp vs H Q E->vs.length=ps.length)(hbody:∀(cdv:Value) (A:Around) (outer:List Env) (s:Shared) (H:Hp) (vs:List V) (Q:VK) (E:XK),bj k (A.deeper (envOfC qual (aB st) s.heap.objs.size f cdv))->sp vs H Q E->∃t,fj (kh aN P w K mg base N qual (aB st) f cdv A outer s H E).lI (fA st) t/\t {nx:=λ_ H'=>Q .non H',rt:=Q} (start N vs) H):aM P w K mg base aN (k+1) f fd ps sp:=by
 obtain⟨oc,od,kV,doc,pm,an,cdv,ct,osl,rfl,lk,hcd⟩:=F.ex;refine HS lk hcd S len λA outer s H vs Q E hr hsp=>?_;obtain⟨t,h,q⟩:=hbody cdv A outer s H vs Q E hr hsp;exact⟨t,h.lI,q⟩
theorem aR.binds{x qual:Str}{st:Stmt}{f:Addr}{fd:FuncData}{ps:List Str}(F:aR K x qual st f fd)
  (h:∀(kV doc pm:Value) (an:Option Addr) (cdv ct:Value) (us:List Value),us.length=ps.length->bindArgs (W.fnOf x qual (hV st) (fA st) (aB st) .none kV doc pm an cdv ct) ⟨us,[]⟩=pure (ps.zip us)):Binds K fd ps []:=by
 obtain⟨oc,od,kV,doc,pm,an,cdv,ct,osl,rfl,lk,hcd⟩:=F.ex;exact .all (h kV doc pm an cdv ct)
theorem zt{x qual:Str}{st:Stmt}{f:Addr}{oc:Value}{od an:Option Addr}{osl:Array (Option Value)}{kV doc pm cdv ct:Value}(l:K.lookup f=some ⟨oc,od,.func (W.fnOf x qual (hV st) (fA st) (aB st) .none kV doc pm an cdv ct),osl⟩)
  (c:W.codeIn K cdv qual=true) (k:W.keepIn K (.ref f)=true):aR K x qual st f (W.fnOf x qual (hV st) (fA st) (aB st) .none kV doc pm an cdv ct):=⟨⟨oc,od,kV,doc,pm,an,cdv,ct,osl,rfl,l,c⟩,k⟩
end
theorem Jm{A:Around}{k:Nat}(hr:bj k A):A.units+1<cLine:=oW (Nat.add_le_add_left (by decide:1<=64) _) hr.units
theorem qS{n:Nat}(h:n<=1000):n<sizeLine:=oW h (by decide)
section
variable {X:Cx}
theorem pv (i:Nat) {x:Str} {pos:Pos} (hN:X.N[i]?=some x:=by rfl) (hv:rX X.env.scope x:=by first|exact Or.inl rfl|exact Or.inr (Or.inl rfl)|exact Or.inr (Or.inr rfl)) (hd:(x==("__debug__" : Str))=false:=by decide)
  (hcd:(x==("__classdict__" : Str))=false:=by decide):PE X (.Name x pos) (Dt i):=Yu hN hv hd hcd
end
theorem cI{A B:Prop}(h:B):if false=true then A else B:=by
 rw[if_neg Bool.false_ne_true];exact h
theorem lB{A B:Prop}(h:A):if true=true then A else B:=by
 rw[if_pos rfl];exact h
theorem bO{c A B:Prop}[Decidable c](h1:c->A)(h2:¬ c->B):if c then A else B:=by
 by_cases h:c
 ·rw[if_pos h]
  exact h1 h
 ·rw[if_neg h]
  exact h2 h
noncomputable def Same(H H':Hp):Prop:=∀b o,H b=some o->H' b=some o
theorem Same.refl(H:Hp):Same H H:=λ_ _ h=>h
theorem Same.trans{H H1 H2:Hp}(a:Same H H1)(b:Same H1 H2):Same H H2:=λc o h=>b c o (a c o h)
theorem Same.free{H H':Hp}(e:Same H H'){l:Addr}(h:H' l=Option.none):H l=Option.none:=by
 cases q:H l with
 |none=>rfl
 |some o =>
  rw[e l o q]at h;cases h
theorem Same.seq{K:W.Frag}{H H':Hp}{a:Addr}{xs:List V}(e:Same H H')(h:ai K H a xs):ai K H' a xs:=by
 rcases h with(h|⟨o,h⟩)|h
 ·exact .inl (.inl (e _ _ h))
 ·exact .inl (.inr ⟨o,e _ _ h⟩)
 ·exact .inr h
section
variable {κ:Type} [DecidableEq κ]
end
noncomputable def bE(cells:List (Str × Addr)):List (Str × NameKind)->List (Str × Addr)->List (Str × Addr)
 | [],acc=>acc
 | (n,k)::r,acc=>bE cells r (if(k==NameKind.free)=true then(n,(cells.lookup n).getD 0)::acc else acc)
theorem G4{cells:List (Str × Addr)}{x:Str}{c:Addr}:∀{names:List (Str × NameKind)} {acc:List (Str × Addr)},(bE cells names acc).lookup x=some c->acc.lookup x=some c\/((x,NameKind.free)∈names/\c=(cells.lookup x).getD 0)
 | [],acc,h=>.inl h
 | (n,k)::r,acc,h=>by
  unfold bE at h
  rcases G4 h with h1|⟨h1,e⟩
  ·clear h
   split at h1
   ·rename_i hk
    rw[gC]at h1;cases hx:x==n with
    |true =>
     rw[hx]at h1;have hx':x=n:=by simpa using hx
     have hk':k = .free:=by simpa using hk
     subst hx' hk';exact .inr ⟨bx,(df h1).symm⟩
    |false =>
     rw[hx]at h1;exact .inl h1
   ·exact .inl h1
  ·exact .inr ⟨bu _ h1,e⟩
theorem sr{cells:List (Str × Addr)}{x:Str}:∀{names:List (Str × NameKind)} {acc:List (Str × Addr)} {c:Addr},acc.lookup x=some c->∃c',(bE cells names acc).lookup x=some c'
 | [],_,c,h=>⟨c,h⟩
 | (n,k)::r,acc,c,h=>by
  unfold bE
  split
  ·cases hx:x==n with
   |true=>exact sr (c:=(cells.lookup n).getD 0) (by rw[gC,hx])
   |false=>exact sr (c:=c) (by rw[gC,hx];exact h)
  ·exact sr h
theorem pQ{cells:List (Str × Addr)}{x:Str}:∀{names:List (Str × NameKind)} {acc:List (Str × Addr)},(x,NameKind.free)∈names->∃c,(bE cells names acc).lookup x=some c
 | [],_,h=>nomatch h
 | (n,k)::r,acc,h=>by
  unfold bE
  rcases aY.mp h with e|h
  ·injection e with e1 e2
   subst e1;subst e2;exact sr (c:=(cells.lookup x).getD 0) (by simp)
  ·exact pQ h
theorem sj{scope:Scope}{env:Env}(h:∀x∈scope.names,x.2 = .free->∃c,env.cells.lookup x.1=some c):closureFor scope env=pure (bE env.cells scope.names []):=by
 have go:∀(names:List (Str × NameKind)) (acc:List (Str × Addr)),(∀x∈names,x.2 = .free->∃c,env.cells.lookup x.1=some c) ->
   (forIn names acc λx cs=>if(x.2==NameKind.free)=true then do let c <- cellOf env x.1;pure (ForInStep.yield ((x.1,c)::cs))else pure (ForInStep.yield cs):Sem (List (Str × Addr)))=pure (bE env.cells names acc):=by
  intro names
  induction names with
  |nil=>intro acc _;rfl
  |cons x r ih =>
   intro acc hx;obtain⟨n,k⟩:=x;rw[rh];unfold bE;cases hk:k==NameKind.free with
   |true =>
    obtain⟨c,hc⟩:=hx (n,k) bx (by simpa using hk);simp only[hk,jJ,cellOf,hc,pure_bind,Fv];exact ih _ λy hy=>hx y (bu _ hy)
   |false =>
    simp only[hk,e9,dQ,pure_bind];exact ih _ λy hy=>hx y (bu _ hy)
 have e:=go scope.names [] h;have e2:closureFor scope env=(forIn scope.names [] λx cs=>if(x.2==NameKind.free)=true then do let c <- cellOf env x.1;pure (ForInStep.yield ((x.1,c)::cs))else pure (ForInStep.yield cs):Sem (List (Str × Addr)))>>=λcs=>pure cs:=by
  rfl
 rw[e2,e];rfl
theorem Kr{env:Env}:∀{names:List (Str × NameKind)} {x:Str},names.lookup x=some .free ->
  (names.map λ(n,k)=>if(k==NameKind.free&&env.scope.kind==.function&&env.kindOf n==some .cell)then(n,NameKind.cell)else(n,k)).lookup x=some .cell \/
  (names.map λ(n,k)=>if(k==NameKind.free&&env.scope.kind==.function&&env.kindOf n==some .cell)then(n,NameKind.cell)else(n,k)).lookup x=some .free
 | [],_,h=>by simp at h
 | (n,k)::r,x,h=>by
  have ih:=@Kr env r x;show List.lookup x ((if(k==NameKind.free&&env.scope.kind==.function&&env.kindOf n==some .cell)=true then(n,NameKind.cell)else(n,k))::_)=_\/List.lookup x ((if(k==NameKind.free&&env.scope.kind==.function&&env.kindOf n==some .cell)=true then(n,NameKind.cell)else(n,k))::_)=_;cases hx:x==n with
  |true =>
   simp only[gC,hx]at h;cases h
   by_cases hc:(NameKind.free==NameKind.free&&env.scope.kind==.function&&env.kindOf n==some .cell)=true
   ·rw[if_pos hc];simp[gC,hx]
   ·rw[if_neg hc];simp[gC,hx]
  |false =>
   simp only[gC,hx]at h
   by_cases hc:(k==NameKind.free&&env.scope.kind==.function&&env.kindOf n==some .cell)=true
   ·rw[if_pos hc];simp only[gC,hx];exact ih h
   ·rw[if_neg hc];simp only[gC,hx];exact ih h
theorem Ky{env:Env}:∀{names:List (Str × NameKind)} {x:Str},(∀y∈names,y.2≠.cell) ->
  ((names.map λ(n,k)=>if(k==NameKind.free&&env.scope.kind==.function&&env.kindOf n==some .cell)then(n,NameKind.cell)else(n,k)).lookup x=some .cell \/
  (names.map λ(n,k)=>if(k==NameKind.free&&env.scope.kind==.function&&env.kindOf n==some .cell)then(n,NameKind.cell)else(n,k)).lookup x=some .free)->(x,NameKind.free)∈names
 | [],_,_,h=>by simp at h
 | (n,k)::r,x,hn,h=>by
  have ih:=@Ky env r x λy hy=>hn y (bu _ hy)
  change List.lookup x ((if(k==NameKind.free&&env.scope.kind==.function&&env.kindOf n==some .cell)=true then(n,NameKind.cell)else(n,k))::_)=_\/List.lookup x ((if(k==NameKind.free&&env.scope.kind==.function&&env.kindOf n==some .cell)=true then(n,NameKind.cell)else(n,k))::_)=_ at h
  cases hx:x==n with
  |true =>
   have e:x=n:=by simpa using hx
   subst e
   by_cases hc:(k==NameKind.free&&env.scope.kind==.function&&env.kindOf x==some .cell)=true
   ·have hk:k = .free:=by
     have:=(bw _ _▸hc:_/\_).1;have:=(bw _ _▸this:_/\_).1;simpa using this
    subst hk;exact bx
   ·rw[if_neg hc]at h
    simp only[gC,hx]at h
    rcases h with h|h
    ·cases h;exact absurd rfl (hn _ bx)
    ·cases h;exact bx
  |false =>
   by_cases hc:(k==NameKind.free&&env.scope.kind==.function&&env.kindOf n==some .cell)=true
   ·rw[if_pos hc]at h;simp only[gC,hx]at h;exact bu _ (ih h)
   ·rw[if_neg hc]at h;simp only[gC,hx]at h;exact bu _ (ih h)
noncomputable def blk(X:Cx)(scope:Scope)(N':List Str)(C:Addr)(s₀:Shared)(H₀:Hp)(fp:List Addr):Cx:=
 {X with N:=N',s₀:=s₀,H₀:=H₀,env:=compEnvC scope (bE X.env.cells scope.names []) C X.env,outer:=X.stack,stack:=X.stack,ex:=fp,fn:=λ_=>false,pn:=[],xe:=λ_ _=>False}
structure eZ (X:Cx) (scope:Scope) (fr:List (Str × Nat)):Prop where
 kind:scope.kind = .function
 qj:∀y∈scope.names,y.2≠.cell
 names:∀y∈scope.names,y.2 = .local->scope.names.lookup y.1=some .local
 free:∀y∈scope.names,y.2 = .free->X.env.scope.names.lookup y.1=some .cell\/X.env.scope.names.lookup y.1=some .free
 ix:∀p∈fr,X.N[p.2]?=some p.1/\scope.names.lookup p.1=some .free
noncomputable def blkσ(no:Nat)(fr:List (Str × Nat))(σ:St):St:=List.replicate no none++fr.map λp=>σ.getD p.2 none
noncomputable def Wk(σ σ':St):Prop:=σ.length=σ'.length/\∀(i:Nat) v,σ[i]?=some (some v)->σ'[i]?=some (some v)
theorem Wk.refl(σ:St):Wk σ σ:=⟨rfl,λ_ _ h=>h⟩
theorem Wk.set{σ σ':St}{i:Nat}{x:Option V}(h:Wk σ σ')(hi:σ[i]?=some none):Wk σ (σ'.set i x):=by
 refine⟨by rw[Fb];exact h.1,λj v e=>?_⟩;have hj:j≠i:=by rintro rfl;rw[hi]at e;cases e
 rw[wH (b_ hj)];exact h.2 j v e
section
variable {X:Cx} {pins:List (Addr × Obj)} {σ:St} {H:Hp} {s:Shared} {scope:Scope} {fr:List (Str × Nat)} {own:List Str} {fp:List Addr}
theorem eZ.cell(B:eZ X scope fr)(ok:X.Ok):∀x∈scope.names,x.2 = .free->∃c,X.env.cells.lookup x.1=some c:=λx hx hk=>ok.has x.1 (B.free x hx hk)
theorem eZ.sub(B:eZ X scope fr)(ok:X.Ok){x:Str}{c:Addr}(h:(bE X.env.cells scope.names []).lookup x=some c):X.env.cells.lookup x=some c:=by
 rcases G4 h with h|⟨hm,e⟩
 ·simp at h
 ·obtain⟨c',hc⟩:=B.cell ok _ hm rfl
  rw[e,hc];rfl
theorem Rf(B:eZ X scope fr)(I:Inv X pins σ H s)(hf:∀b∈fp,cq X pins H b)(hfs:∀b∈fp,b<s.heap.objs.size){N':List Str}:(blk X scope N' s.heap.objs.size s H fp).Ok where
 mod:=I.ok.mod
 kind:=B.kind
 glob:=I.ok.glob
 blt:=I.ok.blt
 above:=aH _
 inj:=λx y c h1 h2=>I.ok.inj x y c (B.sub I.ok h1) (B.sub I.ok h2)
 has:=λx h=>pQ (Ky B.qj h)
 cab:=λx c h=>by cases h
 hd:=I.ok.hd
 frames:=I.ok.frames
 stk:=.inl rfl
 sI:=λb hb=>⟨a_ (hfs b hb),λx c h=>(hf b hb).2.2.2.2.1 x c (B.sub I.ok h)⟩
 bs:=I.bs
 fS:=cp I.ok.fS I.sz
 lH:=λb o e hb=>by
  rcases(hf b hb).2.2.2.1 with h|h
  ·exact I.ok.lH b o e h
  ·exact absurd (dD (aP e) (cp I.ok.fS h)) (gE _)
 nq:=λb hb h=>by
  rcases aY.mp (I.Dl b h)with e|h
  ·exact(hf b hb).2.1 e
  ·exact(hf b hb).2.2.1 h
 d9:=I.stack
 iK:=I.Dk
theorem Rg(B:eZ X scope fr)(I:Inv X pins σ H s)(hf:∀b∈fp,cq X pins H b)(hfs:∀b∈fp,b<s.heap.objs.size){h1:Heap}{m:Str->Option Value}{tk:Nat}(hn:h1.Ns s.heap.objs.size m)
  (hk:∀b o,s.heap.get? b=some o->h1.get? b=some o):Inv (blk X scope (own++fr.map (·.1)) s.heap.objs.size s H fp) [] (blkσ own.length fr σ) H {s with heap:=h1,toks:=tk} where
 ok:=Rf B I hf hfs
 os:=rfl
 bare:=I.bare
 base:=Un.kept hk
 loc:=by
  refine⟨m,hn,λi x v e1 e2 e3=>?_⟩
  change (own++fr.map (·.1))[i]?=some x at e1
  unfold blkσ at e2
  by_cases hi:i<own.length
  ·rw[mD (by simpa using hi),Qr]at e2
   split at e2<;>cases e2
  ·rw[kR (by simpa using i_ hi),bC]at e1
   rw[kR (by simpa using i_ hi),bC,Qt]at e2;cases hp:fr[i - own.length]? with
   |none=>rw[hp]at e1;cases e1
   |some p =>
    rw[hp]at e1 e2;simp only[Fw,w_]at e1 e2;obtain⟨i1,i2⟩:=B.ix p (cu hp);subst e1;have e2':σ[p.2]?=some (some v):=by
     rw[aL]at e2;cases q:σ[p.2]? with
     |none=>rw[q]at e2;cases e2
     |some z=>rw[q]at e2;exact congrArg some e2
    have kX:X.env.kindOf p.1=some .cell\/X.env.kindOf p.1=some .free:=B.free (p.1,.free) (iF i2) rfl;obtain⟨m',hn',hl'⟩:=I.loc;have vis:rX X.env.scope p.1:=.inr kX;obtain⟨u,r,l⟩:=hl' p.2 p.1 v i1 e2' vis;refine⟨u,r,.inr ⟨Kr i2,?_⟩⟩
    rcases l with⟨k,_⟩|⟨_,c,hc,z⟩
    ·rcases kX with q|q<;>(rw[k]at q;cases q)
    ·obtain⟨c',hc'⟩:=pQ (cells:=X.env.cells) (acc:=[]) (iF i2)
     have:=B.sub I.ok hc';rw[hc]at this;cases this;exact⟨c,hc',z.keeps hk⟩
 cell:=λx c h=>by
  obtain⟨v,z⟩:=I.cell x c (B.sub I.ok h);exact⟨v,z.keeps hk⟩
 free:=I.hok.fresh (aH _)
 eO:=λx c h=>I.eO x c (B.sub I.ok h)
 pin:=λp hp=>absurd (show p∈([]:List (Addr × Obj))from hp) (by simp)
 hok:=I.hok.kept hk
 len:=by
  unfold blkσ;show _=(own++fr.map (·.1)).length;simp
theorem Rc{s':Shared}{H':Hp}{σ':St}{pY:List (Addr × Obj)}{N':List Str}(I:Inv X pins σ H s)(hf:∀b∈fp,cq X pins H b)(J:Inv (blk X scope N' s.heap.objs.size s H fp) pY σ' H' s'):Inv X pins σ H' s':=
 I.call' J.os J.base J.hok J.bare λb hb=>⟨(hf b hb).2.2.2.1,(hf b hb).2.1,(hf b hb).2.2.2.2.1,(hf b hb).2.2.2.2.2⟩
end
noncomputable def mH(Y:Cx)(ifs:List Expr)(t:TT):Prop:=
 ∀(pins:List (Addr × Obj)) (s:Shared) (σ:St) (H:Hp) (Q:Bool->Hp->Prop),Inv Y pins σ H s->t σ H Q ->
  wpAny (model Y.prog Y.w) Y.A (forIn ifs true λc r=>if r=true then do let ok <- isTrue c Y.env (eval c Y.env);pure (ForInStep.yield ok)else pure (ForInStep.yield r)) (TP Y pins σ Q) Y.xe s
noncomputable def oA:TT:=λ_ H Q=>Q true H
theorem dw{Y:Cx}:mH Y [] oA:=λ_ _ _ H _ I h=>wpAny_tests_nil ⟨H,I,h⟩
theorem lK{Y:Cx}{c:Expr}{t:TT}(h:PT Y c t):mH Y [c] t:=λpins s σ H Q I hq=>wpAny_tests_one (h pins s σ H Q I hq)
noncomputable def jZ(J:It)(g:TG)(tc:TT)(te:TE)(σ₀:St)(D:Addr)(Q:Hp->Prop)(H:Hp):Prop:=
 ∃W:Nat->Nat->List V->Hp->Prop,(∃m,W 0 m [] H)/\∀i m ys H,W i m ys H ->
  (J.stop i H/\Q H)\/(J.go i H/\∃N:List V->Hp->Prop,(∀ys' H',N ys' H'->∃m',m'<m/\W (i+1) m' ys' H')/\∀x H',J.jX i H x H'->g x σ₀ H' λσ2 H2=>Wk σ₀ σ2 /\
   tc σ2 H2 λb H3=>if b=true then te σ2 H3 λy H4=>H4 D=some (.lst ys)/\ys.length<sizeLine/\N (ys++[y]) (upd H4 D (.lst (ys++[y])))else N ys H3)
theorem Inv.aa1{X:Cx}{pins:List (Addr × Obj)}{σ σ':St}{H:Hp}{s:Shared}(I:Inv X pins σ' H s)(h:Wk σ σ'):Inv X pins σ H s:=I.weak h.1 h.2
theorem RX{Y:Cx}{elt tg iter:Expr}{ifs:List Expr}{scope:Scope}{pos:Pos}{it D:Addr}{fp:List Addr}{tn:Nat->Heap->Prop}{J:It}{g:TG}{tc:TT}{te:TE}{σ₀:St}{H:Hp}{s:Shared}{Q:Hp->Prop}
  (hc:Y.calm=true) (T:Turn Y.prog Y.w Y.K tg J fp it tn) (hg:PG Y tg g) (hif:mH Y ifs tc) (he:PE Y elt te)
  (I:Inv Y [] σ₀ H s) (st:tn 0 s.heap) (hf:∀b∈fp,cq Y [] H b) (hw:jZ J g tc te σ₀ D Q H) (hx:Y.xe=λ_ _=>False) :
  codeAny (model Y.prog Y.w) Y.A (.compLoop (.ListComp elt [⟨tg,iter,ifs,0⟩] scope pos) 0 (.ref it) (.ref D) Y.env) (λr s'=>∃H',r = .ok .next/\Inv Y [] σ₀ H' s'/\Q H') s:=by
 obtain⟨W,⟨m0,w0⟩,turn⟩:=hw;have stat:∀{H':Hp},(∀b∈fp,H' b=none)->∀b∈fp,cq Y [] H' b:=λhn b hb=>⟨hn b hb,(hf b hb).2⟩;refine codeAny_loop rfl (λn s'=>∃i ys H',Inv Y [] σ₀ H' s'/\tn i s'.heap/\(∀b∈fp,H' b=none)/\W i n ys H') ?_ m0 ⟨0,[],H,I,st,λb hb=>(hf b hb).1,w0⟩;rintro n s3 ⟨i,ys,H3,I3,st3,pV,w3⟩;show wpAny _ Y.A ((compTurn (.ListComp elt [⟨tg,iter,ifs,0⟩] scope pos) 0 (.ref it) (.ref D) Y.env).onRaise (λx=>do noteFrame x Y.env;theTreesLotGoes x)) _ _ s3;refine wpAny_noted ?_;rw[compTurn_list];refine ae (xK (ae ?_));have toE:∀{α:Type} {t:Sem α} {P:α->Shared->Prop} {E:Value->Shared->Prop} {s:Shared},wpAny (model Y.prog Y.w) Y.A t P Y.xe s->wpAny (model Y.prog Y.w) Y.A t P E s:=λ{α t P E s} h=>by
  rw[hx]at h;exact fO h (λ_ _ q=>q) λ_ _ q=>q.elim
 rcases turn i n ys H3 w3 with⟨stop,qn⟩|⟨go,N,hN,step⟩
 ·refine aC (T.done Y rfl rfl rfl hc i [] s3 σ₀ H3 _ I3 (stat pV) st3 stop) λr s4 ⟨hr,I4⟩=>?_
  subst hr;exact ak ⟨H3,rfl,I4,qn⟩
 ·refine aC (T.item Y rfl rfl rfl hc i [] s3 σ₀ H3 _ I3 (stat pV) st3 go) λr s4 ⟨u,hr,h4⟩=>?_
  subst hr;refine ae (aC h4 λ_ s5 ⟨x,H5,I5,r5,y5,iT,zq⟩=>?_);have wo:=I5.pinned (stat zq) (T.obj _ _ iT);refine ae (toE (aC (hg _ s5 σ₀ H5 x u _ wo r5 (step x H5 y5)) λ_ s6 ⟨σ6,H6,I6,P4,q6⟩=>?_));have again:∀{s7:Shared} {σ7:St} {vW:List V} {H7:Hp},Inv Y ([]++qy fp s5.heap) σ7 H7 s7->Wk σ₀ σ7->N vW H7->∃m,m<n/\∃i ys H',Inv Y [] σ₀ H' s7/\tn i s7.heap/\(∀b∈fp,H' b=none)/\W i m ys H':=λ{s7 σ7 vW H7} I7 wk7 n7=>by
   obtain⟨m',hm,w7⟩:=hN vW H7 n7;refine⟨m',hm,i+1,vW,H7,(I7.vS).aa1 wk7,T.keep _ _ _ iT λb hb o e=>(I7.pin (b,o) (eI _ (eI _ (uc hb e)))).1,λb hb=>?_,w7⟩;obtain⟨o,e,d⟩:=T.obj _ _ iT b hb;exact(I7.pin (b,o) (eI _ (eI _ (uc hb e)))).2.1
  refine ae (fO (hif _ s6 σ6 H6 _ I6 q6) (λok s7 ⟨H7,I7,q7⟩=>?_) λ_ _ q=>by rw[hx]at q;exact q.elim);cases ok with
  |false=>exact ak ⟨rfl,again I7 P4 q7⟩
  |true =>
   refine ae (ae (fO (he _ s7 σ6 H7 _ I7 q7) (λv s8 ⟨y,H8,I8,r8,hD,hz,n8⟩=>?_) λ_ _ q=>by rw[hx]at q;exact q.elim));refine ae (fO (qe _ s8 σ6 H8 (.ref D) [y] (.ref D) [v] (λ_ H9=>N (ys++[y]) H9) I8 rfl (.cons r8 .nil) ⟨D,ys,y,rfl,rfl,hD,hz,n8⟩) (λz s9 ⟨_,H9,I9,_,n9⟩=>?_) λ_ _ q=>by rw[hx]at q;exact q.elim);exact ak (ak ⟨rfl,again I9 P4 n9⟩)
noncomputable def Pb(wi:TI)(no:Nat)(fr:List (Str × Nat))(g:TG)(tc:TT)(te:TE):TE:=λσ H Q=>wi σ H λJ H1=>∀D,H1 D=none->jZ J g tc te (blkσ no fr σ) D (λH'=>Q (.ref D) H') (upd H1 D (.lst []))
section
variable {X:Cx} {elt tg iter:Expr} {ifs:List Expr} {scope:Scope} {pos:Pos} {own:List Str} {fr:List (Str × Nat)} {wi:TI} {g:TG} {tc:TT} {te:TE}
theorem G7{pins:List (Addr × Obj)}{σ:St}{H2:Hp}{s2:Shared}{it:Addr}{fp:List Addr}{tn:Nat->Heap->Prop}{J:It}{Qd:V->Hp->Prop}{RR:Value->Addr->Result->Shared->Prop}{E:Value->Shared->Prop}(hc:X.calm=true)(B:eZ X scope fr)
  (hb:∀(C:Addr) (s₀:Shared) (H₀:Hp) (fp:List Addr),PG (blk X scope (own++fr.map (·.1)) C s₀ H₀ fp) tg g/\mH (blk X scope (own++fr.map (·.1)) C s₀ H₀ fp) ifs tc/\PE (blk X scope (own++fr.map (·.1)) C s₀ H₀ fp) elt te)
  (I2:Inv X pins σ H2 s2) (T:Turn X.prog X.w X.K tg J fp it tn) (st2:tn 0 s2.heap) (f2:∀b∈fp,cq X pins H2 b)
  (hw:∀D,H2 D=none->jZ J g tc te (blkσ own.length fr σ) D (λH'=>Qd (.ref D) H') (upd H2 D (.lst [])))
  (hR:∀(D C:Addr) (s':Shared) (H':Hp) (m:Str->Option Value),Inv X pins σ H' s'->s'.heap.Ns C m->H' C=none->C≠X.env.locals->X.s₀.heap.objs.size<=C->(∀x c,X.env.cells.lookup x=some c->c≠C)->(∀p∈X.pn++pins,p.1≠C) ->
   Qd (.ref D) H'->RR (.ref D) C (.ok .next) s') :
  wpAny (model X.prog X.w) X.A (newList []) (λacc s₃=>wpAny (model X.prog X.w) X.A (newFunctionEnv scope X.env.globals (bE X.env.cells scope.names []) [] X.env.qual none .none (some X.env)) (λcenv s₄ =>
   codeAny (model X.prog X.w) X.A (.compStart (.ListComp elt [⟨tg,iter,ifs,0⟩] scope pos) 0 (.ref it) acc {cenv with scope:=relabel scope X.env}) (RR acc cenv.locals) s₄) E s₃) E s2:=by
 refine ji (wpAny_newFunctionEnv B.qj (by intro y hy;simp at hy) (λh₁ hns₁ hsb₁=>?_) B.kind);dsimp only at hns₁ hsb₁ ⊢;have hD:H2 s2.heap.objs.size=none:=I2.fresh;have I3:Inv X pins σ (upd H2 s2.heap.objs.size (.lst [])) {s2 with heap:=s2.heap.push {cls:=.type "list", data:=.seq ([]:List Value).toArray},toks:=s2.toks}:=I2.t_ .nil (by simp);have Ku:∀b∈fp,b<s2.heap.objs.size:=λb hb=>by obtain⟨o,e,_⟩:=T.obj _ _ st2 b hb;exact aP e
 have f3:∀b∈fp,cq X pins (upd H2 s2.heap.objs.size (.lst [])) b:=λb hb=>⟨by rw[aG (a_ (Ku b hb))];exact(f2 b hb).1,(f2 b hb).2⟩;generalize hs3:({s2 with heap:=s2.heap.push {cls:=.type "list", data:=.seq ([]:List Value).toArray},toks:=s2.toks}:Shared)=s3 at I3;have e3:s3.heap=s2.heap.push {cls:=.type "list", data:=.seq ([]:List Value).toArray}:=by rw[<- hs3]
 have Kv:∀b∈fp,b<s3.heap.objs.size:=λb hb=>by rw[e3,eK];exact rE (Ku b hb)
 have eC:(s2.heap.push {cls:=.type "list", dict:=none,data:=.seq ([]:List Value).toArray}).objs.size=s3.heap.objs.size:=by rw[e3]
 have old:∀b o,s3.heap.get? b=some o->h₁.get? b=some o:=λb o e=>by
  have hb:b<s3.heap.objs.size:=aP e;rw[e3]at e;exact hsb₁.extBut b o (by rw[eC];exact a_ hb) (aI _ e)
 rw[eC]at hns₁ ⊢;have IY:Inv (blk X scope (own++fr.map (·.1)) s3.heap.objs.size s3 (upd H2 s2.heap.objs.size (.lst [])) fp) [] (blkσ own.length fr σ) (upd H2 s2.heap.objs.size (.lst [])) {s3 with heap:=h₁,toks:=s2.toks+([]:List (Str × Value)).length}:=
  Rg (own:=own) B I3 f3 Kv hns₁ old
 have st3:tn 0 h₁:=T.keep _ _ _ st2 λb hb o e=>old b o (by rw[e3];exact aI _ e);have fY:∀b∈fp,cq (blk X scope (own++fr.map (·.1)) s3.heap.objs.size s3 (upd H2 s2.heap.objs.size (.lst [])) fp) [] (upd H2 s2.heap.objs.size (.lst [])) b:=λb hb =>
  ⟨(f3 b hb).1,a_ (Kv b hb),(IY.ok.nq b hb),.inl hb,(IY.ok.sI b hb).2,λp hp=>absurd (show p∈([]:List (Addr × Obj))from hp) (by simp)⟩
 obtain⟨b1,b2,b3⟩:=hb s3.heap.objs.size s3 (upd H2 s2.heap.objs.size (.lst [])) fp;have loop:=RX (Y:=blk X scope (own++fr.map (·.1)) s3.heap.objs.size s3 (upd H2 s2.heap.objs.size (.lst [])) fp) (iter:=iter) (scope:=scope) (pos:=pos) hc T b1 b2 b3 IY st3 fY (hw _ hD) rfl;have Ks:codeAny (model X.prog X.w) X.A (.compLoop (.ListComp elt [⟨tg,iter,ifs,0⟩] scope pos) 0 (.ref it) (.ref s2.heap.objs.size) (compEnvC scope (bE X.env.cells scope.names []) s3.heap.objs.size X.env)) (RR (.ref s2.heap.objs.size) s3.heap.objs.size) {s3 with heap:=h₁,toks:=s2.toks+([]:List (Str × Value)).length}:=by
  refine fM loop λr s' ⟨H',hr,J',q⟩=>?_;subst hr;obtain⟨m',hn',_⟩:=id J'.loc;refine hR s2.heap.objs.size s3.heap.objs.size s' H' m' (Rc I3 f3 J') hn' J'.free (gF I3.lt) I3.sz (λx c e=>?_) (λp hp z=>?_) q
  ·obtain⟨v,z⟩:=I3.cell x c e
   exact a_ z.lt
  ·exact absurd (aP (I3.pin p hp).1) (by rw[z];exact gE _)
 have es:({s2 with heap:=h₁,toks:=s2.toks+([]:List (Str × Value)).length}:Shared) = {s3 with heap:=h₁,toks:=s2.toks+([]:List (Str × Value)).length}:=by rw[<- hs3]
 rw[es];exact codeAny_compStart_list Ks (T.self X.A 0 _ _ _ st3 Ks)
theorem dc(hc:X.calm=true)(B:eZ X scope fr)(hi:PI X tg iter wi)
  (hb:∀(C:Addr) (s₀:Shared) (H₀:Hp) (fp:List Addr),PG (blk X scope (own++fr.map (·.1)) C s₀ H₀ fp) tg g/\mH (blk X scope (own++fr.map (·.1)) C s₀ H₀ fp) ifs tc/\PE (blk X scope (own++fr.map (·.1)) C s₀ H₀ fp) elt te)
  (hs:∀x,foldedSetIterable iter X.env x=pure x:=by intro _;rfl):PE X (.ListComp elt [⟨tg,iter,ifs,0⟩] scope pos) (Pb wi own.length fr g tc te):=by
 intro pins s σ H Q I h;rw[eval_ListComp];refine wpAny_comprehension_free (use:=none) rfl hs (sj (B.cell I.ok)) B.kind B.names (aC (hi pins s σ H _ I h) λv s1 h1=>aC h1 λitv s2 h2=>?_);obtain⟨it,fp,tn,J,H2,e,I2,T,st2,f2,hD⟩:=h2;subst e;refine G7 (own:=own) (Qd:=Q) (RR:=λacc C=>compPost (model X.prog X.w) X.A X.xe none (EP X pins σ Q) acc C) hc B hb I2 T st2 f2 hD ?_;intro D C s' H' m I' hn hC c1 c2 c3 c4 q;exact⟨m,hn,λh' sb=>⟨.ref D,H',I'.turned (t':=s'.toks) (λb o hb e=>sb.extBut b o hb e) hC (b_ c1).symm (.inr c2) c3 c4,rfl,q⟩⟩
theorem qC{i:Nat}{x:Str}{py spos:Pos}(hN:X.N.Nodup)(hx:X.N[i]?=some x)(hl:X.env.scope.names.lookup x=some .local)(hc:X.calm=true)(B:eZ X scope fr)(hi:PI X tg iter wi)
  (hb:∀(C:Addr) (s₀:Shared) (H₀:Hp) (fp:List Addr),PG (blk X scope (own++fr.map (·.1)) C s₀ H₀ fp) tg g/\mH (blk X scope (own++fr.map (·.1)) C s₀ H₀ fp) ifs tc/\PE (blk X scope (own++fr.map (·.1)) C s₀ H₀ fp) elt te)
  (hsw:swapsWith (.ListComp elt [⟨tg,iter,ifs,0⟩] scope pos) (some (.Name x py)) spos.line X.env=pure true:=by rfl)
  (hs:∀x,foldedSetIterable iter X.env x=pure x:=by intro _;rfl):PS X (.Assign [.Name x py] (.ListComp elt [⟨tg,iter,ifs,0⟩] scope pos) spos) (qX (Pb wi own.length fr g tc te) (bq i)):=by
 intro pins s σ H D0 I h;rw[exec_Assign_Name_used _ _ _ _ hsw];refine ae (xK (ae ?_));show wpAny _ X.A (do let _ <- comprehension (.ListComp elt [⟨tg,iter,ifs,0⟩] scope pos) scope X.env _ (newList []) false (eval iter X.env) (some (assign (.Name x py) X.env))) _ _ s;refine ae (fO (wpAny_comprehension_free (use:=some (assign (.Name x py) X.env)) (Q:=λ_ s'=>SP X pins D0 .next s') rfl hs (sj (B.cell I.ok)) B.kind B.names
  (aC (hi pins s σ H _ I h) λv s1 h1=>aC h1 λitv s2 h2=>?_)) (λ_ s' hq=>ak (ak hq)) λ_ _ e=>e)
 obtain⟨it,fp,tn,J,H2,e,I2,T,st2,f2,hD⟩:=h2;subst e;refine G7 (own:=own) (Qd:=λv H'=>bq i v σ H' D0.nx) (RR:=λacc C=>compPost (model X.prog X.w) X.A X.xe (some (assign (.Name x py) X.env)) (λ_ s'=>SP X pins D0 .next s') acc C) hc B hb I2 T st2 f2 hD ?_;intro D C s' H' m I' hn hC c1 c2 c3 c4 q;show wpAny _ X.A (assign (.Name x py) X.env (.ref D)) _ _ _;refine wpAny_assign_Name (OD I' hN hx (.inl hl) (v:=.ref D) rfl (λs'' Ql ⟨a,sb,ha⟩=>?_) (.inr hl));have T7:C≠a:=by
  rcases ha with rfl|ha
  ·exact c1
  ·exact λe=>c3 x a ha e.symm
 refine⟨m,hn.sameBut sb T7,λh' ZR=>?_⟩;exact⟨_,H',Ql.turned (t':=s''.toks) (λb o hb e=>ZR.extBut b o hb e) hC c1 (.inr c2) c3 c4,q⟩
end
noncomputable def bK(b:Bool)(h:Heap)(it a:Addr)(i:Nat):Prop:=match b with
 |true=>h.IsListIter it a i
 |false=>h.IsTupleIter it a i
noncomputable def bR(b:Bool)(h:Heap)(a:Addr)(items:Array Value):Prop:=match b with
 |true=>h.IsList a items
 |false=>h.IsTuple a items
theorem bK.at{b:Bool}{h h':Heap}{it a:Addr}{i:Nat}(x:bK b h it a i)(k:∀o,h.get? it=some o->h'.get? it=some o):bK b h' it a i:=by
 cases b with
 |true=>exact Heap.IsListIter.at x k
 |false=>exact Heap.IsTupleIter.at x k
theorem bR.at{b:Bool}{h h':Heap}{a:Addr}{items:Array Value}(x:bR b h a items)(k:∀o,h.get? a=some o->h'.get? a=some o):bR b h' a items:=by
 cases b with
 |true=>exact Heap.IsList.at x k
 |false=>obtain⟨o,e,r⟩:=x;exact⟨o,k o e,r⟩
theorem bK.obj{b:Bool}{h:Heap}{it a:Addr}{i:Nat}(x:bK b h it a i):∃o,h.get? it=some o/\∀v,o.data≠.cell v:=by
 cases b with
 |true=>obtain⟨o,e,c,d⟩:=x;exact⟨o,e,λv z=>by rw[d]at z;cases z⟩
 |false=>obtain⟨o,e,c,d⟩:=x;exact⟨o,e,λv z=>by rw[d]at z;cases z⟩
section
variable {prog:Program} {w:World} {A:Around} {E:Value->Shared->Prop} {s:Shared}
theorem W9{it l:Addr}{i:Nat}{items:Array Value}{x:Value}{Q:Value->Shared->Prop}(hit:s.heap.IsTupleIter it l i)(hl:s.heap.IsTuple l items)(hx:items[i]?=some x)
  (hQ:∀h',h'.IsTupleIter it l (i+1)->Heap.SameBut it s.heap h'->Q x {s with heap:=h'}):wpAny (model prog w) A (Builtin.SmallTypes.nextOf (.ref it)) Q E s:=by
 obtain⟨o,ho,hc,hd⟩:=id hit;obtain⟨ol,hol,_,nl,hdl⟩:=hl;unfold Builtin.SmallTypes.nextOf;refine ae (jg (name:=Str.ofString "__next__") hit.typeIs xn (fN xn hit.typeIs QJ ?_ (QF _)));show wpAny _ _ (field (.ref it) 0>>=_) _ _ s;refine ae (iG ho hd (x:=.ref l) rfl ?_);show wpAny _ _ (if(Value.ref l==Value.none)=true then _ else _) _ _ s;rw[if_neg (show ¬ ((Value.ref l==Value.none)=true)from Bool.false_ne_true)];show wpAny _ _ (field (.ref it) 1>>=_) _ _ s;refine ae (iG ho hd (x:=.int i 0) rfl ?_);show wpAny _ _ (seqItems? (.ref l)>>=_) _ _ s;refine ae (jm hol hdl ?_);simp only[ck,hx];refine ae (xJ ho hd (by simp) (ak ⟨x,rfl,ak (hQ _ ?_ (o_ ..))⟩));exact⟨_,pe _ ho (Obj.isFreed_of_fields (xt hd _)),(Obj.cls_mapFields ..).trans hc,by rw[xt hd];simp[rawInt]⟩
theorem W_{it l:Addr}{i:Nat}{items:Array Value}{Q:Value->Shared->Prop}(hh:A.handled=none)(hit:s.heap.IsTupleIter it l i)(hl:s.heap.IsTuple l items)(hx:items[i]?=none)
  (hE:∀h' e,Heap.ExtBut it s.heap h'->(∃o,h'.get? e=some o/\o.cls = .type "StopIteration")->E (.ref e) {s with heap:=h'}):wpAny (model prog w) A (Builtin.SmallTypes.nextOf (.ref it)) Q E s:=by
 obtain⟨o,ho,hc,hd⟩:=id hit;obtain⟨ol,hol,_,nl,hdl⟩:=hl;unfold Builtin.SmallTypes.nextOf;refine ae (jg (name:=Str.ofString "__next__") hit.typeIs xn (fN xn hit.typeIs QJ ?_ (QF _)));show wpAny _ _ (field (.ref it) 0>>=_) _ _ s;refine ae (iG ho hd (x:=.ref l) rfl ?_);show wpAny _ _ (if(Value.ref l==Value.none)=true then _ else _) _ _ s;rw[if_neg (show ¬ ((Value.ref l==Value.none)=true)from Bool.false_ne_true)];show wpAny _ _ (field (.ref it) 1>>=_) _ _ s;refine ae (iG ho hd (x:=.int i 0) rfl ?_);show wpAny _ _ (seqItems? (.ref l)>>=_) _ _ s;refine ae (jm hol hdl ?_);simp only[ck,hx];refine ae (jk (ae (xJ ho hd (by simp) ?_)));show wpAny _ _ (newExc (.type "StopIteration") []>>=_) _ _ _;refine ae ?_;simp only[newExc,newTuple];refine ae (ji ?_ (by size_fits));refine ae (m:=firstArgMember _ _) (xG (a:=Value.none) (by first|rfl | (simp only[firstArgMember];rfl)) ?_);refine ji ?_ (by size_fits);simp only[raiseNew];refine ae (wpAny_handled ?_)
 first|rw[show A.in1.handled=none from hh] | rw[hh]
 refine ae (ak (wpAny_throw ?_));exact hE _ _ (((o_ ..).extBut.push _).push _) ⟨_,bf _ rfl,rfl⟩
theorem uk{b:Bool}{it l:Addr}{i:Nat}{items:Array Value}{x:Value}{Q:Value->Shared->Prop}(hit:bK b s.heap it l i)(hl:bR b s.heap l items)(hx:items[i]?=some x)
  (hQ:∀h',bK b h' it l (i+1)->Heap.SameBut it s.heap h'->Q x {s with heap:=h'}):wpAny (model prog w) A (Builtin.SmallTypes.nextOf (.ref it)) Q E s:=by
 cases b with
 |true=>exact wpAny_nextOf_list_item hit hl hx hQ
 |false=>exact W9 hit hl hx hQ
theorem Ba{b:Bool}{it l:Addr}{i:Nat}{items:Array Value}{Q:Value->Shared->Prop}(hh:A.handled=none)(hit:bK b s.heap it l i)(hl:bR b s.heap l items)(hx:items[i]?=none)
  (hE:∀h' e,Heap.ExtBut it s.heap h'->(∃o,h'.get? e=some o/\o.cls = .type "StopIteration")->E (.ref e) {s with heap:=h'}):wpAny (model prog w) A (Builtin.SmallTypes.nextOf (.ref it)) Q E s:=by
 cases b with
 |true=>exact wpAny_nextOf_list_end hh hit hl hx hE
 |false=>exact W_ hh hit hl hx hE
end
abbrev gQ (h:Heap) (z TI TO:Addr) (f0:Value) (b:Bool):Prop:=
 h.get? z=some {cls:=.type "zip", dict:=none,data:=.fields #[f0,.bool b,.bool false,.ref TI,.ref TO],slots:=#[]}
section
variable {prog:Program} {w:World} {A:Around} {E:Value->Shared->Prop} {s:Shared} {c1 c2:Bool} {z TI TO i1 i2 l1 l2:Addr} {k1 k2:Nat} {xs ys:Array Value} {x y a b:Value}
theorem abb{f0:Value}{bb:Bool}{Q:Value->Shared->Prop}(D:ZipApart z TI TO i1 i2 l1 l2)(hz:gQ s.heap z TI TO f0 bb)(hfree:∀{A':Around} {E':Value->Shared->Prop} {Q':Bool->Shared->Prop},Q' true s->wpAny (model prog w) A' (Builtin.SmallTypes.ownedTupleIsFree (.ref z)) Q' E' s)(hTI:IsPair s.heap TI (.ref i1) (.ref i2))(hTO:IsPair s.heap TO a b)(h1:bK c1 s.heap i1 l1 k1)(h2:bK c2 s.heap i2 l2 k2)(hl1:bR c1 s.heap l1 xs)(hl2:bR c2 s.heap l2 ys)(hx:xs[k1]?=some x)(hy:ys[k2]?=some y)(hQ:∀h',IsZip h' z TI TO (rawInt s.heap.objs.size)->IsPair h' TO x y->bK c1 h' i1 l1 (k1+1)->bK c2 h' i2 l2 (k2+1)->IsPair h' s.heap.objs.size x y->h'.objs.size=s.heap.objs.size+1 ->
   (∀c o,c≠z->c≠TO->c≠i1->c≠i2->s.heap.get? c=some o->h'.get? c=some o)->Q (.ref s.heap.objs.size) {s with heap:=h'}) :
  wpAny (model prog w) A (Builtin.«zip.__next__» ⟨[.ref z],[]⟩) (λfin s'=>∃v,fin = .done (.ret v)/\Q v s') E s:=by
 show wpAny _ _ (field (.ref z) 2>>=_) _ _ _;refine ae (iG hz rfl (x:=.bool false) rfl ?_);show wpAny _ _ (field (.ref z) 3>>=_) _ _ _;refine ae (iG hz rfl (x:=.ref TI) rfl ?_);refine ae (jm hTI rfl ?_);show wpAny _ _ (Builtin.SmallTypes.ownedTupleIsFree (.ref z)>>=_) _ _ _;refine ae (hfree ?_);simp only[jJ];refine ae (jk ?_);refine ae (iG hz rfl (x:=.ref TO) rfl ?_);refine ae (gY hz (by simp) λg1 hz1 e1=>?_)
 replace hz1:gQ g1 z TI TO .ellipsis bb:=hz1
 refine ae ?_;simp only[Fh,Fi,rh,wF];refine ae (ae (xH ?_));show wpAny _ _ (Builtin.SmallTypes.nextOf (.ref i1)>>=_) _ _ _;refine ae (uk (h1.at λo q=>e1.extBut _ o D.i1z q) (hl1.at λo q=>e1.extBut _ o D.l1z q) hx λg2 h1' e2=>ak ?_);have p5:IsPair g2 TO a b:=e2.extBut _ _ D.TOi1 (e1.extBut _ _ D.TOz hTO);refine ae (jm p5 rfl ?_);refine ae (Ge p5 λg3 tO e3=>?_)
 replace tO:IsPair g3 TO x b:=tO
 refine ae (xF (ak ?_));refine ae (ae (xH ?_));show wpAny _ _ (Builtin.SmallTypes.nextOf (.ref i2)>>=_) _ _ _;have Dy:∀o,s.heap.get? i2=some o->g3.get? i2=some o:=λo q=>e3.extBut _ o D.TOi2.symm (e2.extBut _ o D.i12.symm (e1.extBut _ o D.i2z q));have Dz:∀o,s.heap.get? l2=some o->g3.get? l2=some o:=λo q=>e3.extBut _ o D.l2TO (e2.extBut _ o D.l2i1 (e1.extBut _ o D.l2z q));refine ae (uk (h2.at Dy) (hl2.at Dz) hy λg4 h2' e4=>ak ?_);have Iy:IsPair g4 TO x b:=e4.extBut _ _ D.TOi2 tO;refine ae (jm Iy rfl ?_);refine ae (Ge Iy λg5 tP e5=>?_)
 replace tP:IsPair g5 TO x y:=tP
 refine ae (xF (ak (ak ?_)));refine ae (jm tP rfl ?_);refine ae (rS ?_);have sz:g5.objs.size=s.heap.objs.size:=by rw[e5.1,e4.1,e3.1,e2.1,e1.1]
 have Jp:gQ g5 z TI TO .ellipsis bb:=e5.extBut _ _ D.TOz.symm (e4.extBut _ _ D.i2z.symm (e3.extBut _ _ D.TOz.symm (e2.extBut _ _ D.i1z.symm hz1)));have k5:∀c o,c≠z->c≠TO->c≠i1->c≠i2->s.heap.get? c=some o->g5.get? c=some o:=λc o q1 q2 q3 q4 q =>
  e5.extBut _ _ q2 (e4.extBut _ _ q4 (e3.extBut _ _ q2 (e2.extBut _ _ q3 (e1.extBut _ _ q1 q))))
 have h15:bK c1 g5 i1 l1 (k1+1):=h1'.at λo q=>e5.extBut _ o D.TOi1.symm (e4.extBut _ o D.i12 (e3.extBut _ o D.TOi1.symm q));have T6:bK c2 g5 i2 l2 (k2+1):=h2'.at λo q=>e5.extBut _ o D.TOi2.symm q;have Qb:z<g5.objs.size:=aP Jp;show wpAny _ _ (Builtin.SmallTypes.ownedTupleHandOut (.ref z) (.ref g5.objs.size)>>=_) _ _ _;refine ae ?_;unfold Builtin.SmallTypes.ownedTupleHandOut;have Vo:gQ (g5.push {cls:=.type "tuple", data:=.seq #[x,y]}) z TI TO .ellipsis bb:=aI _ Jp;refine ae (gY Vo (by simp) λg7 z7 e7=>?_)
 replace z7:gQ g7 z TI TO (rawInt g5.objs.size) bb:=z7
 refine gY z7 (by simp) λg8 hz8 e8=>?_
 replace hz8:IsZip g8 z TI TO (rawInt g5.objs.size):=hz8
 have up:∀c o,c≠z->g5.get? c=some o->g8.get? c=some o:=λc o q1 q=>e8.extBut _ _ q1 (e7.extBut _ _ q1 (aI _ q));have hT8:IsPair g8 g5.objs.size x y:=e8.extBut _ _ (gF Qb) (e7.extBut _ _ (gF Qb) (bf _ rfl));have z8:g8.objs.size=g5.objs.size+1:=by rw[e8.1,e7.1,eK]
 rw[sz]at hz8 hT8 z8;refine ak ⟨_,rfl,?_⟩;show Q (.ref g5.objs.size) _;rw[sz];exact hQ g8 hz8 (up _ _ D.TOz tP) (h15.at λo q=>up _ o D.i1z q) (T6.at λo q=>up _ o D.i2z q) hT8 z8 λc o q1 q2 q3 q4 q=>up c o q1 (k5 c o q1 q2 q3 q4 q)
theorem abf{f0:Value}{bb:Bool}{Q:Fin->Shared->Prop}(hh:A.handled=none)(D:ZipApart z TI TO i1 i2 l1 l2)(hz:gQ s.heap z TI TO f0 bb)(hfree:∀{A':Around} {E':Value->Shared->Prop} {Q':Bool->Shared->Prop},Q' true s->wpAny (model prog w) A' (Builtin.SmallTypes.ownedTupleIsFree (.ref z)) Q' E' s)(hTI:IsPair s.heap TI (.ref i1) (.ref i2))(hTO:IsPair s.heap TO a b)(h1:bK c1 s.heap i1 l1 k1)(h2:bK c2 s.heap i2 l2 k2)(hl1:bR c1 s.heap l1 xs)(hl2:bR c2 s.heap l2 ys)(hend:xs[k1]?=none\/ys[k2]?=none)
  (hE:∀h' e,(∀c o,c≠z->c≠TO->c≠i1->c≠i2->s.heap.get? c=some o->h'.get? c=some o)->(∃o,h'.get? e=some o/\o.cls = .type "StopIteration")->E (.ref e) {s with heap:=h'}) :
  wpAny (model prog w) A (Builtin.«zip.__next__» ⟨[.ref z],[]⟩) Q E s:=by
 show wpAny _ _ (field (.ref z) 2>>=_) _ _ _;refine ae (iG hz rfl (x:=.bool false) rfl ?_);show wpAny _ _ (field (.ref z) 3>>=_) _ _ _;refine ae (iG hz rfl (x:=.ref TI) rfl ?_);refine ae (jm hTI rfl ?_);show wpAny _ _ (Builtin.SmallTypes.ownedTupleIsFree (.ref z)>>=_) _ _ _;refine ae (hfree ?_);simp only[jJ];refine ae (jk ?_);refine ae (iG hz rfl (x:=.ref TO) rfl ?_);refine ae (gY hz (by simp) λg1 hz1 e1=>?_)
 replace hz1:gQ g1 z TI TO .ellipsis bb:=hz1
 refine ae ?_;simp only[Fh,Fi,rh,wF];refine ae (ae (xH ?_));show wpAny _ _ (Builtin.SmallTypes.nextOf (.ref i1)>>=_) _ _ _;have u1:∀o,s.heap.get? i1=some o->g1.get? i1=some o:=λo q=>e1.extBut _ o D.i1z q;have u2:∀o,s.heap.get? l1=some o->g1.get? l1=some o:=λo q=>e1.extBut _ o D.l1z q;cases hx:xs[k1]? with
 |none =>
  refine ae (Ba hh (h1.at u1) (hl1.at u2) hx λg2 e e2 he=>?_);obtain⟨oe,hoe,hce⟩:=he;have hz2:gQ g2 z TI TO .ellipsis bb:=e2 _ _ D.i1z.symm hz1;have hez:e≠z:=λq=>by subst q;rw[hz2]at hoe;cases hoe;simp at hce
  exact gY hz2 (by simp) λg3 _ e3=>hE g3 e (λc o q1 _ q3 _ q=>e3.extBut _ _ q1 (e2 _ _ q3 (e1.extBut _ _ q1 q))) ⟨oe,e3.extBut _ _ hez hoe,hce⟩
 |some x =>
  have hy:ys[k2]?=none:=by rcases hend with h|h;rw[hx]at h;cases h;exact h
  refine ae (uk (h1.at u1) (hl1.at u2) hx λg2 h1' e2=>ak ?_);have p5:IsPair g2 TO a b:=e2.extBut _ _ D.TOi1 (e1.extBut _ _ D.TOz hTO);refine ae (jm p5 rfl ?_);refine ae (Ge p5 λg3 tO e3=>?_);refine ae (xF (ak ?_));refine ae (ae (xH ?_));show wpAny _ _ (Builtin.SmallTypes.nextOf (.ref i2)>>=_) _ _ _;have Dy:∀o,s.heap.get? i2=some o->g3.get? i2=some o:=λo q=>e3.extBut _ o D.TOi2.symm (e2.extBut _ o D.i12.symm (e1.extBut _ o D.i2z q));have Dz:∀o,s.heap.get? l2=some o->g3.get? l2=some o:=λo q=>e3.extBut _ o D.l2TO (e2.extBut _ o D.l2i1 (e1.extBut _ o D.l2z q));refine ae (Ba hh (h2.at Dy) (hl2.at Dz) hy λg4 e e4 he=>?_);obtain⟨oe,hoe,hce⟩:=he;have Jo:gQ g4 z TI TO .ellipsis bb:=e4 _ _ D.i2z.symm (e3.extBut _ _ D.TOz.symm (e2.extBut _ _ D.i1z.symm hz1));have hez:e≠z:=λq=>by subst q;rw[Jo]at hoe;cases hoe;simp at hce
  exact gY Jo (by simp) λg5 _ e5=>hE g5 e (λc o q1 q2 q3 q4 q=>e5.extBut _ _ q1 (e4 _ _ q4 (e3.extBut _ _ q2 (e2.extBut _ _ q3 (e1.extBut _ _ q1 q))))) ⟨oe,e5.extBut _ _ hez hoe,hce⟩
theorem abe{f0:Value}{bb:Bool}{Q:Option Value->Shared->Prop}(D:ZipApart z TI TO i1 i2 l1 l2)(hz:gQ s.heap z TI TO f0 bb)(hfree:∀{A':Around} {E':Value->Shared->Prop} {Q':Bool->Shared->Prop},Q' true s->wpAny (model prog w) A' (Builtin.SmallTypes.ownedTupleIsFree (.ref z)) Q' E' s)(hTI:IsPair s.heap TI (.ref i1) (.ref i2))(hTO:IsPair s.heap TO a b)(h1:bK c1 s.heap i1 l1 k1)(h2:bK c2 s.heap i2 l2 k2)(hl1:bR c1 s.heap l1 xs)(hl2:bR c2 s.heap l2 ys)(hx:xs[k1]?=some x)(hy:ys[k2]?=some y)(hQ:∀h',IsZip h' z TI TO (rawInt s.heap.objs.size)->IsPair h' TO x y->bK c1 h' i1 l1 (k1+1)->bK c2 h' i2 l2 (k2+1)->IsPair h' s.heap.objs.size x y->h'.objs.size=s.heap.objs.size+1 ->
   (∀c o,c≠z->c≠TO->c≠i1->c≠i2->s.heap.get? c=some o->h'.get? c=some o)->Q (some (.ref s.heap.objs.size)) {s with heap:=h'}) :
  wpAny (model prog w) A (pyNext (.ref z)) Q E s:=by
 have hT:s.TypeIs (.ref z) "zip" :=⟨_,hz,rfl⟩;unfold pyNext;exact ae (jf (jg (name:=Str.ofString "__next__") hT xo (fN xo hT F.entry_zip_next
  (abb D hz hfree hTI hTO h1 h2 hl1 hl2 hx hy λh' a1 a2 a3 a4 a5 a6 a7=>ak (hQ h' a1 a2 a3 a4 a5 a6 a7)) (F.args_zip_next_1 _))))
theorem aa_{f0:Value}{bb:Bool}{Q:Option Value->Shared->Prop}(hh:A.handled=none)(D:ZipApart z TI TO i1 i2 l1 l2)(hz:gQ s.heap z TI TO f0 bb)(hfree:∀{A':Around} {E':Value->Shared->Prop} {Q':Bool->Shared->Prop},Q' true s->wpAny (model prog w) A' (Builtin.SmallTypes.ownedTupleIsFree (.ref z)) Q' E' s)(hTI:IsPair s.heap TI (.ref i1) (.ref i2))(hTO:IsPair s.heap TO a b)(h1:bK c1 s.heap i1 l1 k1)(h2:bK c2 s.heap i2 l2 k2)(hl1:bR c1 s.heap l1 xs)(hl2:bR c2 s.heap l2 ys)(hend:xs[k1]?=none\/ys[k2]?=none)
  (hQ:∀h',(∀c o,c≠z->c≠TO->c≠i1->c≠i2->s.heap.get? c=some o->h'.get? c=some o)->Q none {s with heap:=h'}):wpAny (model prog w) A (pyNext (.ref z)) Q E s:=by
 have hT:s.TypeIs (.ref z) "zip" :=⟨_,hz,rfl⟩;unfold pyNext;refine ae (jf (jg (name:=Str.ofString "__next__") hT xo (fN xo hT F.entry_zip_next (abf hh D hz hfree hTI hTO h1 h2 hl1 hl2 hend λh' e hk he=>?_) (F.args_zip_next_1 _))));obtain⟨o,ho,hc⟩:=he;refine ae (rR (T:= "StopIteration") (b:=true) ⟨o,ho,hc⟩ xC ?_);exact ak (hQ _ hk)
theorem Ie(hz:IsZip s.heap z TI TO .none){A':Around}{E':Value->Shared->Prop}{Q':Bool->Shared->Prop}(h:Q' true s):wpAny (model prog w) A' (Builtin.SmallTypes.ownedTupleIsFree (.ref z)) Q' E' s:=by
 unfold Builtin.SmallTypes.ownedTupleIsFree;exact ae (iG hz rfl (x:=.none) rfl (ak h))
theorem abd{Q:Option Value->Shared->Prop}(D:ZipApart z TI TO i1 i2 l1 l2)(hz:IsZip s.heap z TI TO .none)(hTI:IsPair s.heap TI (.ref i1) (.ref i2))(hTO:IsPair s.heap TO a b)(h1:bK c1 s.heap i1 l1 k1)(h2:bK c2 s.heap i2 l2 k2)(hl1:bR c1 s.heap l1 xs)(hl2:bR c2 s.heap l2 ys)(hx:xs[k1]?=some x)(hy:ys[k2]?=some y)(hQ:∀h',IsZip h' z TI TO (rawInt s.heap.objs.size)->IsPair h' TO x y->bK c1 h' i1 l1 (k1+1)->bK c2 h' i2 l2 (k2+1)->IsPair h' s.heap.objs.size x y->h'.objs.size=s.heap.objs.size+1 ->
   (∀c o,c≠z->c≠TO->c≠i1->c≠i2->s.heap.get? c=some o->h'.get? c=some o)->Q (some (.ref s.heap.objs.size)) {s with heap:=h'}) :
  wpAny (model prog w) A (pyNext (.ref z)) Q E s:=abe D hz (Ie hz) hTI hTO h1 h2 hl1 hl2 hx hy hQ
theorem aa9{Q:Option Value->Shared->Prop}(hh:A.handled=none)(D:ZipApart z TI TO i1 i2 l1 l2)(hz:IsZip s.heap z TI TO .none)(hTI:IsPair s.heap TI (.ref i1) (.ref i2))(hTO:IsPair s.heap TO a b)(h1:bK c1 s.heap i1 l1 k1)(h2:bK c2 s.heap i2 l2 k2)(hl1:bR c1 s.heap l1 xs)(hl2:bR c2 s.heap l2 ys)(hend:xs[k1]?=none\/ys[k2]?=none)
  (hQ:∀h',(∀c o,c≠z->c≠TO->c≠i1->c≠i2->s.heap.get? c=some o->h'.get? c=some o)->Q none {s with heap:=h'}):wpAny (model prog w) A (pyNext (.ref z)) Q E s:=aa_ hh D hz (Ie hz) hTI hTO h1 h2 hl1 hl2 hend hQ
end
noncomputable def Sq(b:Bool)(K:W.Frag)(H:Hp)(a:Addr)(xs:List V):Prop:=match b with
 |true=>ai K H a xs
 |false=>ax K H a xs
section
variable {X:Cx} {pins:List (Addr × Obj)} {σ:St} {H:Hp} {s:Shared} {a:Addr} {xs ys:List V} {c:Bool}
theorem Inv.sq(I:Inv X pins σ H s)(h:Sq c X.K H a xs):∃its:List Value,Vals xs its/\bR c s.heap a its.toArray/\xs.length<=sizeLine:=by
 cases c with
 |true=>obtain⟨its,r,p,z⟩:=I.list h;exact⟨its,r,p.isList,z⟩
 |false=>obtain⟨its,r,p,z⟩:=I.tuple h;exact⟨its,r,p,z⟩
theorem Inv.Di(I:Inv X pins σ H s)(h:Sq c X.K H a xs)(h':Sq c X.K H a ys):xs=ys:=by
 cases c with
 |true=>exact I.Ao h h'
 |false=>exact I.Dw h h'
theorem Inv.dM(I:Inv X pins σ H s)(h:Sq c X.K H a xs){b:Addr}(f:cq X pins H b):a≠b:=by
 intro e;subst e;have base:∀o,X.K.lookup a=some o->False:=λo q=>by
  have e1:=I.ok.mod.jK a o q
  rcases f.2.2.2.1 with z|z
  ·exact I.ok.lH a o e1 z
  ·exact absurd (dD (aP e1) (cp I.ok.fS z)) (gE _)
 cases c with
 |true =>
  rcases h with(h|⟨o,h⟩)|⟨o,_,_,h,_⟩
  ·rw[f.1]at h;cases h
  ·rw[f.1]at h;cases h
  ·exact base o h
 |false =>
  rcases h with(h|⟨o,h⟩)|⟨o,_,_,h,_⟩
  ·rw[f.1]at h;cases h
  ·rw[f.1]at h;cases h
  ·exact base o h
theorem Inv.PB{h':Heap}{t':Nat}{ch:List Addr}{T:Addr}{o:HO}(I:Inv X pins σ H s)(hch:∀b∈ch,cq X pins H b)
  (k:∀b u,b ∉ ch->s.heap.get? b=some u->h'.get? b=some u) (hT:s.heap.objs.size<=T) (new:a8 X.prog X.w (upd H T o) h' T o):Inv X pins σ (upd H T o) {s with heap:=h',toks:=t'}:=by
 have nG:H T=none:=I.hok.fresh hT;have ql:∀b u,H b=some u->b ∉ ch:=λb u e z=>by rw[(hch b z).1]at e;cases e
 have hb:∀b u,s.heap.get? b=some u->b≠T:=λb u e=>a_ (dD (aP e) hT);refine I.step (g':=s.gens) (d':=s.drawn) (ch:=ch) (λb hb=>⟨(hch b hb).2.2.2.1,(hch b hb).2.1,(hch b hb).2.2.2.2.1,(hch b hb).2.2.2.2.2⟩) (λb u _ _ hc e _=>k b u hc e) (λb u _ _ hc e _=>⟨u.slots,k b u hc e⟩)
  (λb u _ e n=>by rw[aG (hb b u e)];exact n) (λb u hc e=>⟨u,k b u hc e⟩) (λb ys e=>by rw[aG (cx e nG)];exact e) (λb u ys e=>by rw[aG (cx e nG)];exact e)
  (λb ps e=>⟨#[],by rw[aG (cx e nG),e];simp⟩) (λm hm=>?_) (λb u e=>?_) I.bare
 ·obtain⟨o',es,ep,ho,r⟩:=hm
  exact⟨o',es,ep,k _ o' (λz=>(hch _ z).2.1 rfl) ho,r⟩
 ·by_cases hbT:b=T
  ·subst hbT;rw[aA]at e;cases e;exact new
  ·rw[aG hbT]at e
   refine(I.hok b u e).stay (λc v hc q=>k c v ?_ q) (λc q=>by rw[aG (cx q nG)];exact q) (λc ys q=>by rw[aG (cx q nG)];exact q) λc ob u q=>by rw[aG (cx q nG)];exact q
   rcases hc with z|z
   ·rw[z];exact ql b u e
   ·exact ql c _ z
theorem Inv.Pz{h':Heap}{t':Nat}{ch:List Addr}(I:Inv X pins σ H s)(hch:∀b∈ch,cq X pins H b)
  (k:∀b u,b ∉ ch->s.heap.get? b=some u->h'.get? b=some u):Inv X pins σ H {s with heap:=h',toks:=t'}:=by
 have ql:∀b u,H b=some u->b ∉ ch:=λb u e z=>by rw[(hch b z).1]at e;cases e
 refine I.step (g':=s.gens) (d':=s.drawn) (ch:=ch) (λb hb=>⟨(hch b hb).2.2.2.1,(hch b hb).2.1,(hch b hb).2.2.2.2.1,(hch b hb).2.2.2.2.2⟩) (λb u _ _ hc e _=>k b u hc e) (λb u _ _ hc e _=>⟨u.slots,k b u hc e⟩)
  (λb u _ e n=>n) (λb u hc e=>⟨u,k b u hc e⟩) (λb ys e=>e) (λb u ys e=>e) (λb ps e=>⟨#[],by rw[e];simp⟩) (λm hm=>?_) (λb u e=>?_) I.bare
 ·obtain⟨o',es,ep,ho,r⟩:=hm
  exact⟨o',es,ep,k _ o' (λz=>(hch _ z).2.1 rfl) ho,r⟩
 ·refine(I.hok b u e).stay (λc v hc q=>k c v ?_ q) (λc q=>q) (λc ys q=>q) λc ob u q=>q
  rcases hc with z|z
  ·rw[z];exact ql b u e
  ·exact ql c _ z
end
noncomputable def wy(K:W.Frag)(c1 c2:Bool)(l1 l2:Addr):It:=
 ⟨λi H=>∃xs ys x y,Sq c1 K H l1 xs/\Sq c2 K H l2 ys/\xs[i]?=some x/\ys[i]?=some y,
   λi H v H'=>∃T x y,v = .ref T/\H T=none/\H'=upd H T (.tup [x,y])/\(∀xs,Sq c1 K H l1 xs->xs[i]?=some x)/\∀ys,Sq c2 K H l2 ys->ys[i]?=some y,
   λi H=>∃xs ys,Sq c1 K H l1 xs/\Sq c2 K H l2 ys/\(xs.length<=i\/ys.length<=i)⟩
structure Gi (c1 c2:Bool) (z TI TO i1 i2 l1 l2:Addr) (i:Nat) (h:Heap):Prop where
 hz:IsZip h z TI TO .none
 ti:IsPair h TI (.ref i1) (.ref i2)
 to:∃a b,IsPair h TO a b
 h1:bK c1 h i1 l1 i
 h2:bK c2 h i2 l2 i
theorem LW{P:Program}{w:World}{H:Hp}{h:Heap}{T:Addr}{x y:V}{u v:Value}(e:IsPair h T u v)(r1:RelV x u)(r2:RelV y v):a8 P w H h T (.tup [x,y]):=
 ⟨by show 2<=sizeLine;decide,[u,v],.cons r1 (.cons r2 .nil),⟨_,e,rfl,_,rfl⟩,_,e,rfl⟩
theorem aaT{P:Program}{w:World}{K:W.Frag}{elts:List Expr}{k:Nat}{pos:Pos}{c1 c2:Bool}{z TI TO i1 i2:Addr}(l1 l2:Addr)(nd:TI≠z/\TO≠z/\i1≠z/\i2≠z/\TI≠TO/\TI≠i1/\TI≠i2/\TO≠i1/\TO≠i2/\i1≠i2):Turn P w K (.Tuple elts k pos) (wy K c1 c2 l1 l2) [z,TI,TO,i1,i2] z (Gi c1 c2 z TI TO i1 i2 l1 l2) where
 mem:=by simp
 obj:=λi h st b hb=>by
  have fld:∀{a:Addr} {o:Obj},h.get? a=some o->(∀v,o.data≠.cell v)->∃o,h.get? a=some o/\∀v,o.data≠.cell v:=λe d=>⟨_,e,d⟩;simp only[aY,eJ,eT]at hb
  rcases hb with rfl|rfl|rfl|rfl|rfl
  ·exact⟨_,st.hz,λv q=>by cases(show Data.fields _=Data.cell v from q)⟩
  ·exact⟨_,st.ti,λv q=>by cases(show Data.seq _ _=Data.cell v from q)⟩
  ·obtain⟨_,_,e⟩:=st.to
   exact⟨_,e,λv q=>by cases(show Data.seq _ _=Data.cell v from q)⟩
  ·exact st.h1.obj
  ·exact st.h2.obj
 keep:=λi h h' st kk=>⟨kk z (by simp) _ st.hz,kk TI (by simp) _ st.ti,let⟨a,b,e⟩:=st.to;⟨a,b,kk TO (by simp) _ e⟩,st.h1.at λo e=>kk i1 (by simp) o e,st.h2.at λo e=>kk i2 (by simp) o e⟩
 item:=by
  intro X hP hw hK hc i pins s σ H E I hf st hg;subst hP hw hK;obtain⟨xs,ys,x,y,q1,q2,hx,hy⟩:=hg;obtain⟨z_,Bz,p1,z1⟩:=I.sq q1;obtain⟨Aa,BG,p2,z2⟩:=I.sq q2;obtain⟨u,hu,ru⟩:=Bz.get hx;obtain⟨v,hv,rv⟩:=BG.get hy;obtain⟨a,b,hTO⟩:=st.to;obtain⟨n1,n2,n3,n4,n5,n6,n7,n8,n9,n10⟩:=nd;have D:ZipApart z TI TO i1 i2 l1 l2:=⟨n1,n2,n3,n4,n5,n6,n7,n8,n9,n10,I.dM q1 (hf z (by simp)),I.dM q1 (hf TO (by simp)),I.dM q1 (hf i1 (by simp)),I.dM q1 (hf i2 (by simp)),
   I.dM q2 (hf z (by simp)),I.dM q2 (hf TO (by simp)),I.dM q2 (hf i1 (by simp)),I.dM q2 (hf i2 (by simp))⟩
  refine abd D st.hz st.ti hTO st.h1 st.h2 p1 p2 (by simpa using hu) (by simpa using hv) λh' a1 a2 a3 a4 a5 a6 a7=>?_;refine⟨_,rfl,wpAny_letOwnedTupleGo_zip a1 λh2 b1 b2=>?_⟩;have hzlt:z<s.heap.objs.size:=aP st.hz;have Uk:IsPair h2 TI (.ref i1) (.ref i2):=b2.extBut _ _ n1 (a7 _ _ n1 n5 n6 n7 st.ti);have keep:∀b u,b ∉ [z,TO,i1,i2]->s.heap.get? b=some u->h2.get? b=some u:=λb u hb e=>by
   simp only[aY,eJ,eT,not_or]at hb;exact b2.extBut _ _ hb.1 (a7 b u hb.1 hb.2.1 hb.2.2.1 hb.2.2.2 e)
  have hT2:IsPair h2 s.heap.objs.size u v:=b2.extBut _ _ (gF hzlt) a5;have Dm:∀b∈[z,TO,i1,i2],b∈[z,TI,TO,i1,i2]:=λb hb=>by
   simp only[aY,eJ,eT]at hb ⊢
   rcases hb with h|h|h|h<;>simp[h]
  have I2:Inv X pins σ (upd H s.heap.objs.size (.tup [x,y])) {s with heap:=h2,toks:=s.toks}:=
   I.PB (λb hb=>hf b (Dm b hb)) keep (aH _) (LW hT2 ru rv)
  refine⟨.ref s.heap.objs.size,_,I2,rfl,⟨_,x,y,rfl,I.fresh,rfl,λzs hz=>by rw[I.Di hz q1];exact hx,λzs hz=>by rw[I.Di hz q2];exact hy⟩,
   ⟨b1,Uk,⟨u,v,b2.extBut _ _ n2 a2⟩,a3.at λo e=>b2.extBut _ o n3 e,a4.at λo e=>b2.extBut _ o n4 e⟩,λb hb=>?_⟩
  have hlt:b<s.heap.objs.size:=by
   have live:∀b∈[z,TI,TO,i1,i2],b<s.heap.objs.size:=λb hb=>by
    simp only[aY,eJ,eT]at hb
    rcases hb with rfl|rfl|rfl|rfl|rfl
    ·exact hzlt
    ·exact aP st.ti
    ·exact aP hTO
    ·obtain⟨o,e,_⟩:=st.h1.obj;exact aP e
    ·obtain⟨o,e,_⟩:=st.h2.obj;exact aP e
   exact live b hb
  rw[aG (a_ hlt)];exact(hf b hb).1
 done:=by
  intro X hP hw hK hc i pins s σ H E I hf st hg;subst hP hw hK;obtain⟨xs,ys,q1,q2,hend⟩:=hg;obtain⟨z_,Bz,p1,z1⟩:=I.sq q1;obtain⟨Aa,BG,p2,z2⟩:=I.sq q2;obtain⟨a,b,hTO⟩:=st.to;obtain⟨n1,n2,n3,n4,n5,n6,n7,n8,n9,n10⟩:=nd;have D:ZipApart z TI TO i1 i2 l1 l2:=⟨n1,n2,n3,n4,n5,n6,n7,n8,n9,n10,I.dM q1 (hf z (by simp)),I.dM q1 (hf TO (by simp)),I.dM q1 (hf i1 (by simp)),I.dM q1 (hf i2 (by simp)),
   I.dM q2 (hf z (by simp)),I.dM q2 (hf TO (by simp)),I.dM q2 (hf i1 (by simp)),I.dM q2 (hf i2 (by simp))⟩
  have e1:=Bz.length;have e2:=BG.length;have hend':z_.toArray[i]?=none\/Aa.toArray[i]?=none:=by
   rcases hend with h|h
   ·exact .inl (by simp;omega)
   ·exact .inr (by simp;omega)
  refine aa9 (I.ok.hd hc) D st.hz st.ti hTO st.h1 st.h2 p1 p2 hend' λh' kk=>⟨rfl,?_⟩;have Dm:∀b∈[z,TO,i1,i2],b∈[z,TI,TO,i1,i2]:=λb hb=>by
   simp only[aY,eJ,eT]at hb ⊢
   rcases hb with h|h|h|h<;>simp[h]
  exact I.Pz (t':=s.toks) (ch:=[z,TO,i1,i2]) (λb hb=>hf b (Dm b hb)) λb u hb e=>by
   simp only[aY,eJ,eT,not_or]at hb;exact kk b u hb.1 hb.2.1 hb.2.2.1 hb.2.2.2 e
 self:=λ_ _ _ _ _ st h=>wpAny_pyIter_zip st.hz h
noncomputable def gJ (c:Bool) (l:Addr):Obj:={cls:=.type (match c with|true => "list_iterator" |false => "tuple_iterator"),data:=.fields #[.ref l,.int 0 0]}
theorem Dg{c:Bool}{h:Heap}{it l:Addr}(e:h.get? it=some (gJ c l)):bK c h it l 0:=by
 cases c with
 |true=>exact⟨_,e,rfl,rfl⟩
 |false=>exact⟨_,e,rfl,rfl⟩
section
variable {prog:Program} {w:World} {A:Around} {E:Value->Shared->Prop} {s:Shared}
theorem p_{c:Bool}{l:Addr}{items:Array Value}{Q:Value->Shared->Prop}(hl:bR c s.heap l items)
  (hQ:Q (.ref s.heap.objs.size) {s with heap:=s.heap.push (gJ c l)}):wpAny (model prog w) A (pyIter (.ref l)) Q E s:=by
 cases c with
 |true=>exact pk hl hQ
 |false=>exact wpAny_pyIter_tuple hl hQ
end
abbrev vX (c1:Bool) (h:Heap) (l1:Addr):Heap:=h.push (gJ c1 l1)
abbrev vY (c1 c2:Bool) (h:Heap) (l1 l2:Addr):Heap:=(vX c1 h l1).push (gJ c2 l2)
abbrev vZ (c1 c2:Bool) (h:Heap) (l1 l2:Addr):Heap:=(vY c1 c2 h l1 l2).push {cls:=.type "tuple", data:=.seq #[.ref h.objs.size,.ref (vX c1 h l1).objs.size]}
abbrev v9 (c1 c2:Bool) (h:Heap) (l1 l2:Addr):Heap:=(vZ c1 c2 h l1 l2).push {cls:=.type "tuple", data:=.seq #[.none,.none]}
abbrev lX (c1 c2:Bool) (h:Heap) (l1 l2:Addr):Heap:=(v9 c1 c2 h l1 l2).push {cls:=.type "zip", data:=.fields #[.none,.bool false,.bool false,.ref (vY c1 c2 h l1 l2).objs.size,.ref (vZ c1 c2 h l1 l2).objs.size]}
theorem WK(c1 c2:Bool)(l1 l2:Addr)(xs ys:Array Value):
  Meets (Builtin.«zip.__new__» ⟨[.type "zip", .ref l1,.ref l2],[]⟩) (λ_ R s=>bR c1 s.heap l1 xs/\bR c2 s.heap l2 ys /\
   R (.ok (.ret (.ref (v9 c1 c2 s.heap l1 l2).objs.size))) {s with heap:=lX c1 c2 s.heap l1 l2}):=
 .of_wp λprog w A R s h=>by
  obtain⟨hp,g,d,tk,os⟩:=s;obtain⟨hl1,hl2,h⟩:=h;have hsub:=sub_zip;have hL1:bR c1 (Shared.heap ⟨hp,g,d,tk,os⟩) l1 xs:=hl1;have hL2:bR c2 (Shared.heap ⟨hp.push (gJ c1 l1),g,d,tk,os⟩) l2 ys:=hl2.at λo e=>aI _ e
  wp_walk using p_ hL1,p_ hL2
  exact⟨_,rfl,h⟩
section
variable {prog:Program} {w:World} {A:Around} {E:Value->Shared->Prop} {s:Shared}
theorem Rn{c1 c2:Bool}{l1 l2:Addr}{xs ys:Array Value}{Q:Value->Shared->Prop}(hl1:bR c1 s.heap l1 xs)(hl2:bR c2 s.heap l2 ys)(h:∀h',Gi c1 c2 (s.heap.objs.size+4) (s.heap.objs.size+2) (s.heap.objs.size+3) s.heap.objs.size (s.heap.objs.size+1) l1 l2 0 h'->h'.objs.size=s.heap.objs.size+5 ->
   (∀c o,s.heap.get? c=some o->h'.get? c=some o)->Q (.ref (s.heap.objs.size+4)) {s with heap:=h'}) :
  wpAny (model prog w) A (call (.type "zip") [.ref l1,.ref l2]) Q E s:=by
 refine callType_new F.called_zip (by decide) (F.typeCall_zip_2 _ _) (F.newCall_zip_2 _ _) (λobj=>F.args_object_init_3 obj _ _) F.entry_zip_new (WK c1 c2 l1 l2 xs ys) ⟨hl1,hl2,?_⟩;have z1:(vX c1 s.heap l1).objs.size=s.heap.objs.size+1:=eK ..;have z2:(vY c1 c2 s.heap l1 l2).objs.size=s.heap.objs.size+2:=by rw[eK,z1]
 have z3:(vZ c1 c2 s.heap l1 l2).objs.size=s.heap.objs.size+3:=by rw[eK,z2]
 have z4:(v9 c1 c2 s.heap l1 l2).objs.size=s.heap.objs.size+4:=by rw[eK,z3]
 have z5:(lX c1 c2 s.heap l1 l2).objs.size=s.heap.objs.size+5:=by rw[eK,z4]
 have g5:(lX c1 c2 s.heap l1 l2).get? (v9 c1 c2 s.heap l1 l2).objs.size=some _:=bf _ rfl;have g4:(lX c1 c2 s.heap l1 l2).get? (vZ c1 c2 s.heap l1 l2).objs.size=some _:=aI _ (bf _ rfl);have g3:(lX c1 c2 s.heap l1 l2).get? (vY c1 c2 s.heap l1 l2).objs.size=some _:=aI _ (aI _ (bf _ rfl));have g2:(lX c1 c2 s.heap l1 l2).get? (vX c1 s.heap l1).objs.size=some _:=aI _ (aI _ (aI _ (bf _ rfl)));have g1:(lX c1 c2 s.heap l1 l2).get? s.heap.objs.size=some _:=aI _ (aI _ (aI _ (aI _ (bf _ rfl))));show _/\_;rw[z2,z3,z4]at g5;rw[z1,z2]at g3;rw[z3]at g4;rw[z1]at g2;rw[z4];exact⟨⟨_,g5,rfl⟩,h _ ⟨g5,g3,⟨_,_,g4⟩,Dg g1,Dg g2⟩ z5 λc o x =>
  aI _ (aI _ (aI _ (aI _ (aI _ x))))⟩
end
section
variable {X:Cx} {elts:List Expr} {k:Nat} {tpos:Pos}
noncomputable def Jt(K:W.Frag)(c1 c2:Bool)(ta:TA):TI:=λσ H R=>ta σ H λvs H1=>∃l1 l2 xs ys,vs = [.ref l1,.ref l2]/\Sq c1 K H1 l1 xs/\Sq c2 K H1 l2 ys/\R (wy K c1 c2 l1 l2) H1
theorem YD (c1 c2:Bool) {a b:Expr} {ta:TA} {p pos:Pos} (hg:Gl X "zip") (hm:X.mg "zip" = none) (ha:PA X [a,b] ta) (hs:starEach [a,b] X.env = [(false,eval a X.env),(false,eval b X.env)]:=by rfl) (hs2:starEach [b] X.env = [(false,eval b X.env)]:=by rfl) :
  PI X (.Tuple elts k tpos) (.Call (.Name "zip" p) [a,b] [] pos) (Jt X.K c1 c2 ta):=by
 intro pins s σ H R I h;refine Call_ (iR I hg hm (show bootBuiltins "zip" = some (.type "zip")by decide +kernel) (o8 (aC (ha pos pins s σ H _ I h) λus s1 ⟨vs,H1,I1,r1,q1⟩=>?_) (by rw[hs,hs2]) (by rw[hs2];rfl)));obtain⟨l1,l2,xs,ys,e,q1,q2,q⟩:=q1;subst e;obtain⟨u,v,rfl,ru,rv⟩:=Vals.two r1;cases ru;cases rv;obtain⟨z_,_,p1,_⟩:=I1.sq q1;obtain⟨Aa,_,p2,_⟩:=I1.sq q2;refine Rn p1 p2 λh' zr hz hk=>wpAny_pyIter_zip zr.hz ?_;have I2:Inv X pins σ H1 {s1 with heap:=h',toks:=s1.toks}:=I1.kept hk;have nd:∀n:Nat,n+2≠n+4/\n+3≠n+4/\n≠n+4/\n+1≠n+4/\n+2≠n+3/\n+2≠n/\n+2≠n+1/\n+3≠n/\n+3≠n+1/\n≠n+1:=λn=>by omega
 refine⟨_,_,_,_,H1,rfl,I2,aaT l1 l2 (nd s1.heap.objs.size),zr,λb hb=>?_,q⟩;simp only[aY,eJ,eT]at hb;have ge:s1.heap.objs.size<=b:=by rcases hb with rfl|rfl|rfl|rfl|rfl<;>omega
 exact I1.km ge (I1.hok.fresh ge)
end
theorem Hk{prog:Program}{w:World}{A:Around}(hh:A.handled=none)(c:Bool)(it l:Addr)(hne:l≠it)(items:Array Value):Draws prog w A it [it,l] items.size (λi v=>items[i]?=some v) (λi h=>bK c h it l i/\bR c h l items) where
 live:=λ_ _ st=>let⟨o,ho,_⟩:=st.1.obj;⟨o,ho⟩
 frame:=λ_ _ _ st hk=>⟨st.1.at λo e=>hk it (by simp) o e,st.2.at λo e=>hk l (by simp) o e⟩
 item:=λi s Q E hi st hQ=>uk st.1 st.2 (x:=items[i]) (by simp[hi]) λh' hit' hs'=>hQ _ h' s.toks (by simp[hi]) ⟨hit',st.2.at λo e=>hs'.extBut _ o hne e⟩ hs'
 done:=λs Q E st hE=>Ba hh st.1 st.2 (by simp) hE
theorem WD(c:Bool)(l:Addr)(items:Array Value):
  Meets (Builtin.«enumerate.__new__» ⟨[.type "enumerate", .ref l],[]⟩) (λ_ R s=>bR c s.heap l items /\
   R (.ok (.ret (.ref (s.heap.push (gJ c l)).objs.size))) {s with heap:=(s.heap.push (gJ c l)).push {cls:=.type "enumerate", data:=.fields #[.none,.bool false,.ref s.heap.objs.size,rawInt 0,.none,.none]}}):=
 .of_wp λprog w A R s h=>by
  obtain⟨hp,g,d,tk,os⟩:=s;obtain⟨hl,h⟩:=h;have hsub:=sub_enumerate;have hL:bR c (Shared.heap ⟨hp,g,d,tk,os⟩) l items:=hl
  wp_walk
  refine wpAny_stack_any λst=>ak ?_
  split
  ·rename_i cc _ _ _ _ _
   cases(cc==Value.type "enumerate")
   ·wp_walk using p_ hL
    exact⟨_,rfl,h⟩
   ·wp_walk using p_ hL
    exact⟨_,rfl,h⟩
  ·wp_walk using p_ hL
   exact⟨_,rfl,h⟩
structure Ei (c:Bool) (e it l:Addr) (i:Nat) (h:Heap):Prop where
 he:∃old,IsEnum h e it i old
 h1:bK c h it l i
theorem Rm{prog:Program}{w:World}{A:Around}{E:Value->Shared->Prop}{s:Shared}{c:Bool}{l:Addr}{items:Array Value}{Q:Value->Shared->Prop}(hl:bR c s.heap l items)
  (h:∀h',Ei c (s.heap.objs.size+1) s.heap.objs.size l 0 h'->h'.objs.size=s.heap.objs.size+2->(∀b o,s.heap.get? b=some o->h'.get? b=some o)->Q (.ref (s.heap.objs.size+1)) {s with heap:=h'}) :
  wpAny (model prog w) A (call (.type "enumerate") [.ref l]) Q E s:=by
 refine callType_new F.called_enumerate (by decide) (F.typeCall_enumerate_1 _) (F.newCall_enumerate_1 _) (λobj=>F.args_object_init_2 obj _) F.entry_enumerate_new (WD c l items) ⟨hl,?_⟩;have hz:(s.heap.push (gJ c l)).objs.size=s.heap.objs.size+1:=eK ..;have g2:((s.heap.push (gJ c l)).push {cls:=.type "enumerate", data:=.fields #[.none,.bool false,.ref s.heap.objs.size,rawInt 0,.none,.none]}).get? (s.heap.push (gJ c l)).objs.size=some _:=bf _ rfl;have g1:((s.heap.push (gJ c l)).push {cls:=.type "enumerate", data:=.fields #[.none,.bool false,.ref s.heap.objs.size,rawInt 0,.none,.none]}).get? s.heap.objs.size=some (gJ c l):=aI _ (bf _ rfl);show _/\_;rw[hz]at g2 ⊢;exact⟨⟨_,g2,rfl⟩,h _ ⟨⟨.none,g2⟩,Dg g1⟩ (by rw[eK,hz]) λb o e=>aI _ (aI _ e)⟩
noncomputable def Ite(K:W.Frag)(c:Bool)(l:Addr):It:=
 ⟨λi H=>∃xs x,Sq c K H l xs/\xs[i]?=some x,
   λi H v H'=>∃T x,v = .ref T/\H T=none/\H'=upd H T (.tup [.int i,x])/\∀xs,Sq c K H l xs->xs[i]?=some x,
   λi H=>∃xs,Sq c K H l xs/\xs.length=i⟩
theorem aaO{P:Program}{w:World}{K:W.Frag}{elts:List Expr}{k:Nat}{pos:Pos}{c:Bool}{e it:Addr}(l:Addr)(ne:e≠it):Turn P w K (.Tuple elts k pos) (Ite K c l) [e,it] e (Ei c e it l) where
 mem:=by simp
 obj:=λi h st b hb=>by
  simp only[aY,eJ,eT]at hb
  rcases hb with rfl|rfl
  ·obtain⟨old,q⟩:=st.he
   exact⟨_,q,λv q=>by cases(show Data.fields _=Data.cell v from q)⟩
  ·exact st.h1.obj
 keep:=λi h h' st kk=>⟨let⟨old,q⟩:=st.he;⟨old,kk e (by simp) _ q⟩,st.h1.at λo q=>kk it (by simp) o q⟩
 item:=by
  intro X hP hw hK hc i pins s σ H E I hf st hg;subst hP hw hK;obtain⟨xs,x,q1,hx⟩:=hg;obtain⟨its,rv,p,z⟩:=I.sq q1;obtain⟨u,hu,ru⟩:=rv.get hx;obtain⟨old,he⟩:=st.he;have n1:l≠e:=I.dM q1 (hf e (by simp));have n2:l≠it:=I.dM q1 (hf it (by simp));have hil:i<its.length:=by rw[<- rv.length];exact(bp.mp hx).1
  have hh:X.A.in1.handled=none:=I.ok.hd hc;refine wpAny_pyNext_enum_itemD (Hk hh c it l n2 its.toArray) he ⟨st.h1,p⟩ (by simpa using hil) ne (by simp[ne,b_ n1]) λx' h' tk hP ho hs' hT hsz hk=>?_;have ex:x'=u:=by
   have hu':its.toArray[i]?=some u:=by simpa using hu
   rw[hu']at hP;exact(df hP).symm
  subst ex;refine⟨_,rfl,wpAny_letOwnedTupleGo_enum ho λh2 b1 b2=>?_⟩;have elt:e<s.heap.objs.size:=aP he;obtain⟨oi,ei,_⟩:=st.h1.obj;have Vw:it<s.heap.objs.size:=aP ei;have keep:∀b u,b ∉ [e,it]->s.heap.get? b=some u->h2.get? b=some u:=λb u hb q=>by
   simp only[aY,eJ,eT,not_or]at hb;exact b2.extBut _ _ hb.1 (hk b u hb.1 hb.2 q)
  have hT2:IsPair h2 s.heap.objs.size (.int i tk) x':=b2.extBut _ _ (gF elt) hT;have I2:Inv X pins σ (upd H s.heap.objs.size (.tup [.int i,x])) {s with heap:=h2,toks:=tk+1}:=I.PB hf keep (aH _) (LW hT2 ⟨tk,rfl⟩ ru);refine⟨.ref s.heap.objs.size,_,I2,rfl,⟨_,x,rfl,I.fresh,rfl,λzs hz=>by rw[I.Di hz q1];exact hx⟩,⟨⟨x',by simpa using b1⟩,hs'.1.at λo q=>b2.extBut _ o (b_ ne) q⟩,λb hb=>?_⟩;have hlt:b<s.heap.objs.size:=by
   simp only[aY,eJ,eT]at hb
   rcases hb with rfl|rfl
   ·exact elt
   ·exact Vw
  rw[aG (a_ hlt)];exact(hf b hb).1
 done:=by
  intro X hP hw hK hc i pins s σ H E I hf st hg;subst hP hw hK;obtain⟨xs,q1,hend⟩:=hg;obtain⟨its,rv,p,z⟩:=I.sq q1;obtain⟨old,he⟩:=st.he;have n2:l≠it:=I.dM q1 (hf it (by simp));have el:i=its.toArray.size:=by rw[<- hend,rv.length];simp
  have hh:X.A.in1.handled=none:=I.ok.hd hc;refine wpAny_pyNext_enum_endD (Hk hh c it l n2 its.toArray) he (by rw[<- el];exact⟨st.h1,p⟩) λh' hx=>⟨rfl,?_⟩;exact I.Pz (t':=s.toks) (ch:=[e,it]) hf λb u hb q=>by
   simp only[aY,eJ,eT,not_or]at hb;exact hx b u hb.2 q
 self:=λ_ _ _ _ _ st h=>let⟨_,he⟩:=st.he;wpAny_pyIter_enum he h
section
variable {X:Cx} {elts:List Expr} {k:Nat} {tpos:Pos}
noncomputable def Jq(K:W.Frag)(c:Bool)(ta:TA):TI:=λσ H R=>ta σ H λvs H1=>∃l xs,vs = [.ref l]/\Sq c K H1 l xs/\R (Ite K c l) H1
theorem Yy (c:Bool) {a:Expr} {ta:TA} {p pos:Pos} (hg:Gl X "enumerate") (hm:X.mg "enumerate" = none) (ha:PA X [a] ta) (hs:starEach [a] X.env = [(false,eval a X.env)]:=by rfl) :
  PI X (.Tuple elts k tpos) (.Call (.Name "enumerate" p) [a] [] pos) (Jq X.K c ta):=by
 intro pins s σ H R I h;refine Call_ (iR I hg hm (show bootBuiltins "enumerate" = some (.type "enumerate")by decide +kernel) (o8 (aC (ha pos pins s σ H _ I h) λus s1 ⟨vs,H1,I1,r1,q1⟩=>?_) hs rfl));obtain⟨l,xs,e,q1,q⟩:=q1;subst e;obtain⟨u,rfl,ru⟩:=Vals.one r1;cases ru;obtain⟨its,_,p1,_⟩:=I1.sq q1;refine Rm p1 λh' er hz hk=>let⟨_,he⟩:=er.he;wpAny_pyIter_enum he ?_
 have I2:Inv X pins σ H1 {s1 with heap:=h',toks:=s1.toks}:=I1.kept hk;refine⟨_,_,_,_,H1,rfl,I2,aaO l (show s1.heap.objs.size+1≠s1.heap.objs.size by omega),er,λb hb=>?_,q⟩;simp only[aY,eJ,eT]at hb;have ge:s1.heap.objs.size<=b:=by rcases hb with rfl|rfl<;>omega
 exact I1.km ge (I1.hok.fresh ge)
end
theorem Same.put{H:Hp}{a:Addr}{o:HO}(h:H a=none):Same H (upd H a o):=λb u e=>by rw[aG (cx e h)];exact e
noncomputable def cG(D:Addr)(H H':Hp):Prop:=∀b o,b≠D->H b=some o->H' b=some o
theorem Same.x{H H':Hp}(s:Same H H')(D:Addr):cG D H H':=λb o _ e=>s b o e
theorem cG.put{D:Addr}{H:Hp}{o:HO}:cG D H (upd H D o):=λb u hb e=>by rw[aG hb];exact e
theorem cG.trans{D:Addr}{H H1 H2:Hp}(a:cG D H H1)(b:cG D H1 H2):cG D H H2:=λc o hc e=>b c o hc (a c o hc e)
theorem cG.of{D:Addr}{H H':Hp}(h:H D=none)(s:cG D H H'):Same H H':=λb o e=>s b o (cx e h) e
theorem Same.sq{K:W.Frag}{H H':Hp}{a:Addr}{xs:List V}{c:Bool}(e:Same H H')(h:Sq c K H a xs):Sq c K H' a xs:=by
 cases c with
 |true=>exact e.seq h
 |false =>
  rcases h with(h|⟨o,h⟩)|h
  ·exact .inl (.inl (e _ _ h))
  ·exact .inl (.inr ⟨o,e _ _ h⟩)
  ·exact .inr h
theorem Same.Dh{K:W.Frag}{H H':Hp}{a:Addr}{xs:List V}(e:Same H H')(h:ax K H a xs):ax K H' a xs:=e.sq (c:=false) h
structure gG (J:It) (g:TG) (σ₀:St) (H1:Hp) (n:Nat) (sl:Nat->St):Prop where
 go:∀i H,i<n->Same H1 H->J.go i H
 stop:∀H,Same H1 H->J.stop n H
 step:∀i H x H' (K:St->Hp->Prop),i<n->Same H1 H->J.jX i H x H'->(∀H2,Same H H2->K (sl i) H2)->g x σ₀ H' λσ2 H2=>Wk σ₀ σ2/\K σ2 H2
theorem src_range{lo:Int}{n:Nat}{ρ:St}{H1:Hp}:gG (j6 lo n) (bq 0) (none::ρ) H1 n (λi=>some (.int (lo+i))::ρ) where
 go:=λi H hi _=>hi
 stop:=λH _=>aH n
 step:=λi H x H' K hi hs hy hk=>by
  obtain⟨rfl,rfl⟩:=hy;exact⟨Wk.set (Wk.refl _) rfl,hk _ (Same.refl _)⟩
theorem src_list{K:W.Frag}{a:Addr}{xs:List V}{ρ:St}{H1:Hp}(h:ai K H1 a xs):gG (kO K a) (bq 0) (none::ρ) H1 xs.length (λi=>some (xs.getD i .non)::ρ) where
 go:=λi H hi hs=>⟨xs,xs[i],hs.seq h,aq hi⟩
 stop:=λH hs=>⟨xs,hs.seq h,aH _⟩
 step:=λi H x H' K hi hs hy hk=>by
  obtain⟨rfl,hx⟩:=hy;have e:=hx xs (hs.seq h);have e2:xs.getD i .non=x:=by rw[aL,e];rfl
  refine⟨Wk.set (Wk.refl _) rfl,?_⟩;have:=hk _ (Same.refl _);rw[e2]at this;exact this
theorem oz{K:W.Frag}{a:Addr}{xs:List V}{ρ:St}{H1:Hp}(h:ax K H1 a xs):gG (kP K a) (bq 0) (none::ρ) H1 xs.length (λi=>some (xs.getD i .non)::ρ) where
 go:=λi H hi hs=>⟨xs,xs[i],hs.Dh h,aq hi⟩
 stop:=λH hs=>⟨xs,hs.Dh h,aH _⟩
 step:=λi H x H' K hi hs hy hk=>by
  obtain⟨rfl,hx⟩:=hy;have e:=hx xs (hs.Dh h);have e2:xs.getD i .non=x:=by rw[aL,e];rfl
  refine⟨Wk.set (Wk.refl _) rfl,?_⟩;have:=hk _ (Same.refl _);rw[e2]at this;exact this
theorem Ow{K:W.Frag}{c1 c2:Bool}{a b:Addr}{xs ys:List V}{n:Nat}{ρ:St}{H1:Hp}(h1:Sq c1 K H1 a xs)(h2:Sq c2 K H1 b ys)(hn:n=min xs.length ys.length):gG (wy K c1 c2 a b) (pW K 2 (k_ (bq 0) (k_ (bq 1) tK))) (none::none::ρ) H1 n (λi=>some (xs.getD i .non)::some (ys.getD i .non)::ρ) where
 go:=λi H hi hs=>⟨xs,ys,xs[i]'(by omega),ys[i]'(by omega),hs.sq h1,hs.sq h2,aq (by omega),aq (by omega)⟩
 stop:=λH hs=>⟨xs,ys,hs.sq h1,hs.sq h2,by omega⟩
 step:=λi H v H' Kk hi hs hy hk=>by
  obtain⟨T,x,y,rfl,hT,rfl,hx,hy⟩:=hy;have e1:=hx xs (hs.sq h1);have e2:=hy ys (hs.sq h2);have e3:xs.getD i .non=x:=by rw[aL,e1];rfl
  have e4:ys.getD i .non=y:=by rw[aL,e2];rfl
  refine⟨T,[x,y],rfl,.inl (.inl aA),rfl,x,[y],rfl,y,[],rfl,rfl,?_⟩;have:=hk (upd H T (.tup [x,y])) (Same.put hT);rw[e3,e4]at this;exact⟨Wk.set (Wk.set (Wk.refl _) rfl) rfl,this⟩
theorem sv{J:It}{g:TG}{tc:TT}{te:TE}{σ₀:St}{D:Addr}{Q:Hp->Prop}{H1:Hp}{n:Nat}{sl:Nat->St}(keep:Nat->Bool)(Rl:Nat->V->Hp->Prop)(S:gG J g σ₀ H1 n sl)(hD:H1 D=none)(hn:n<sizeLine)(mono:∀i v H H',cG D H H'->Rl i v H->Rl i v H')(step:∀i H (Kt:V->Hp->Prop) (Kf:Hp->Prop),i<n->Same H1 H->(∃ys,H D=some (.lst ys))->(∀v H',keep i=true->Same H H'->Rl i v H'->Kt v H')->(∀H',keep i=false->Same H H'->Kf H') ->
   tc (sl i) H λb H3=>if b=true then te (sl i) H3 Kt else Kf H3)
  (fin:∀H' ys,Same H1 H'->H' D=some (.lst ys)->Paired (λi v=>Rl i v H') ((List.range n).filter keep) ys->Q H'):jZ J g tc te σ₀ D Q (upd H1 D (.lst [])):=by
 refine⟨λi m ys H=>m=n - i/\i<=n/\Same H1 H/\H D=some (.lst ys)/\Paired (λi v=>Rl i v H) ((List.range i).filter keep) ys,⟨n,by omega,by omega,Same.put hD,aA,.nil⟩,?_⟩;rintro i m ys H ⟨hm,hi,hs,hl,hp⟩;have hlen:ys.length<=i:=by
  have:=dh hp;rw[<- this];exact cp (iw _ _) (by simp)
 by_cases e:i=n
 ·subst e
  exact .inl ⟨S.stop H hs,fin H ys hs hl hp⟩
 ·have hin:i<n:=by omega
  refine .inr ⟨S.go i H hin hs,λys' H'=>i+1<=n/\Same H1 H'/\H' D=some (.lst ys')/\Paired (λi v=>Rl i v H') ((List.range (i+1)).filter keep) ys',λys' H' h=>⟨n - (i+1),by omega,rfl,h⟩,λx H' hy=>?_⟩;refine S.step i H x H' (λσ2 H2=>tc σ2 H2 λb H3=>if b=true then te σ2 H3 λy H4=>H4 D=some (.lst ys)/\ys.length<sizeLine/\_ else _) hin hs hy λH2 s2=>?_;have up:∀{H':Hp},Same H2 H'->Paired (λi v=>Rl i v H') ((List.range i).filter keep) ys:=λ{H'} s'=>Paired.di hp λa b r=>mono a b _ _ ((s2.trans s').x D) r;refine step i H2 _ _ hin (hs.trans s2) ⟨ys,s2 _ _ hl⟩ (λv H4 hk s4 r=>?_) λH4 hk s4=>?_
  ·have jH:H4 D=some (.lst ys):=s4 _ _ (s2 _ _ hl)
   refine⟨jH,by omega,hin,?_,aA,?_⟩
   ·exact cG.of hD (((hs.trans (s2.trans s4)).x D).trans cG.put)
   ·rw[oS,wA]
    have e1:[i].filter keep = [i]:=by simp[hk]
    rw[e1];exact PySem.Paired.snoc (Paired.di (up s4) λa b q=>mono a b _ _ cG.put q) (mono _ _ _ _ cG.put r)
  ·refine⟨hin,hs.trans (s2.trans s4),s4 _ _ (s2 _ _ hl),?_⟩
   rw[oS,wA];have e1:[i].filter keep = []:=by simp[hk]
   rw[e1,j8];exact up s4
theorem L1{α:Type}{f:α->V}:∀{l:List α} {ys:List V},Paired (λi v=>v=f i) l ys->ys=l.map f
 |_,_,.nil=>rfl
 |_,_,.cons h t=>by rw[h,L1 t];rfl
theorem ni{J:It}{g:TG}{tc:TT}{te:TE}{σ₀:St}{D:Addr}{Q:Hp->Prop}{H1:Hp}{n:Nat}{sl:Nat->St}(keep:Nat->Bool)(f:Nat->V)(S:gG J g σ₀ H1 n sl)(hD:H1 D=none)(hn:n<sizeLine)(step:∀i H (Kt:V->Hp->Prop) (Kf:Hp->Prop),i<n->Same H1 H->(∀H',keep i=true->Same H H'->Kt (f i) H')->(∀H',keep i=false->Same H H'->Kf H') ->
   tc (sl i) H λb H3=>if b=true then te (sl i) H3 Kt else Kf H3)
  (fin:∀H',Same H1 H'->H' D=some (.lst (((List.range n).filter keep).map f))->Q H'):jZ J g tc te σ₀ D Q (upd H1 D (.lst [])):=
 sv keep (λi v _=>v=f i) S hD hn (λ_ _ _ _ _ h=>h) (λi H Kt Kf hi hs _ h1 h2=>step i H Kt Kf hi hs (λH' hk s'=>h1 _ H' hk s' rfl) h2)
  λH' ys hs hl hp=>fin H' hs (by rw[hl,L1 hp])
theorem filter_true{α:Type}(l:List α):l.filter (λ_=>true)=l:=List.filter_eq_self.mpr λ_ _=>rfl
theorem fu{J:It}{g:TG}{te:TE}{σ₀:St}{D:Addr}{Q:Hp->Prop}{H1:Hp}{n:Nat}{sl:Nat->St}(f:Nat->V)(S:gG J g σ₀ H1 n sl)(hD:H1 D=none)(hn:n<sizeLine)(step:∀i H (Kt:V->Hp->Prop),i<n->Same H1 H->(∀H',Same H H'->Kt (f i) H')->te (sl i) H Kt)(fin:∀H',Same H1 H'->H' D=some (.lst ((List.range n).map f))->Q H'):jZ J g oA te σ₀ D Q (upd H1 D (.lst [])):=
 ni (λ_=>true) f S hD hn (λi H Kt Kf hi hs h1 _=>lB (A:=te (sl i) H Kt) (B:=Kf H) (step i H Kt hi hs λH' s'=>h1 H' rfl s')) λH' hs hl=>fin H' hs (by rw[hl,filter_true])
theorem su{J:It}{g:TG}{te:TE}{σ₀:St}{D:Addr}{Q:Hp->Prop}{H1:Hp}{n:Nat}{sl:Nat->St}(Rl:Nat->V->Hp->Prop)(S:gG J g σ₀ H1 n sl)(hD:H1 D=none)(hn:n<sizeLine)(mono:∀i v H H',cG D H H'->Rl i v H->Rl i v H')(step:∀i H (Kt:V->Hp->Prop),i<n->Same H1 H->(∃ys,H D=some (.lst ys))->(∀v H',Same H H'->Rl i v H'->Kt v H')->te (sl i) H Kt)(fin:∀H' ys,Same H1 H'->H' D=some (.lst ys)->Paired (λi v=>Rl i v H') (List.range n) ys->Q H'):jZ J g oA te σ₀ D Q (upd H1 D (.lst [])):=
 sv (λ_=>true) Rl S hD hn mono (λi H Kt Kf hi hs hy h1 _=>lB (A:=te (sl i) H Kt) (B:=Kf H) (step i H Kt hi hs hy λv H' s' r=>h1 v H' rfl s' r)) λH' ys hs hl hp=>fin H' ys hs hl (by rw[filter_true]at hp;exact hp)
theorem G8{J:It}{g:TG}{te:TE}{σ₀:St}{D:Addr}{Q:Hp->Prop}{H1:Hp}{n:Nat}{sl:Nat->St}(c:Nat->List V)(S:gG J g σ₀ H1 n sl)(hD:H1 D=none)(hn:n<sizeLine)(step:∀i H (Kt:V->Hp->Prop),i<n->Same H1 H->(∀a H',Same H H'->H a=none->H' a=some (.lst (c i))->Kt (.ref a) H')->te (sl i) H Kt)(fin:∀H' (as:List Addr),Same H1 H'->H' D=some (.lst (as.map V.ref))->as.length=n->as.Nodup->(∀a∈as,H1 a=none/\a≠D)->(∀(i:Nat) a,as[i]?=some a->H' a=some (.lst (c i)))->Q H'):jZ J g oA te σ₀ D Q (upd H1 D (.lst [])):=by
 refine⟨λi m ys H=>m=n - i/\i<=n/\Same H1 H/\H D=some (.lst ys)/\∃as:List Addr,ys=as.map V.ref/\as.length=i/\as.Nodup/\(∀a∈as,H1 a=none/\a≠D)/\∀(j:Nat) a,as[j]?=some a->H a=some (.lst (c j)),
  ⟨n,by omega,by omega,Same.put hD,aA,[],rfl,rfl,Fd,λ_ h=>(nomatch h),λj a h=>by simp at h⟩,?_⟩
 rintro i m ys H ⟨hm,hi,hs,hl,as,rfl,h1,h2,h3,h4⟩
 by_cases e:i=n
 ·subst e
  exact .inl ⟨S.stop H hs,fin H as hs hl h1 h2 h3 h4⟩
 ·have hin:i<n:=by omega
  refine .inr ⟨S.go i H hin hs,λys' H'=>i+1<=n/\Same H1 H'/\H' D=some (.lst ys')/\∃as:List Addr,ys'=as.map V.ref/\as.length=i+1/\as.Nodup/\(∀a∈as,H1 a=none/\a≠D)/\∀(j:Nat) a,as[j]?=some a->H' a=some (.lst (c j)),
   λys' H' h=>⟨n - (i+1),by omega,rfl,h⟩,λx H' hy=>?_⟩
  refine S.step i H x H' (λσ2 H2=>oA σ2 H2 λb H3=>if b=true then te σ2 H3 λy H4=>H4 D=some (.lst (as.map V.ref))/\(as.map V.ref).length<sizeLine/\_ else _) hin hs hy λH2 s2=>?_;dsimp only[oA];rw[if_pos rfl];refine step i H2 _ hin (hs.trans s2) λa H4 s4 ha hc=>?_;have jH:H4 D=some (.lst (as.map V.ref)):=s4 _ _ (s2 _ _ hl);have haD:a≠D:=λe=>by rw[e,s2 _ _ hl]at ha;cases ha
  have QX:a ∉ as:=λhm=>by
   obtain⟨j,hj,e⟩:=iX hm;have:=s2 _ _ (h4 j a (by rw[aq hj,e]));rw[ha]at this;cases this
  refine⟨jH,by simp;omega,hin,cG.of hD (((hs.trans (s2.trans s4)).x D).trans cG.put),aA,as++[a],by simp,by simp[h1],?_,?_,?_⟩
  ·exact rA.mpr ⟨h2,by simp,λx hx y hy=>by simp at hy;subst hy;exact λe=>QX (e▸hx)⟩
  ·intro b hb
   rcases iz.mp hb with hb|hb
   ·exact h3 b hb
   ·simp at hb
    subst hb;exact⟨(hs.trans s2).free ha,haD⟩
  ·intro j b hj
   by_cases hjl:j<as.length
   ·rw[mD hjl]at hj
    have q:=h4 j b hj;have hbD:b≠D:=(h3 b (cu hj)).2;rw[aG hbD];exact s4 _ _ (s2 _ _ q)
   ·have hj2:(as++[a])[j]?=some b:=hj
    rw[kR (by omega)]at hj2;have e0:j=as.length:=by
     by_cases z:j - as.length=0
     ·omega
     ·rw[wG (by simp;omega)]at hj2;cases hj2
    subst e0;simp at hj2;subst hj2;rw[aG haD,h1];exact hc
noncomputable def Pu(pre:List V->Hp->Prop)(post:List V->Hp->V->Hp->Prop):Sp:=λvs H Q _=>pre vs H/\∀v H',Same H H'->post vs H v H'->Q v H'
noncomputable def GD(sc qp:Scope)(N:List Str)(fr:List (Str × Nat)):Bool:=
 sc.kind==.function&&sc.names.all (λy=>y.2 != .cell&&(y.2 != .local||sc.names.lookup y.1==some .local)&&(y.2 != .free||qp.names.lookup y.1==some .cell||qp.names.lookup y.1==some .free)) &&
 fr.all λp=>N[p.2]?==some p.1&&sc.names.lookup p.1==some .free
theorem bQ{X:Cx}{scope:Scope}{fr:List (Str × Nat)}(qp:Scope)(N:List Str)(h1:X.env.scope=qp)(h2:X.N=N)(h:GD scope qp N fr=true):eZ X scope fr:=by
 unfold GD at h;rw[bw,bw]at h;obtain⟨⟨a,b⟩,c⟩:=h;rw[cn]at b c;subst h1 h2;refine⟨by simpa using a,λy hy e=>?_,λy hy e=>?_,λy hy e=>?_,λp hp=>?_⟩
 ·have:=b y hy
  rw[e]at this;simp at this
 ·have:=b y hy
  rw[e]at this;simpa using this
 ·have:=b y hy
  rw[e]at this;simpa using this
 ·have:=c p hp
  simpa using this
structure au (P:Program) (w:World) (K:W.Frag) (mg:Str->Option Value) (base:Heap) (x:Str) (ps:List Str) (k:Nat) (sp:Sp):Prop where
 ex:∃(f:Addr) (fd:FuncData),aM P w K mg base aN k f fd ps sp/\mg x=some (.ref f)/\W.keepIn K (.ref f)=true/\Binds K fd ps []
section
variable {X:Cx} {x:Str} {ps:List Str} {k k':Nat} {sp:Sp} {e:Expr} {es:List Expr} {t:TA} {p pos:Pos}
theorem aQ (c:au X.prog X.w X.K X.mg X.base x ps k sp) (hr:bj k' X.A) (hg:Gl X x) (ha:PA X (e::es) t) (hk:k<=k':=by decide) (hdb:(x==("__debug__" : Str))=false:=by decide)
  (he:starEach (e::es) X.env=(false,eval e X.env)::starEach es X.env:=by rfl) (hpl:(backTo pos (starEach es X.env)).any (·.1)=false:=by rfl):PE X (.Call (.Name x p) (e::es) [] pos) (O9 sp [] E0 t):=by
 obtain⟨f,fd,F,hm,kp,b⟩:=c.ex;exact Yd F (hr.mono hk) hg hm kp b .nil qq ha hdb he hpl
end
theorem Rt {X:Cx} (T:String):cX X (.builtin "isinstance") (λxs H Q=>∃x t b,xs = [x,.ty T]/\ft X.K H x t/\W.kitOne X.K t (.type T)=some b/\Q (.bl b) H):=by
 intro pins s σ H xs us Q I r h;obtain⟨x,t,b,rfl,ty,e,q⟩:=h;obtain⟨u,v,rfl,ru,rv⟩:=Vals.two r;cases rv;exact VG I ru ty e λtk=>⟨.bl b,H,I.tok _,rfl,q⟩
theorem Rh:bootBuiltins "bool" = some (.type "bool"):=by decide +kernel
theorem Ri:bootBuiltins "int" = some (.type "int"):=by decide +kernel
theorem r6:bootBuiltins "list" = some (.type "list"):=by decide +kernel
theorem iI:bootBuiltins "tuple" = some (.type "tuple"):=by decide +kernel
section
variable {X:Cx} {K:W.Frag}
theorem bB(h:X.K=K):mw X (MF K):=h▸VL
theorem aW(h:X.K=K):mw X (MJ K):=h▸VN
theorem qR(h:X.K=K):xO X (MK K):=h▸Z4
theorem Lz(h:X.K=K):bS X (compareOp .In) (Mz K false):=h▸X5
noncomputable def Y_(K:W.Frag):List V->Hp->VK->Prop:=λxs H Q=>∃p ys,xs = [.ref p]/\(ai K H p ys\/ax K H p ys)/\Q (.int ys.length) H
theorem d7 (h:X.K=K):cX X (.builtin "len") (Y_ K):=h▸Ru
noncomputable def Zb(K:W.Frag):List V->Hp->VK->Prop:=λxs H Q=>∃p ys,xs = [.ref p]/\(ai K H p ys\/ax K H p ys)/\∀l,H l=none->Q (.ref l) (upd H l (.lst ys))
theorem GL (h:X.K=K):cX X (.type "list") (Zb K):=h▸Rx
noncomputable def Zj(K:W.Frag):List V->Hp->VK->Prop:=λxs H Q=>∃p ys,xs = [.ref p]/\((ai K H p ys/\∀l,H l=none->Q (.ref l) (upd H l (.tup ys)))\/(ax K H p ys/\Q (.ref p) H))
theorem iJ (h:X.K=K):cX X (.type "tuple") (Zj K):=h▸RK
noncomputable def Y8(K:W.Frag)(T:String):List V->Hp->VK->Prop:=λxs H Q=>∃x t b,xs = [x,.ty T]/\ft K H x t/\W.kitOne K t (.type T)=some b/\Q (.bl b) H
theorem GK (T:String) (h:X.K=K):cX X (.builtin "isinstance") (Y8 K T):=h▸Rt T
variable {tg:Expr} {l:Expr} {tl:TE} {elts:List Expr} {k:Nat} {tpos pos p apos cpos:Pos} {a b o e:Expr} {es:List Expr} {ta:TA} {te tv to:TE} {f:Str}
theorem eB(h:X.K=K)(hl:PE X l tl):PI X tg l (Jr K tl):=h▸Yz hl
theorem kF(h:X.K=K)(hl:PE X l tl):PI X tg l (Js K tl):=h▸YC hl
theorem Mi (c1 c2:Bool) (h:X.K=K) (hg:Gl X "zip") (hm:X.mg "zip" = none) (ha:PA X [a,b] ta) (hs:starEach [a,b] X.env = [(false,eval a X.env),(false,eval b X.env)]:=by rfl) (hs2:starEach [b] X.env = [(false,eval b X.env)]:=by rfl) :
  PI X (.Tuple elts k tpos) (.Call (.Name "zip" p) [a,b] [] pos) (Jt K c1 c2 ta):=h▸YD c1 c2 hg hm ha hs hs2
theorem Bo (c:Bool) (h:X.K=K) (hg:Gl X "enumerate") (hm:X.mg "enumerate" = none) (ha:PA X [a] ta) (hs:starEach [a] X.env = [(false,eval a X.env)]:=by rfl) :
  PI X (.Tuple elts k tpos) (.Call (.Name "enumerate" p) [a] [] pos) (Jq K c ta):=h▸Yy c hg hm ha hs
theorem cy(h:X.K=K)(he:PE X e te)(hb:attributeBase e f X.env (eval e X.env)=eval e X.env):PE X (.Attribute e f pos) (Ph K te f):=h▸Yn he hb
theorem qB{value:Expr}{pos':Pos}(h:X.K=K)(ha:PE X o te)(hv:PE X value tv)(hs:swapsWith value (some (.Attribute o f pos')) pos.line X.env=pure false):PS X (.Assign [.Attribute o f pos'] value pos) (M_ K te tv f):=h▸YM ha hv hs
variable {name:Str} {T id:String} {r:V->List V->Hp->VK->Prop} {t:TA}
theorem kE (h:X.K=K) (pa:PlainAttrs T) (slot:Slot T name id) (hty:typeOf (.builtin id)=pure (.type "method_descriptor")) (hm:wN X id r) (ho:PE X o to) (ha:PA X (e::es) t)
  (h1:attributeBase o name X.env (eval o X.env)=eval o X.env:=by rfl)
  (h2:((backTo cpos (starEach (e::es) X.env)).all (λx=>!x.1)&&(backToKw cpos (keywordEach [] X.env)).all (λx=>x.1.isSome)&&decide ((e::es).length+([]:List Keyword).length+(if([]:List Keyword).isEmpty then 0 else 1)<30))=true:=by rfl)
  (h3:(apos.endLine==cpos.line)=true:=by rfl) (h4:starEach (e::es) X.env=(false,eval e X.env)::starEach es X.env:=by rfl) (h5:(backTo cpos (starEach es X.env)).any (·.1)=false:=by rfl) :
  PE X (.Call (.Attribute o name apos) (e::es) [] cpos) (O7 K T r to t):=h▸Yc pa slot hty hm ho ha h1 h2 h3 h4 h5
theorem uE{x y:Str}{i j:Nat}{p1 p2:Pos}(h:X.K=K)(hc:X.calm=true)(hN:X.N.Nodup)(hi:X.N[i]?=some x)(hj:X.N[j]?=some y)(hx:X.env.scope.names.lookup x=some .local)(hy:X.env.scope.names.lookup y=some .local):PG X (.Tuple [.Name x p1,.Name y p2] k tpos) (pW K 2 (k_ (bq i) (k_ (bq j) tK))):=
 h▸Mf hc (uF (aZ hN hi (Or.inl hx) (Or.inr hx)) (uF (aZ hN hj (Or.inl hy) (Or.inr hy)) Mg))
end
noncomputable def Its(c:Bool)(K:W.Frag)(a:Addr):It:=match c with
 |true=>kO K a
 |false=>kP K a
noncomputable def Vt(K:W.Frag)(c:Bool)(tl:TE):TI:=λσ H R=>tl σ H λx H1=>∃a,x = .ref a/\(∃xs,Sq c K H1 a xs)/\R (Its c K a) H1
noncomputable def Y9(K:W.Frag)(c:Bool):R2:=λx y H Q=>∃p xs i v,x = .ref p/\y = .int i/\Sq c K H p xs/\jr xs i=some v/\Q v H
section
variable {X:Cx} {K:W.Frag} {tg l:Expr} {tl:TE}
theorem YB(c:Bool)(h:X.K=K)(hl:PE X l tl):PI X tg l (Vt K c tl):=by
 cases c with
 |true=>exact eB h hl
 |false=>exact kF h hl
theorem VM(c:Bool)(h:X.K=K):mw X (Y9 K c):=by
 cases c with
 |true=>exact bB h
 |false=>exact aW h
theorem aaf{c:Bool}{a:Addr}{xs:List V}{ρ:St}{H1:Hp}(h:Sq c K H1 a xs):gG (Its c K a) (bq 0) (none::ρ) H1 xs.length (λi=>some (xs.getD i .non)::ρ):=by
 cases c with
 |true=>exact src_list h
 |false=>exact oz h
end
section
variable {K:W.Frag} {g:TG} {tb:TS} {D:Ends} {σ:St} {H:Hp}
theorem Ia{c:Bool}{l:Addr}{xs:List V}(Pv:Nat->St->Hp->Prop)(h0:Pv 0 σ H)(hl:∀i σ H,Pv i σ H->Sq c K H l xs)
  (hs:∀i x σ H T,xs[i]?=some x->H T=none->Pv i σ H->g (.ref T) σ (upd H T (.tup [.int i,x])) λσ2 H2=>tb {D with nx:=Pv (i+1),ct:=Pv (i+1),bk:=D.nx} σ2 H2) (hd:∀σ H,Pv xs.length σ H->D.nx σ H) :
  ∃W:Nat->Nat->St->Hp->Prop,(∃m,W 0 m σ H)/\∀i m σ H,W i m σ H ->
   ((Ite K c l).stop i H/\D.nx σ H)\/((Ite K c l).go i H/\∃N:St->Hp->Prop,(∀σ' H',N σ' H'->∃m',m'<m/\W (i+1) m' σ' H')/\∀x H',(Ite K c l).jX i H x H'->g x σ H' λσ2 H2=>tb {D with nx:=N,ct:=N,bk:=D.nx} σ2 H2):=by
 refine⟨λi m σ H=>m=xs.length - i/\i<=xs.length/\Pv i σ H,⟨xs.length,by simp,bM _,h0⟩,?_⟩;rintro i m σ H ⟨rfl,hi,p⟩;have q:=hl i σ H p
 by_cases hlt:i<xs.length
 ·refine .inr ⟨⟨xs,xs[i],q,by simp[hlt]⟩,Pv (i+1),λσ' H' p'=>⟨xs.length - (i+1),by omega,rfl,hlt,p'⟩,λx H' y=>?_⟩
  obtain⟨T,x,rfl,hT,rfl,hx⟩:=y;exact hs i x σ H T (hx xs q) hT p
 ·have e:i=xs.length:=by omega
  subst e;exact .inl ⟨⟨xs,q,rfl⟩,hd σ H p⟩
end
theorem a9{e:Expr}{es:List Expr}{env:Env}(h:∀v p,e≠.Starred v p):starEach (e::es) env=(false,eval e env)::starEach es env:=by
 cases e<;>first|rfl|exact absurd rfl (h _ _)
noncomputable def intOf:Expr->Option Int
 |.Constant (.int i) _ _=>some i
 |_=>none
noncomputable def intsOf:List Expr->Option (List Int)
 | []=>some []
 |e::r=>(intOf e).bind λi=>(intsOf r).map (i::·)
theorem Vy{e:Expr}{i:Int}(h:intOf e=some i):∃k p,e = .Constant (.int i) k p:=by
 cases e with
 |Constant c k p =>
  cases c with
  |int j=>cases h;exact⟨k,p,rfl⟩
  |_=>cases h
 |_=>cases h
theorem Bj{X:Cx}:∀{es:List Expr} (is:List Int),intsOf es=some is->PA X es (λ_ H Q=>Q (is.map V.int) H):=by
 intro es
 induction es with
 |nil =>
  intro is h;cases h;exact ah
 |cons e r ih =>
  intro is h;have h':(intOf e).bind (λi=>(intsOf r).map (i::·))=some is:=h;cases q1:intOf e with
  |none=>rw[q1]at h';cases h'
  |some i =>
   obtain⟨k,p,rfl⟩:=Vy q1;rw[q1]at h';cases q:intsOf r with
   |none=>rw[Option.bind_some,q]at h';cases h'
   |some js =>
    rw[Option.bind_some,q]at h';cases h';exact ag aD (ih js q)
theorem Mm{g:Nat->Int}(h:∀i,0<=g i/\g i<=1099511627776):∀n,0<=preSum g n/\preSum g n<=1099511627776*n
 |0=>by simp[preSum]
 |n+1=>by
  have ih:=Mm h n;have hn:=h n;simp only[preSum]
  push_cast
  omega
theorem Mp(ns:List Int):∀n,n<=ns.length->preSum (λi=>ns.getD i 0) n=(ns.take n).sum
 |0,_=>by simp[preSum]
 |n+1,h=>by
  have ih:=Mp ns n (by omega);have hn:n<ns.length:=by omega
  simp only[preSum];rw[ih];have e1:ns.getD n 0=ns[n]:=by rw[aL,aq hn];rfl
  have e2:ns.take (n+1)=ns.take n++[ns[n]]:=by rw[iZ,aq hn];rfl
  rw[e1,e2,List.sum_append];simp
noncomputable def MN(K:W.Frag):List V->Hp->VK->Prop:=λxs H Q=>∃(p:Addr) (ns:List Int),xs = [.ref p]/\ai K H p (ns.map V.int)/\ns.length<=1000/\(∀x∈ns,0<=x/\x<=1099511627776)/\Q (.int ns.sum) H
theorem RG {X:Cx} (hc:X.calm=true):cX X (.builtin "sum") (MN X.K):=by
 intro pins s σ H xs us Q I r h;obtain⟨p,ns,rfl,hq,hl,hb,q⟩:=h;obtain⟨u,rfl,ru⟩:=Vals.one r;cases ru;obtain⟨its,rv,pl,hz⟩:=I.list hq;have hlen:its.length=ns.length:=by rw[<- rv.length,ao]
 have hp:p<s.heap.objs.size:=by obtain⟨o,_,e,_⟩:=pl;exact aP e
 refine call_sum_walk (pk pl.isList ?_);have hh:X.A.in1.handled=none:=I.ok.hd hc;refine⟨s.heap.objs.size,_,_,_,_,_,λi=>ns.getD i 0,rfl,Walks.list hh s.heap.objs.size p (a_ hp) its.toArray,⟨⟨_,bf _ rfl,rfl,rfl⟩,pl.isList.at λo e=>aI _ e⟩,λb hb=>?_,λi v hv=>?_,λj hj=>?_,λh' tk t' hk=>?_⟩
 ·simp only[aY,eJ,eT]at hb
  rcases hb with rfl|rfl
  ·simp[eK]
  ·exact wX hp (by simp[eK])
 ·have hv':its[i]?=some v:=by simpa using hv
  have hi:i<ns.length:=by rw[<- hlen];exact(bp.mp hv').1
  obtain⟨w',h1,h2⟩:=rv.get (i:=i) (x:=.int ns[i]) (by simp[hi]);rw[hv']at h1;cases h1;obtain⟨t,e⟩:=h2;refine⟨t,?_⟩;show v=Value.int (ns.getD i 0) t;rw[e,aL,aq hi];rfl
 ·have gb:∀i,0<=ns.getD i 0/\ns.getD i 0<=1099511627776:=λi=>by
   rw[aL];cases e:ns[i]? with
   |none=>simp
   |some x=>exact hb x (cu e)
  have hj':j<ns.length:=by rw[<- hlen];simpa using hj
  have h1:=gb j;have h2:=Mm gb (j+1)
  constructor
  ·show InLong (ns.getD j 0)
   unfold InLong;omega
  ·unfold InLong;push_cast at h2;omega
 ·have e:preSum (λi=>ns.getD i 0) its.toArray.size=ns.sum:=by
   rw[show its.toArray.size=ns.length by simp[hlen],Mp ns _ (aH _),kT]
  rw[e];have I1:Inv X pins σ H {s with heap:=s.heap.push {cls:=.type "list_iterator", data:=.fields #[.ref p,.int 0 0]},toks:=s.toks}:=I.kept λb o e=>aI _ e;have I2:Inv X pins σ H {s with heap:=h',toks:=tk}:=by
   refine I.kept λb o e=>hk b o ?_ (aI _ e);simp only[aY,eJ,eT];exact a_ (aP e)
  exact⟨.int ns.sum,H,I2,⟨t',rfl⟩,q⟩
theorem RJ {X:Cx} {K:W.Frag} (h:X.K=K) (hc:X.calm=true):cX X (.builtin "sum") (MN K):=h▸RG hc
theorem Zk(bs:List Bool):((List.range bs.length).all λi=>(bs[i]?).getD true)=bs.all id:=by
 rw[cE,cn,cn]
 constructor
 ·intro h b hb
  obtain⟨i,hi,e⟩:=iX hb;have:=h i (by simpa using hi);rw[aq hi,e]at this;exact this
 ·intro h i hi
  have hi':i<bs.length:=by simpa using hi
  rw[aq hi'];exact h _ (gB hi')
theorem Zm(bs:List Bool):((List.range bs.length).any λi=>(bs[i]?).getD false)=bs.any id:=by
 rw[cE,gR,gR]
 constructor
 ·rintro⟨i,hi,e⟩
  have hi':i<bs.length:=by simpa using hi
  rw[aq hi']at e;exact⟨_,gB hi',e⟩
 ·rintro⟨b,hb,e⟩
  obtain⟨i,hi,e'⟩:=iX hb;exact⟨i,by simpa using hi,by rw[aq hi,e'];exact e⟩
noncomputable def Mv(K:W.Frag):List V->Hp->VK->Prop:=λxs H Q=>∃(p:Addr) (bs:List Bool),xs = [.ref p]/\ai K H p (bs.map V.bl)/\Q (.bl (bs.all id)) H
noncomputable def Mw(K:W.Frag):List V->Hp->VK->Prop:=λxs H Q=>∃(p:Addr) (bs:List Bool),xs = [.ref p]/\ai K H p (bs.map V.bl)/\Q (.bl (bs.any id)) H
theorem GF{bs:List Bool}{its:List Value}(rv:Vals (bs.map V.bl) its){i:Nat}{v:Value}(h:its[i]?=some v):∃b,bs[i]?=some b/\v = .bool b:=by
 have hi:i<its.length:=(bp.mp h).1;have hlen:its.length=bs.length:=by rw[<- rv.length,ao]
 obtain⟨w',h1,h2⟩:=rv.get (i:=i) (x:=.bl (bs[i]'(by omega))) (by simp[show i<bs.length by omega]);rw[h]at h1;cases h1;exact⟨_,aq (by omega),h2⟩
theorem Ro {X:Cx} (hc:X.calm=true):cX X (.builtin "all") (Mv X.K):=by
 intro pins s σ H xs us Q I r h;obtain⟨p,bs,rfl,hq,q⟩:=h;obtain⟨u,rfl,ru⟩:=Vals.one r;cases ru;obtain⟨its,rv,pl,hz⟩:=I.list hq;have hlen:its.length=bs.length:=by rw[<- rv.length,ao]
 have hp:p<s.heap.objs.size:=by obtain⟨o,_,e,_⟩:=pl;exact aP e
 refine call_all_walk (pk pl.isList ?_);have hh:X.A.in1.handled=none:=I.ok.hd hc;refine⟨s.heap.objs.size,_,_,_,_,_,λi=>(bs[i]?).getD true,rfl,Walks.list hh s.heap.objs.size p (a_ hp) its.toArray,⟨⟨_,bf _ rfl,rfl,rfl⟩,pl.isList.at λo e=>aI _ e⟩,λi v s' Q' E' hP hQ=>?_,λh' tk hk=>?_⟩
 ·obtain⟨b,e,rfl⟩:=GF rv (by simpa using hP)
  simp only[e,Fv]at hQ;exact gZ hQ
 ·have e:((List.range its.toArray.size).all λi=>(bs[i]?).getD true)=bs.all id:=by
   rw[bG,hlen];exact Zk bs
  rw[e];have I2:Inv X pins σ H {s with heap:=h',toks:=tk}:=by
   refine I.kept λb o e=>hk b o ?_ (aI _ e);simp only[aY,eJ,eT];exact a_ (aP e)
  exact⟨.bl (bs.all id),H,I2,rfl,q⟩
theorem Rq {X:Cx} (hc:X.calm=true):cX X (.builtin "any") (Mw X.K):=by
 intro pins s σ H xs us Q I r h;obtain⟨p,bs,rfl,hq,q⟩:=h;obtain⟨u,rfl,ru⟩:=Vals.one r;cases ru;obtain⟨its,rv,pl,hz⟩:=I.list hq;have hlen:its.length=bs.length:=by rw[<- rv.length,ao]
 have hp:p<s.heap.objs.size:=by obtain⟨o,_,e,_⟩:=pl;exact aP e
 refine call_any_walk (pk pl.isList ?_);have hh:X.A.in1.handled=none:=I.ok.hd hc;refine⟨s.heap.objs.size,_,_,_,_,_,λi=>(bs[i]?).getD false,rfl,Walks.list hh s.heap.objs.size p (a_ hp) its.toArray,⟨⟨_,bf _ rfl,rfl,rfl⟩,pl.isList.at λo e=>aI _ e⟩,λi v s' Q' E' hP hQ=>?_,λh' tk hk=>?_⟩
 ·obtain⟨b,e,rfl⟩:=GF rv (by simpa using hP)
  simp only[e,Fv]at hQ;exact gZ hQ
 ·have e:((List.range its.toArray.size).any λi=>(bs[i]?).getD false)=bs.any id:=by
   rw[bG,hlen];exact Zm bs
  rw[e];have I2:Inv X pins σ H {s with heap:=h',toks:=tk}:=by
   refine I.kept λb o e=>hk b o ?_ (aI _ e);simp only[aY,eJ,eT];exact a_ (aP e)
  exact⟨.bl (bs.any id),H,I2,rfl,q⟩
theorem Rp {X:Cx} {K:W.Frag} (h:X.K=K) (hc:X.calm=true):cX X (.builtin "all") (Mv K):=h▸Ro hc
theorem Rr {X:Cx} {K:W.Frag} (h:X.K=K) (hc:X.calm=true):cX X (.builtin "any") (Mw K):=h▸Rq hc
inductive cF (K:W.Frag) (H:Hp):Nat->V->V->Bool->Prop
 |int (n:Nat) (i j:Int):cF K H n (.int i) (.int j) (i==j)
 |bl (n:Nat) (i j:Bool):cF K H n (.bl i) (.bl j) (i==j)
 |same (n:Nat) (a:Addr):cF K H n (.ref a) (.ref a) true
 |tup (n:Nat) (a b:Addr) (xs ys:List V) (e:Nat->Bool):ax K H a xs->ax K H b ys->xs.length=ys.length->(∀(j:Nat) x y,xs[j]?=some x->ys[j]?=some y->cF K H n x y (e j))->cF K H (n+1) (.ref a) (.ref b) ((List.range xs.length).all e)
 |lst (n:Nat) (a b:Addr) (xs ys:List V) (e:Nat->Bool):ai K H a xs->ai K H b ys->xs.length=ys.length->(∀(j:Nat) x y,xs[j]?=some x->ys[j]?=some y->cF K H n x y (e j))->cF K H (n+1) (.ref a) (.ref b) ((List.range xs.length).all e)
 |lens (n:Nat) (a b:Addr) (xs ys:List V):ai K H a xs->ai K H b ys->xs.length≠ys.length->cF K H (n+1) (.ref a) (.ref b) false
section
variable {X:Cx} {pins:List (Addr × Obj)} {σ:St} {H:Hp} {s:Shared}
theorem Inv.Kn(I:Inv X pins σ H s){a:Addr}{xs ys:List V}(h:ai X.K H a xs)(h':ai X.K H a ys):∃its,Vals xs its/\Vals ys its:=by
 obtain⟨its,r,⟨o,n,e,d1,d2,d3⟩,_⟩:=I.list h;obtain⟨its',r',⟨o',n',e',f1,f2,f3⟩,_⟩:=I.list h';rw[e]at e';cases e';rw[d3]at f3;injection f3 with q1 q2
 have:its=its':=by simpa using q1
 subst this;exact⟨its,r,r'⟩
theorem cF.Cr(I:Inv X pins σ H s){n:Nat}{x y:V}{b:Bool}(h:cF X.K H n x y b):∀{v:Value},RelV x v->RelV y v->b=true:=by
 induction h with
 |int n i j =>
  rintro v ⟨t,rfl⟩ ⟨u,e⟩;cases e;simp
 |bl n i j =>
  intro v h1 h2;cases h1;cases h2;simp
 |same n a=>intros;rfl
 |tup n a b xs ys e h1 h2 hl hi ih =>
  intro v r1 r2;cases r1;cases r2;have:=I.Dw h1 h2;subst this;obtain⟨its,r,_,_⟩:=I.tuple h1;rw[cn];intro j hj;have hj':j<xs.length:=by simpa using hj
  obtain⟨w',_,q⟩:=r.get (aq hj');exact ih j _ _ (aq hj') (aq hj') q q
 |lst n a b xs ys e h1 h2 hl hi ih =>
  intro v r1 r2;cases r1;cases r2;obtain⟨its,r,r'⟩:=I.Kn h1 h2;rw[cn];intro j hj;have hj':j<xs.length:=by simpa using hj
  obtain⟨w',z1,q⟩:=r.get (aq hj');obtain⟨w'',z2,q'⟩:=r'.get (aq (show j<ys.length by omega));rw[z1]at z2;cases z2;exact ih j _ _ (aq hj') (aq _) q q'
 |lens n a b xs ys h1 h2 hl =>
  intro v r1 r2;cases r1;cases r2;obtain⟨its,r,r'⟩:=I.Kn h1 h2;exact absurd (r.length.trans r'.length.symm) hl
theorem cF.at(I:Inv X pins σ H s){n:Nat}{x y:V}{b:Bool}(h:cF X.K H n x y b):∀{A:Around} {v u:Value},A.units+n<cLine->RelV x v->RelV y u->SeqAt.EqAt A s v u b:=by
 induction h with
 |int n i j =>
  rintro A v u hu ⟨t,rfl⟩ ⟨t',rfl⟩;exact xv i t j t'
 |bl n i j =>
  intro A v u hu h1 h2;cases h1;cases h2;exact xu i j
 |same n a =>
  intro A v u hu h1 h2;cases h1;cases h2;exact rP _
 |tup n a b xs ys e h1 h2 hl hi ih =>
  intro A v u hu r1 r2
  by_cases hab:v=u
  ·have:=cF.Cr I (.tup n a b xs ys e h1 h2 hl hi) r1 (hab▸r2)
   rw[this,hab];exact rP _
  ·cases r1
   cases r2;obtain⟨its,r,t1,_⟩:=I.tuple h1;obtain⟨its2,r',t2,_⟩:=I.tuple h2;refine xx (λz=>hab (by rw[z])) ?_;have hh:=FK (A:=A) (s:=s) (e:=e) t1 t2 (by omega) λj g1 g2=>?_
   ·have el:its.toArray.size=its2.toArray.size:=by simp;rw[<- r.length,<- r'.length];exact hl
    have e2:((List.range (min its.toArray.size its2.toArray.size)).all e&&its.toArray.size==its2.toArray.size)=(List.range xs.length).all e:=by
     rw[<- el,Fs,r0,Eg]
     congr 2
     simp[<- r.length]
    rw[e2]at hh;exact hh
   ·have j1:j<xs.length:=by rw[r.length];simpa using g1
    have j2:j<ys.length:=by omega
    obtain⟨w',z1,q⟩:=r.get (aq j1);obtain⟨w'',z2,q'⟩:=r'.get (aq j2);have e1:its.toArray[j]=w':=by have:=(bp.mp z1).2;simpa using this
    have e2:its2.toArray[j]=w'':=by have:=(bp.mp z2).2;simpa using this
    rw[e1,e2];exact ih j _ _ (aq j1) (aq j2) (by show A.units+1+n<cLine;omega) q q'
 |lst n a b xs ys e h1 h2 hl hi ih =>
  intro A v u hu r1 r2
  by_cases hab:v=u
  ·have:=cF.Cr I (.lst n a b xs ys e h1 h2 hl hi) r1 (hab▸r2)
   rw[this,hab];exact rP _
  ·cases r1
   cases r2;obtain⟨its,r,t1,_⟩:=I.list h1;obtain⟨its2,r',t2,_⟩:=I.list h2;refine xx (λz=>hab (by rw[z])) ?_;have el:its.toArray.size=its2.toArray.size:=by simp;rw[<- r.length,<- r'.length];exact hl
   have hh:=SeqAt.RcAt.lists (A:=A) (s:=s) (e:=e) t1.isList t2.isList el (by omega) λj g1 g2=>?_
   ·have e2:(List.range its.toArray.size).all e=(List.range xs.length).all e:=by
     congr 2
     simp[<- r.length]
    rw[e2]at hh;exact hh
   ·have j1:j<xs.length:=by rw[r.length];simpa using g1
    have j2:j<ys.length:=by omega
    obtain⟨w',z1,q⟩:=r.get (aq j1);obtain⟨w'',z2,q'⟩:=r'.get (aq j2);have e1:its.toArray[j]=w':=by have:=(bp.mp z1).2;simpa using this
    have e2:its2.toArray[j]=w'':=by have:=(bp.mp z2).2;simpa using this
    rw[e1,e2];exact ih j _ _ (aq j1) (aq j2) (by show A.units+1+n<cLine;omega) q q'
 |lens n a b xs ys h1 h2 hl =>
  intro A v u hu r1 r2
  by_cases hab:v=u
  ·have:=cF.Cr I (.lens n a b xs ys h1 h2 hl) r1 (hab▸r2)
   cases this
  ·cases r1
   cases r2;obtain⟨its,r,t1,_⟩:=I.list h1;obtain⟨its2,r',t2,_⟩:=I.list h2;refine xx (λz=>hab (by rw[z])) (SeqAt.RcAt.lists_lengths t1.isList t2.isList ?_ (by omega));have:its.length≠its2.length:=by rw[<- r.length,<- r'.length];exact hl
   simpa using this
end
noncomputable def wx(K:W.Frag)(H:Hp)(n:Nat)(xs ys:List V)(e:Nat->Bool):Prop:=xs.length=ys.length/\∀(j:Nat) x y,xs[j]?=some x->ys[j]?=some y->cF K H n x y (e j)
noncomputable def Mx(K:W.Frag)(c ne:Bool)(n:Nat):R2:=λx y H Q=>∃a b xs ys e,x = .ref a/\y = .ref b/\Sq c K H a xs/\Sq c K H b ys/\wx K H n xs ys e/\Q (.bl (ne != (List.range xs.length).all e)) H
theorem X3{X:Cx}{K:W.Frag}(c:Bool)(n:Nat)(h:X.K=K)(hu:X.A.units+1+n<cLine):bS X (compareOp .Eq) (Mx K c false n):=by
 subst h;intro pins s σ H x y v u Q I rx ry h;obtain⟨a,b,xs,ys,e,rfl,rfl,ha,hb,⟨hl,hi⟩,q⟩:=h;cases rx;cases ry;cases c with
 |true =>
  obtain⟨its,r,t1,_⟩:=I.list ha;obtain⟨its2,r',t2,_⟩:=I.list hb;have el:its.toArray.size=its2.toArray.size:=by simp;rw[<- r.length,<- r'.length];exact hl
  have hh:=SeqAt.RcAt.lists (A:=X.A) (s:=s) (e:=e) t1.isList t2.isList el (by omega) λj g1 g2=>?_
  ·have e2:(List.range its.toArray.size).all e=(List.range xs.length).all e:=by
    congr 2
    simp[<- r.length]
   rw[e2]at hh;exact hh _ _ _ _ ⟨.bl ((List.range xs.length).all e),H,I,rfl,by simpa using q⟩
  ·have j1:j<xs.length:=by rw[r.length];simpa using g1
   have j2:j<ys.length:=by omega
   obtain⟨w',z1,q⟩:=r.get (aq j1);obtain⟨w'',z2,q'⟩:=r'.get (aq j2);have e1:its.toArray[j]=w':=by have:=(bp.mp z1).2;simpa using this
   have e2:its2.toArray[j]=w'':=by have:=(bp.mp z2).2;simpa using this
   rw[e1,e2];exact cF.at I (hi j _ _ (aq j1) (aq j2)) (by show X.A.units+1+n<cLine;omega) q q'
 |false =>
  obtain⟨its,r,t1,_⟩:=I.tuple ha;obtain⟨its2,r',t2,_⟩:=I.tuple hb;have el:its.toArray.size=its2.toArray.size:=by simp;rw[<- r.length,<- r'.length];exact hl
  have hh:=FK (A:=X.A) (s:=s) (e:=e) t1 t2 (by omega) λj g1 g2=>?_
  ·have e2:((List.range (min its.toArray.size its2.toArray.size)).all e&&its.toArray.size==its2.toArray.size)=(List.range xs.length).all e:=by
    rw[<- el,Fs,r0,Eg]
    congr 2
    simp[<- r.length]
   rw[e2]at hh;exact hh _ _ _ _ ⟨.bl ((List.range xs.length).all e),H,I,rfl,by simpa using q⟩
  ·have j1:j<xs.length:=by rw[r.length];simpa using g1
   have j2:j<ys.length:=by omega
   obtain⟨w',z1,q⟩:=r.get (aq j1);obtain⟨w'',z2,q'⟩:=r'.get (aq j2);have e1:its.toArray[j]=w':=by have:=(bp.mp z1).2;simpa using this
   have e2:its2.toArray[j]=w'':=by have:=(bp.mp z2).2;simpa using this
   rw[e1,e2];exact cF.at I (hi j _ _ (aq j1) (aq j2)) (by show X.A.units+1+n<cLine;omega) q q'
theorem Bh{X:Cx}{K:W.Frag}(c:Bool)(n:Nat)(h:X.K=K)(hu:X.A.units+1+n<cLine):bS X (compareOp .NotEq) (Mx K c true n):=by
 subst h;intro pins s σ H x y v u Q I rx ry h;obtain⟨a,b,xs,ys,e,rfl,rfl,ha,hb,⟨hl,hi⟩,q⟩:=h;cases rx;cases ry;cases c with
 |true =>
  obtain⟨its,r,t1,_⟩:=I.list ha;obtain⟨its2,r',t2,_⟩:=I.list hb;have el:its.toArray.size=its2.toArray.size:=by simp;rw[<- r.length,<- r'.length];exact hl
  have hh:=SeqAt.RcNeAt.lists (A:=X.A) (s:=s) (e:=e) t1.isList t2.isList el (by omega) λj g1 g2=>?_
  ·have e2:(List.range its.toArray.size).all e=(List.range xs.length).all e:=by
    congr 2
    simp[<- r.length]
   rw[e2]at hh;exact hh _ _ _ _ ⟨.bl (!(List.range xs.length).all e),H,I,rfl,by simpa using q⟩
  ·have j1:j<xs.length:=by rw[r.length];simpa using g1
   have j2:j<ys.length:=by omega
   obtain⟨w',z1,q⟩:=r.get (aq j1);obtain⟨w'',z2,q'⟩:=r'.get (aq j2);have e1:its.toArray[j]=w':=by have:=(bp.mp z1).2;simpa using this
   have e2:its2.toArray[j]=w'':=by have:=(bp.mp z2).2;simpa using this
   rw[e1,e2];exact cF.at I (hi j _ _ (aq j1) (aq j2)) (by show X.A.units+1+n<cLine;omega) q q'
 |false =>
  obtain⟨its,r,t1,_⟩:=I.tuple ha;obtain⟨its2,r',t2,_⟩:=I.tuple hb;have el:its.toArray.size=its2.toArray.size:=by simp;rw[<- r.length,<- r'.length];exact hl
  have hh:=SeqAt.RcNeAt.tuples (A:=X.A) (s:=s) (e:=e) t1 t2 (by omega) λj g1 g2=>?_
  ·have e2:((List.range (min its.toArray.size its2.toArray.size)).all e&&its.toArray.size==its2.toArray.size)=(List.range xs.length).all e:=by
    rw[<- el,Fs,r0,Eg]
    congr 2
    simp[<- r.length]
   rw[e2]at hh;exact hh _ _ _ _ ⟨.bl (!(List.range xs.length).all e),H,I,rfl,by simpa using q⟩
  ·have j1:j<xs.length:=by rw[r.length];simpa using g1
   have j2:j<ys.length:=by omega
   obtain⟨w',z1,q⟩:=r.get (aq j1);obtain⟨w'',z2,q'⟩:=r'.get (aq j2);have e1:its.toArray[j]=w':=by have:=(bp.mp z1).2;simpa using this
   have e2:its2.toArray[j]=w'':=by have:=(bp.mp z2).2;simpa using this
   rw[e1,e2];exact cF.at I (hi j _ _ (aq j1) (aq j2)) (by show X.A.units+1+n<cLine;omega) q q'
section
variable {prog:Program} {w:World} {A:Around} {E:Value->Shared->Prop}
variable {s:Shared}
end
end L2
namespace Ev
noncomputable def Sub(x y:Nat):Prop:=x&&& y=x
instance (x y:Nat):Decidable (Sub x y):=inferInstanceAs (Decidable (_=_))
structure Qn (M:List Nat):Prop where
 nd:M.Nodup
 len:M.length<=24
 meet:∀x∈M,∀y∈M,x&&& y∈M
 top:∃t∈M,∀x∈M,Sub x t
theorem getD_mem{M:List Nat}{i:Nat}(h:i<M.length):M.getD i 0∈M:=by
 rw[aL,aq h];exact gB h
theorem zB{M:List Nat}{x:Nat}(h:x∈M):∃i,i<M.length/\M.getD i 0=x:=by
 obtain⟨i,hi,e⟩:=iX h;exact⟨i,hi,by rw[aL,aq hi];exact e⟩
theorem getD_inj{M:List Nat}(nd:M.Nodup){i j:Nat}(hi:i<M.length)(hj:j<M.length)(e:M.getD i 0=M.getD j 0):i=j:=by
 rw[aL,aL,aq hi,aq hj]at e;exact(Ez nd).mp e
structure oJ (n:Nat) (ps:List (Nat × Nat)) (R:Nat->Nat->Bool):Prop where
 refl:∀a,a<n->R a a=true
 has:∀p∈ps,R p.1 p.2=true
 trans:∀a b c,a<n->b<n->c<n->R a b=true->R b c=true->R a c=true
 least:∀T:Nat->Nat->Bool,(∀a,a<n->T a a=true)->(∀p∈ps,T p.1 p.2=true)->(∀a b c,a<n->b<n->c<n->T a b=true->T b c=true->T a c=true) ->
  ∀a b,a<n->b<n->R a b=true->T a b=true
structure jq (n:Nat) (ps:List (Nat × Nat)) (m:Nat) (R:Nat->Nat->Bool):Prop where
 refl:∀a,a<n->R a a=true
 has:∀p∈ps,R p.1 p.2=true
 tr:∀k,k<m->∀a b,a<n->b<n->R a k=true->R k b=true->R a b=true
 least:∀T:Nat->Nat->Bool,(∀a,a<n->T a a=true)->(∀p∈ps,T p.1 p.2=true)->(∀a b c,a<n->b<n->c<n->T a b=true->T b c=true->T a c=true) ->
  ∀a b,a<n->b<n->R a b=true->T a b=true
noncomputable def jW(R:Nat->Nat->Bool)(m:Nat):Nat->Nat->Bool:=λa b=>R a b||(R a m&&R m b)
theorem vV{R:Nat->Nat->Bool}{m a b:Nat}:jW R m a b=true ↔ R a b=true\/(R a m=true/\R m b=true):=by simp[jW]
theorem jq.step{n m:Nat}{ps:List (Nat × Nat)}{R:Nat->Nat->Bool}(W:jq n ps m R)(hm:m<n):jq n ps (m+1) (jW R m) where
 refl:=λa ha=>vV.mpr (.inl (W.refl a ha))
 has:=λp hp=>vV.mpr (.inl (W.has p hp))
 tr:=λk hk a b ha hb h1 h2=>by
  rw[vV]at *
  by_cases e:k=m
  ·subst e
   have h1':R a k=true:=h1.elim id (·.1);have h2':R k b=true:=h2.elim id (·.2);exact .inr ⟨h1',h2'⟩
  ·have hk':k<m:=by omega
   rcases h1 with h1|⟨h1,h1'⟩
   ·rcases h2 with h2|⟨h2,h2'⟩
    ·exact .inl (W.tr k hk' a b ha hb h1 h2)
    ·exact .inr ⟨W.tr k hk' a m ha hm h1 h2,h2'⟩
   ·rcases h2 with h2|⟨h2,h2'⟩
    ·exact .inr ⟨h1,W.tr k hk' m b hm hb h1' h2⟩
    ·exact .inr ⟨h1,h2'⟩
 least:=λT t1 t2 t3 a b ha hb h=>by
  rcases vV.mp h with h|⟨h,h'⟩
  ·exact W.least T t1 t2 t3 a b ha hb h
  ·exact t3 a m b ha hm hb (W.least T t1 t2 t3 a m ha hm h) (W.least T t1 t2 t3 m b hm hb h')
theorem jq.done{n:Nat}{ps:List (Nat × Nat)}{R:Nat->Nat->Bool}(W:jq n ps n R):oJ n ps R:=
 ⟨W.refl,W.has,λa b c ha hb hc h1 h2=>W.tr b hb a c ha hc h1 h2,W.least⟩
noncomputable def base(ps:List (Nat × Nat)):Nat->Nat->Bool:=λa b=>a==b||ps.any λp=>p.1==a&&p.2==b
theorem mU{ps:List (Nat × Nat)}{a b:Nat}:base ps a b=true ↔ a=b\/(a,b)∈ps:=by
 simp only[base,gg,gH,gR,bw]
 constructor
 ·rintro(h|⟨⟨x,y⟩,hp,rfl,rfl⟩)
  ·exact .inl h
  ·exact .inr hp
 ·rintro(h|h)
  ·exact .inl h
  ·exact .inr ⟨(a,b),h,rfl,rfl⟩
theorem jq.start{n:Nat}{ps:List (Nat × Nat)}(hp:∀p∈ps,p.1<n/\p.2<n):jq n ps 0 (base ps) where
 refl:=λa _=>mU.mpr (.inl rfl)
 has:=λp hp=>mU.mpr (.inr hp)
 tr:=λk hk=>by omega
 least:=λT t1 t2 _ a b ha _ h=>by
  rcases mU.mp h with rfl|h
  ·exact t1 a ha
  ·exact t2 _ h
instance (M:List Nat):Decidable (Qn M):=
 decidable_of_iff (M.Nodup/\M.length<=24/\(∀x∈M,∀y∈M,x&&& y∈M)/\∃t∈M,∀x∈M,Sub x t)
  ⟨λ⟨a,b,c,d⟩=>⟨a,b,c,d⟩,λ⟨a,b,c,d⟩=>⟨a,b,c,d⟩⟩
end Ev
namespace My
open PySem PySem.Spec PyProof.Rows L2
noncomputable def top(i:Nat):Stmt:=PySem.Challenge.pw_evenclimb_k64_whole_made_orders.main.body.getD i (.Pass ⟨0,0,0,0⟩)
structure Txt (mg:Str->Option Value):Prop where
 len:mg "len" = none
 range:mg "range" = none
 zip:mg "zip" = none
 enumerate:mg "enumerate" = none
 tuple:mg "tuple" = none
 list:mg "list" = none
 int:mg "int" = none
 bool:mg "bool" = none
 str:mg "str" = none
 isinstance:mg "isinstance" = none
 sum:mg "sum" = none
 any:mg "any" = none
 all:mg "all" = none
 sorted:mg "sorted" = none
 min:mg "min" = none
 max:mg "max" = none
 most:∃t,mg "MOST_THINGS" = some (.int 24 t)
section
variable {P:Program} {w:World} {K:W.Frag} {mg:Str->Option Value} {base:Heap} {f:Addr} {fd:FuncData}
abbrev BX:Stmt:=top 10
theorem Nz:aU ["value"] ["value"] (aB BX):=⟨rfl,rfl,rfl,by decide +kernel,rfl,by decide +kernel,by decide +kernel⟩
noncomputable def lQ:Sp:=Pu (λvs _=>∃i,vs = [.int i]) λ_ _ v _=>v = .bl true
theorem Lh (F:aR K "is_whole" "is_whole" BX f fd) (T:Txt mg):aM P w K mg base aN 1 f fd ["value"] lQ:=by
 refine F.ok Nz (λvs H Q E h=>?_) (λcdv A outer s H vs Q E hr h=>?_)
 ·obtain⟨⟨i,rfl⟩,_⟩:=h
  rfl
 ·obtain⟨⟨i,rfl⟩,k⟩:=h
  have nd:=Nz.nd;refine⟨_,(az (aX (qu (cL (GK (K:=K) "int" rfl) rfl T.isinstance boot_isinstance (ag (pv 0) (ag (Ma (v:=.ty "int") rfl T.int Ri rfl) ah))) (ou (Mb (cL (GK (K:=K) "bool" rfl) rfl T.isinstance boot_isinstance (ag (pv 0) (ag (Ma (v:=.ty "bool") rfl T.bool Rh rfl) ah)))))))),?_⟩;refine⟨_,rfl,_,_,_,rfl,.int i,rfl,true,rfl,lB ?_⟩;exact⟨_,rfl,_,_,_,rfl,.int i,rfl,false,rfl,k _ _ (Same.refl _) rfl⟩
abbrev BW:Stmt:=top 11
theorem Ny:aU ["count","number"] ["count","number"] (aB BW):=⟨rfl,rfl,rfl,by decide +kernel,rfl,by decide +kernel,by decide +kernel⟩
noncomputable def vt:Sp:=Pu (λvs _=>∃n i,vs = [.int n,.int i]) λvs _ v _=>∀n i,vs = [.int n,.int i]->v = .bl (decide (0<=i/\i<n))
theorem Le (F:aR K "is_thing" "is_thing" BW f fd) (T:Txt mg) (eN:au P w K mg base "is_whole" ["value"] 1 lQ):aM P w K mg base aN 2 f fd ["count","number"] vt:=by
 refine F.ok Ny (λvs H Q E h=>?_) (λcdv A outer s H vs Q E hr h=>?_)
 ·obtain⟨⟨n,i,rfl⟩,_⟩:=h
  rfl
 ·obtain⟨⟨n,i,rfl⟩,k⟩:=h
  have nd:=Ny.nd;refine⟨_,(az (aX (qu (aQ eN hr rfl (ag (pv 1) ah)) (ou (Yi jO LC aD (pv 1) (pv 0)))))),?_⟩;refine⟨_,rfl,⟨i,rfl⟩,λv H1 s1 hv=>?_⟩;subst hv;refine⟨true,rfl,lB ?_⟩;refine⟨_,rfl,_,_,rfl,rfl,_,rfl,bO (λh1=>?_) (λh1=>?_)⟩
  ·refine⟨_,rfl,_,_,rfl,rfl,k _ _ s1 ?_⟩
   intro n' i' e;cases e;rw[show decide (0<=i/\i<n)=decide (i<n)from by
    rw[cw]at h1;exact Hg.mpr ⟨λh=>h.2,λh=>⟨h1,h⟩⟩]
  ·refine k _ _ s1 ?_
   intro n' i' e;cases e;rw[dr (λh=>h1 (cC h.1))]
abbrev Cp:Stmt:=top 12
theorem N7:aU ["count","number"] ["count","number"] (aB Cp):=⟨rfl,rfl,rfl,by decide +kernel,rfl,by decide +kernel,by decide +kernel⟩
noncomputable def lR:Sp:=Pu (λvs _=>∃n i:Int,vs = [.int n,.int i]/\0<=i/\i<n) λ_ _ v _=>v = .non
theorem Lq (F:aR K "need_thing" "need_thing" Cp f fd) (T:Txt mg) (pG:au P w K mg base "is_thing" ["count","number"] 2 vt):aM P w K mg base aN 3 f fd ["count","number"] lR:=by
 refine F.ok N7 (λvs H Q E h=>?_) (λcdv A outer s H vs Q E hr h=>?_)
 ·obtain⟨⟨n,i,rfl,_⟩,_⟩:=h
  rfl
 ·obtain⟨⟨n,i,rfl,h0,h1⟩,k⟩:=h
  have nd:=N7.nd;refine⟨_,(az (cM (iS (fJ (aQ pG hr rfl (ag (pv 0) (ag (pv 1) ah))))) (az lL) cU)),?_⟩;refine⟨_,rfl,_,rfl,⟨n,i,rfl⟩,λv H1 s1 hv=>?_⟩;rw[hv n i rfl,cC (show 0<=i/\i<n from⟨h0,h1⟩)];exact⟨true,rfl,cI (k _ _ s1 rfl)⟩
abbrev Ci:Stmt:=top 13
theorem N3:aU ["count"] ["count"] (aB Ci):=⟨rfl,rfl,rfl,by decide +kernel,rfl,by decide +kernel,by decide +kernel⟩
noncomputable def vA:Sp:=Pu (λvs _=>∃n:Int,vs = [.int n]/\1<=n/\n<=24) λ_ _ v _=>v = .non
theorem Li (F:aR K "need_count" "need_count" Ci f fd) (T:Txt mg) (eN:au P w K mg base "is_whole" ["value"] 1 lQ):aM P w K mg base aN 2 f fd ["count"] vA:=by
 refine F.ok N3 (λvs H Q E h=>?_) (λcdv A outer s H vs Q E hr h=>?_)
 ·obtain⟨⟨n,rfl,_⟩,_⟩:=h
  rfl
 ·obtain⟨⟨n,rfl,h0,h1⟩,k⟩:=h
  have nd:=N3.nd;obtain⟨t24,yA⟩:=T.most;refine⟨_,(az (cM (PW.pt (qH (iS (fJ (aQ eN hr rfl (ag (pv 0) ah)))) (qI (iS (Bs jO jO aD (pv 0) (ot (v:=.int 24) rfl yA ⟨_,rfl⟩)))))) (az lL) cU)),?_⟩;refine⟨_,rfl,⟨n,rfl⟩,λv H1 s1 hv=>?_⟩;subst hv;refine⟨true,rfl,cI ?_⟩;refine⟨_,rfl,_,_,rfl,rfl,_,rfl,?_⟩;rw[if_pos (cC h0)];refine⟨_,_,rfl,rfl,_,rfl,?_⟩;rw[cC h1];exact cI (k _ _ s1 rfl)
end
noncomputable def eU(H:Hp)(p:Nat × Nat)(v:V):Prop:=∃t,v = .ref t/\H t=some (.tup [.int p.1,.int p.2])
noncomputable def mI(K:W.Frag)(H:Hp)(a:Addr)(ps:List (Nat × Nat)):Prop:=∃vs,ai K H a vs/\Paired (eU H) ps vs
noncomputable def TT(H:Hp)(v:V)(n:Nat)(g:Nat->Nat->V):Prop:=∃a vs,v = .ref a/\H a=some (.tup vs)/\Paired (λi u=>∃b,u = .ref b/\H b=some (.tup ((List.range n).map (g i)))) (List.range n) vs
theorem eU.same{H H':Hp}(s:Same H H'){p:Nat × Nat}{v:V}(h:eU H p v):eU H' p v:=let⟨t,e,q⟩:=h;⟨t,e,s _ _ q⟩
theorem kD.same{H H':Hp}(s:Same H H'){ps:List (Nat × Nat)}{vs:List V}(h:Paired (eU H) ps vs):Paired (eU H') ps vs:=Paired.di h λ_ _ q=>q.same s
theorem mI.same{K:W.Frag}{H H':Hp}{a:Addr}{ps:List (Nat × Nat)}(s:Same H H')(h:mI K H a ps):mI K H' a ps:=let⟨vs,e,q⟩:=h;⟨vs,s.seq e,kD.same s q⟩
theorem TT.same{H H':Hp}(s:Same H H'){v:V}{n:Nat}{g:Nat->Nat->V}(h:TT H v n g):TT H' v n g:=
 let⟨a,vs,e,q,r⟩:=h;⟨a,vs,e,s _ _ q,Paired.di r λ_ _ ⟨b,e,q⟩=>⟨b,e,s _ _ q⟩⟩
theorem kC{α β:Type}{F:α->β->Prop}:∀{l:List α} {m:List β} {i:Nat} {y:β},Paired F l m->m[i]?=some y->∃x,l[i]?=some x/\F x y
 |_,_,_,_,.nil,h=>by simp at h
 |_,_,0,_,.cons r _,h=>by simp at h;subst h;exact⟨_,rfl,r⟩
 |_,_,i+1,y,.cons _ t,h=>by
  obtain⟨x,h1,h2⟩:=kC (i:=i) (y:=y) t (by simpa using h);exact⟨x,by simpa using h1,h2⟩
theorem oo{α β:Type}{F:α->β->Prop}:∀{l:List α} {m:List β} {i:Nat} {x:α},Paired F l m->l[i]?=some x->∃y,m[i]?=some y/\F x y
 |_,_,_,_,.nil,h=>by simp at h
 |_,_,0,_,.cons r _,h=>by simp at h;subst h;exact⟨_,rfl,r⟩
 |_,_,i+1,y,.cons _ t,h=>by
  obtain⟨x,h1,h2⟩:=oo (i:=i) (x:=y) t (by simpa using h);exact⟨x,by simpa using h1,h2⟩
theorem TT.row{H:Hp}{v:V}{n:Nat}{g:Nat->Nat->V}(h:TT H v n g){i:Nat}(hi:i<n):∃a vs b,v = .ref a/\H a=some (.tup vs)/\vs.length=n/\vs[i]?=some (.ref b)/\H b=some (.tup ((List.range n).map (g i))):=by
 obtain⟨a,vs,e,q,r⟩:=h;obtain⟨y,h1,b,rfl,h2⟩:=oo (i:=i) (x:=i) r (by simp[hi]);exact⟨a,vs,b,e,q,by simpa using(dh r).symm,h1,h2⟩
theorem pA{n:Nat}{g:Nat->V}{j:Nat}(hj:j<n):jr ((List.range n).map g) (j:Int)=some (g j):=aS (by simp[hj])
theorem cQ{n:Nat}(h:n<=24):n<sizeLine:=oW h (by decide)
theorem gO{n:Nat}(h:n<=100000):n<sizeLine:=oW h (by decide)
theorem bI{n:Nat}(h:n<=100000):-(2 ^ 62)<=(n:Int)/\(n:Int)<2 ^ 62:=by omega
theorem Hb{t i:Nat}:decide (V.int (t:Int)=V.int (0+(i:Int)))=decide (t=i):=by
 apply Hg.mpr
 constructor
 ·intro h;injection h with h;omega
 ·intro h;subst h;simp
section
variable {P:Program} {w:World} {K:W.Frag} {mg:Str->Option Value} {base:Heap} {f:Addr} {fd:FuncData}
abbrev Cm:Stmt:=top 14
theorem N6:aU ["count","pairs","pair"] ["count","pairs"] (aB Cm):=⟨rfl,rfl,rfl,by decide +kernel,rfl,by decide +kernel,by decide +kernel⟩
noncomputable def vD(K:W.Frag):Sp:=Pu (λvs H=>∃(n a:Nat) (ps:List (Nat × Nat)),vs = [.int n,.ref a]/\mI K H a ps/\∀p∈ps,p.1<n/\p.2<n) λ_ _ v _=>v = .non
theorem Ln (F:aR K "need_pairs" "need_pairs" Cm f fd) (T:Txt mg) (dP:au P w K mg base "need_thing" ["count","number"] 3 lR):aM P w K mg base aN 4 f fd ["count","pairs"] (vD K):=by
 refine F.ok N6 (λvs H Q E h=>?_) (λcdv A outer s H vs Q E hr h=>?_)
 ·obtain⟨⟨n,a,ps,rfl,_⟩,_⟩:=h
  rfl
 ·obtain⟨⟨n,a,ps,rfl,⟨vs,hl,hp⟩,hb⟩,k⟩:=h
  have nd:=N6.nd;refine⟨_,(az (cD bT rfl (eB (K:=K) rfl (pv 1)) (aZ (i:=2) nd rfl (Or.inl rfl))
   (ay (dJ (aQ dP hr rfl (ag (pv 0) (ag (aF (aW (K:=K) rfl) (pv 2) aD (λ_ _=>rfl)) ah))))
   (az (dJ (aQ dP hr rfl (ag (pv 0) (ag (aF (aW (K:=K) rfl) (pv 2) aD (λ_ _=>rfl)) ah)))))))),?_⟩
  refine⟨_,rfl,a,rfl,⟨_,hl⟩,jE (K:=K) (a:=a) (xs:=vs) (λi σ H2=>∃v,σ = [some (.int n),some (.ref a),v]/\Same H H2) ⟨none,rfl,Same.refl _⟩ (λi σ H2 _ ⟨_,_,s2⟩=>s2.seq hl) ?_ ?_⟩
  ·rintro i y σ H2 hi ⟨v,rfl,s2⟩
   obtain⟨p,hp1,t,rfl,ht⟩:=kC hp hi;obtain⟨b1,b2⟩:=hb p (cu hp1);refine⟨_,rfl,_,rfl,t,_,0,_,rfl,rfl,.inl (.inl (s2 _ _ ht)),rfl,⟨n,_,rfl,by omega,by omega⟩,λv3 H3 s3 _=>?_⟩;refine⟨_,rfl,_,rfl,t,_,1,_,rfl,rfl,.inl (.inl ((s2.trans s3) _ _ ht)),rfl,⟨n,_,rfl,by omega,by omega⟩,λv4 H4 s4 _=>?_⟩;exact⟨_,rfl,(s2.trans s3).trans s4⟩
  ·rintro σ H2 ⟨v,rfl,s2⟩
   exact k _ _ s2 rfl
abbrev u5:Stmt:=top 15
theorem N9:aU ["count","thing"] ["count","thing"] (aB u5):=⟨rfl,rfl,rfl,by decide +kernel,rfl,by decide +kernel,by decide +kernel⟩
noncomputable def bz(n:Nat)(p:Nat->Bool):List V:=(List.range n).map λb=>V.bl (p b)
noncomputable def vF:Sp:=Pu (λvs H=>∃n t:Nat,vs = [.int n,.int t]/\n<=24) λvs H v H'=>∀n t:Nat,vs = [.int n,.int t]->∃a,v = .ref a/\H a=none/\H' a=some (.lst (bz n λb=>decide (t=b)))
theorem Ls (F:aR K "own_row" "own_row" u5 f fd) (T:Txt mg):aM P w K mg base aN 1 f fd ["count","thing"] vF:=by
 refine F.ok N9 (λvs H Q E h=>?_) (λcdv A outer s H vs Q E hr h=>?_)
 ·obtain⟨⟨n,t,rfl,_⟩,_⟩:=h
  rfl
 ·obtain⟨⟨n,t,rfl,hn⟩,k⟩:=h
  have nd:=N9.nd;refine⟨_,(az (aX (dc (own:=["other"]) (fr:=[("thing", 1)]) rfl (bQ (aB u5) ["count","thing"] rfl rfl (by decide +kernel)) (dI rfl T.range (ag (pv 0) ah)) (λ_ _ _ _=>⟨(aZ (i:=0) (by decide +kernel:(["other","thing"]:List Str).Nodup) rfl (Or.inl rfl)),dw,(oq jN (pv 1) (pv 0) (bL _))⟩)))),?_⟩;refine⟨_,rfl,n,rfl,(bI (by omega)).1,(bI (by omega)).2,λD hD=>fu (λi=>.bl (decide (t=i))) src_range hD (cQ (by simpa using hn)) (λi H2 Kt hi hs hk=>?_) (λH' hs hl=>?_)⟩
  ·refine⟨_,rfl,_,rfl,rfl,?_⟩
   rw[Hb];exact hk _ (Same.refl _)
  ·refine k _ _ hs ?_
   intro n' t' e;cases e;exact⟨D,rfl,hD,by rw[hl];simp[bz]⟩
end
theorem qK(n:Nat)(p:Nat->Bool):(bz n p).length=n:=by simp[bz]
theorem qJ{n:Nat}{p:Nat->Bool}{i:Nat}(h:i<n):(bz n p).getD i .non = .bl (p i):=by simp[bz,h]
theorem Zx{n:Nat}{p:Nat->Bool}{j:Nat}:(bz n p).set j (.bl true)=bz n λb=>if b=j then true else p b:=by
 apply gw
 ·simp[bz]
 ·intro i h1 h2
  simp only[bz,List.getElem_set,rj,EY]
  by_cases e:j=i
  ·simp[e]
  ·have:¬ i=j:=λz=>e z.symm
   simp[e,this]
theorem kG{n:Nat}{p q:Nat->Bool}(h:∀b,b<n->p b=q b):bz n p=bz n q:=by
 unfold bz;apply fc
 intro b hb;rw[h b (by simpa using hb)]
section
variable {P:Program} {w:World} {K:W.Frag} {mg:Str->Option Value} {base:Heap} {f:Addr} {fd:FuncData}
abbrev uS:Stmt:=top 16
theorem Nj:aU ["one","other"] ["one","other"] (aB uS):=⟨rfl,rfl,rfl,by decide +kernel,rfl,by decide +kernel,by decide +kernel⟩
noncomputable def vg:Sp:=Pu (λvs H=>∃(x y n:Nat) (p q:Nat->Bool),vs = [.ref x,.ref y]/\H x=some (.lst (bz n p))/\H y=some (.lst (bz n q))/\n<=24)
 λvs H v H'=>∀(x y n:Nat) (p q:Nat->Bool),vs = [.ref x,.ref y]->H x=some (.lst (bz n p))->H y=some (.lst (bz n q))->∃a,v = .ref a/\H a=none/\H' a=some (.lst (bz n λb=>p b||q b))
theorem uJ{n m:Nat}{p q:Nat->Bool}(h:bz n p=bz m q):n=m/\∀b,b<n->p b=q b:=by
 have e:n=m:=by have:=congrArg List.length h;rwa [qK,qK]at this
 subst e;refine⟨rfl,λb hb=>?_⟩;have:=congrArg (λl=>l.getD b V.non) h;simp only[qJ hb]at this;injection this
theorem K_ (F:aR K "either" "either" uS f fd) (T:Txt mg):aM P w K mg base aN 1 f fd ["one","other"] vg:=by
 refine F.ok Nj (λvs H Q E h=>?_) (λcdv A outer s H vs Q E hr h=>?_)
 ·obtain⟨⟨x,y,n,p,q,rfl,_⟩,_⟩:=h
  rfl
 ·obtain⟨⟨x,y,n,p,q,rfl,hx,hy,hn⟩,k⟩:=h
  have nd:=Nj.nd;refine⟨_,(az (aX (dc (own:=["a","b"]) (fr:=[]) rfl (bQ (aB uS) ["one","other"] rfl rfl (by decide +kernel)) (Mi (K:=K) true true rfl rfl T.zip (ag (pv 0) (ag (pv 1) ah))) (λ_ _ _ _=>⟨(uE (K:=K) (i:=0) (j:=1) rfl rfl (by decide +kernel:(["a","b"]:List Str).Nodup) rfl rfl rfl rfl),dw,(Yr (pv 0) (ou (pv 1)))⟩)))),?_⟩;refine⟨_,rfl,_,rfl,x,y,_,_,rfl,ai.of hx,ai.of hy,λD hD=>fu (λi=>.bl (p i||q i)) (Ow (c1:=true) (c2:=true) (ai.of hx) (ai.of hy) (n:=n) (by simp[qK])) hD (cQ hn) (λi H2 Kt hi hs hk=>?_) (λH' hs hl=>?_)⟩
  ·refine⟨_,rfl,p i,qJ hi,bO (λh=>?_) (λh=>?_)⟩
   ·have:=hk _ (Same.refl _)
    simpa[h]using this
   ·refine⟨_,rfl,?_⟩
    have:=hk _ (Same.refl _);rw[qJ hi];simpa[h]using this
  ·refine k _ _ hs ?_
   intro x' y' n' p' q' e h1 h2;cases e;rw[hx]at h1;rw[hy]at h2;injection h1 with h1
   injection h1 with h1
   injection h2 with h2
   injection h2 with h2
   obtain⟨rfl,e1⟩:=uJ h1;obtain⟨_,e2⟩:=uJ h2;refine⟨D,rfl,hD,?_⟩;rw[hl];show some (HO.lst (bz n λi=>p i||q i))=_;rw[kG λb hb=>by rw[e1 b hb,e2 b hb]]
abbrev u9:Stmt:=top 17
theorem Ob:aU ["one","other"] ["one","other"] (aB u9):=⟨rfl,rfl,rfl,by decide +kernel,rfl,by decide +kernel,by decide +kernel⟩
noncomputable def vI:Sp:=Pu (λvs H=>∃(x y n:Nat) (p q:Nat->Bool),vs = [.ref x,.ref y]/\H x=some (.tup (bz n p))/\H y=some (.tup (bz n q))/\n<=24)
 λvs H v H'=>∀(x y n:Nat) (p q:Nat->Bool),vs = [.ref x,.ref y]->H x=some (.tup (bz n p))->H y=some (.tup (bz n q))->∃a,v = .ref a/\H a=none/\H' a=some (.tup (bz n λb=>p b&&q b))
theorem Lx (F:aR K "shared" "shared" u9 f fd) (T:Txt mg):aM P w K mg base aN 1 f fd ["one","other"] vI:=by
 refine F.ok Ob (λvs H Q E h=>?_) (λcdv A outer s H vs Q E hr h=>?_)
 ·obtain⟨⟨x,y,n,p,q,rfl,_⟩,_⟩:=h
  rfl
 ·obtain⟨⟨x,y,n,p,q,rfl,hx,hy,hn⟩,k⟩:=h
  have nd:=Ob.nd;refine⟨_,(az (aX (eA (iJ (K:=K) rfl) rfl T.tuple iI (ag (dc (own:=["a","b"]) (fr:=[]) rfl (bQ (aB u9) ["one","other"] rfl rfl (by decide +kernel)) (Mi (K:=K) false false rfl rfl T.zip (ag (pv 0) (ag (pv 1) ah))) (λ_ _ _ _=>⟨(uE (K:=K) (i:=0) (j:=1) rfl rfl (by decide +kernel:(["a","b"]:List Str).Nodup) rfl rfl rfl rfl),dw,(qu (pv 0) (ou (pv 1)))⟩)) ah)))),?_⟩;refine⟨_,rfl,_,rfl,x,y,_,_,rfl,ax.of hx,ax.of hy,λD hD=>fu (λi=>.bl (p i&&q i)) (Ow (c1:=false) (c2:=false) (ax.of hx) (ax.of hy) (n:=n) (by simp[qK])) hD (cQ hn) (λi H2 Kt hi hs hk=>?_) (λH' hs hl=>?_)⟩
  ·refine⟨_,rfl,p i,qJ hi,bO (λh=>?_) (λh=>?_)⟩
   ·refine⟨_,rfl,?_⟩
    have:=hk _ (Same.refl _);rw[qJ hi];simpa[h]using this
   ·have:=hk _ (Same.refl _)
    simpa[h]using this
  ·refine⟨D,_,rfl,.inl ⟨ai.of hl,λl hl'=>?_⟩⟩
   have hlH:H l=none:=hs.free hl';refine k _ _ (hs.trans (Same.put hl')) ?_;intro x' y' n' p' q' e h1 h2;cases e;rw[hx]at h1;rw[hy]at h2;injection h1 with h1
   injection h1 with h1
   injection h2 with h2
   injection h2 with h2
   obtain⟨rfl,e1⟩:=uJ h1;obtain⟨_,e2⟩:=uJ h2;refine⟨l,rfl,hlH,?_⟩;rw[aA];show some (HO.tup (bz n λi=>p i&&q i))=_;rw[kG λb hb=>by rw[e1 b hb,e2 b hb]]
abbrev uQ:Stmt:=top 18
theorem Ng:aU ["rows","place"] ["rows","place"] (aB uQ):=⟨rfl,rfl,rfl,by decide +kernel,rfl,by decide +kernel,by decide +kernel⟩
noncomputable def ve:Sp:=Pu (λvs H=>∃(v:V) (n j:Nat) (g:Nat->Nat->V),vs = [v,.int j]/\TT H v n g/\j<n/\n<=24)
 λvs H v H'=>∀(u:V) (n j:Nat) (g:Nat->Nat->V),vs = [u,.int j]->TT H u n g->j<n->∃a,v = .ref a/\H a=none/\H' a=some (.tup ((List.range n).map λi=>g i j))
theorem TT.inj{H:Hp}{v:V}{n m:Nat}{g g':Nat->Nat->V}(h:TT H v n g)(h':TT H v m g'):n=m/\∀i j,i<n->j<n->g i j=g' i j:=by
 obtain⟨a,vs,e,q,r⟩:=id h;obtain⟨a',vs',e',q',r'⟩:=id h';rw[e]at e';injection e' with e'
 subst e';rw[q]at q';injection q' with q'
 injection q' with q'
 subst q';have en:n=m:=by
  have h1:=dh r;have h2:=dh r';simp at h1 h2;omega
 subst en;refine⟨rfl,λi j hi hj=>?_⟩;obtain⟨y,h1,b,rfl,h2⟩:=oo (i:=i) (x:=i) r (by simp[hi]);obtain⟨y',h1',b',rfl,h2'⟩:=oo (i:=i) (x:=i) r' (by simp[hi]);rw[h1]at h1';injection h1' with h1'
 injection h1' with h1'
 subst h1';rw[h2]at h2';injection h2' with h2'
 injection h2' with h2'
 have:=congrArg (λl=>l.getD j V.non) h2';simpa[hj]using this
theorem K9 (F:aR K "column" "column" uQ f fd) (T:Txt mg):aM P w K mg base aN 1 f fd ["rows","place"] ve:=by
 refine F.ok Ng (λvs H Q E h=>?_) (λcdv A outer s H vs Q E hr h=>?_)
 ·obtain⟨⟨v,n,j,g,rfl,_⟩,_⟩:=h
  rfl
 ·obtain⟨⟨v,n,j,g,rfl,ht,hj,hn⟩,k⟩:=h
  have nd:=Ng.nd;obtain⟨a,us,rfl,hq,hr'⟩:=id ht;have hlen:us.length=n:=by simpa using(dh hr').symm
  refine⟨_,(az (aX (eA (iJ (K:=K) rfl) rfl T.tuple iI (ag (dc (own:=["row"]) (fr:=[("place", 1)]) rfl (bQ (aB uQ) ["rows","place"] rfl rfl (by decide +kernel)) (kF (K:=K) rfl (pv 0)) (λ_ _ _ _=>⟨(aZ (i:=0) (by decide +kernel:(["row","place"]:List Str).Nodup) rfl (Or.inl rfl)),dw,(aF (aW (K:=K) rfl) (pv 0) (pv 1) (λ_ _=>rfl))⟩)) ah)))),?_⟩;refine⟨_,rfl,a,rfl,⟨_,ax.of hq⟩,λD hD=>fu (λi=>g i j) (oz (ax.of hq)) hD (cQ (by omega)) (λi H2 Kt hi hs hk=>?_) (λH' hs hl=>?_)⟩
  ·obtain⟨y,h1,b,rfl,h2⟩:=oo (i:=i) (x:=i) hr' (oR (by omega))
   refine⟨_,rfl,_,rfl,b,_,j,_,(by rw[aL,h1];rfl),rfl,ax.of (hs _ _ h2),pA hj,hk _ (Same.refl _)⟩
  ·refine⟨D,_,rfl,.inl ⟨ai.of hl,λl hl'=>?_⟩⟩
   refine k _ _ (hs.trans (Same.put hl')) ?_;intro u' n' j' g' e h1 h2;injection e with e1 e2
   injection e2 with e2 _
   injection e2 with e2
   have ej:j=j':=by omega
   subst ej;rw[<- e1]at h1;obtain⟨rfl,eg⟩:=ht.inj h1;refine⟨l,rfl,hs.free hl',?_⟩;rw[aA,hlen]
   congr 2
   exact fc λi hi=>eg i j (by simpa using hi) hj
end
theorem K0{N:List Addr}(hN:N.Nodup){i j:Nat}{x:Addr}(a:N[i]?=some x)(b:N[j]?=some x):i=j:=by
 obtain⟨h1,e1⟩:=bp.mp a;obtain⟨h2,e2⟩:=bp.mp b;exact(Ez hN).mp (e1.trans e2.symm)
theorem K3:∀{as:List Addr} {t b:Nat},as.Nodup->b ∉ as->(as.set t b).Nodup
 | [],_,_,_,_=>by simp
 |a::r,0,b,nd,hb=>fe.mpr ⟨λh=>hb (bu _ h),(fe.mp nd).2⟩
 |a::r,t+1,b,nd,hb=>by
  rw[List.set_cons_succ];refine fe.mpr ⟨λh=>?_,K3 (fe.mp nd).2 λh=>hb (bu _ h)⟩
  rcases Qu h with h|h
  ·exact(fe.mp nd).1 h
  ·subst h;exact hb bx
structure dO (H0 H:Hp) (r n:Nat) (as:List Addr) (R:Nat->Nat->Bool):Prop where
 same:Same H0 H
 lst:H r=some (.lst (as.map V.ref))
 len:as.length=n
 nd:as.Nodup
 A_:H0 r=none
 new:∀a∈as,H0 a=none/\a≠r
 row:∀(i:Nat) a,as[i]?=some a->H a=some (.lst (bz n (R i)))
theorem dO.congr{H0 H:Hp}{r n:Nat}{as:List Addr}{R R':Nat->Nat->Bool}(W:dO H0 H r n as R)(h:∀a b,a<n->b<n->R a b=R' a b):dO H0 H r n as R':=
 {W with row:=λi a e=>(W.row i a e).trans (by rw[kG λb hb=>h i b (by rw[<- W.len];exact(bp.mp e).1) hb])}
theorem dO.get{H0 H:Hp}{r n:Nat}{as:List Addr}{R:Nat->Nat->Bool}(W:dO H0 H r n as R){i:Nat}(hi:i<n):∃a,as[i]?=some a/\(as.map V.ref)[i]?=some (.ref a)/\a∈as/\H a=some (.lst (bz n (R i))):=by
 have h:i<as.length:=by rw[W.len];exact hi
 exact⟨as[i],aq h,by simp[h],gB h,W.row i _ (aq h)⟩
theorem dO.grow{H0 H H':Hp}{r n:Nat}{as:List Addr}{R:Nat->Nat->Bool}(W:dO H0 H r n as R)(s:Same H H'):dO H0 H' r n as R:=
 {W with same:=W.same.trans s,lst:=s _ _ W.lst,row:=λi a e=>s _ _ (W.row i a e)}
theorem dO.put{H0 H:Hp}{r n:Nat}{as:List Addr}{R:Nat->Nat->Bool}(W:dO H0 H r n as R){i j a:Nat}(ha:as[i]?=some a):
  dO H0 (upd H a (.lst ((bz n (R i)).set j (.bl true)))) r n as (λx y=>if x=i/\y=j then true else R x y):=by
 have am:a∈as:=cu ha;refine{W with same:=λb o e=>?_,lst:=?_,row:=λk b e=>?_}
 ·rw[aG (λz=>by rw[z,(W.new a am).1]at e;cases e)]
  exact W.same _ _ e
 ·rw[aG (b_ (W.new a am).2)]
  exact W.lst
 ·by_cases hk:k=i
  ·subst hk
   rw[ha]at e;cases e;rw[aA,Zx]
   congr 2
   apply kG
   intro b hb;simp
  ·have hba:b≠a:=by
    rintro rfl;exact hk (K0 W.nd e ha)
   rw[aG hba,W.row k b e]
   congr 2
   apply kG
   intro c hc;rw[if_neg (λz=>hk z.1)]
theorem dO.swap{H0 H:Hp}{r n:Nat}{as:List Addr}{R:Nat->Nat->Bool}(W:dO H0 H r n as R){t b:Nat}{p:Nat->Bool}(ht:t<n)(hb:H0 b=none)(hbr:b≠r)(hba:b ∉ as)(hp:H b=some (.lst (bz n p))):
  dO H0 (upd H r (.lst ((as.map V.ref).set t (.ref b)))) r n (as.set t b) (λx y=>if x=t then p y else R x y):=by
 refine⟨λc o e=>?_,?_,by rw[Fb];exact W.len,?_,W.A_,λc hc=>?_,λk c e=>?_⟩
 ·rw[aG (λz=>by rw[z,W.A_]at e;cases e)]
  exact W.same _ _ e
 ·rw[aA,List.map_set]
 ·exact K3 W.nd hba
 ·rcases Qu hc with h|h
  ·exact W.new c h
  ·subst h;exact⟨hb,hbr⟩
 ·by_cases hk:t=k
  ·subst hk
   have hlt:t<as.length:=by rw[W.len];exact ht
   rw[Ew hlt]at e;cases e;rw[aG hbr,hp]
   congr 2
   apply kG
   intro y _;rw[if_pos rfl]
  ·rw[wH hk]at e
   rw[aG (W.new c (cu e)).2,W.row k c e]
   congr 2
   apply kG
   intro y _;rw[if_neg (λz=>hk z.symm)]
theorem Q9(a b:Nat):Ev.base [] a b=decide (a=b):=by rw[cE,Ev.mU];simp
theorem Q_(ps:List (Nat × Nat))(p:Nat × Nat)(a b:Nat):Ev.base (ps++[p]) a b=if a=p.1/\b=p.2 then true else Ev.base ps a b:=by
 rw[cE,Ev.mU]
 by_cases h:a=p.1/\b=p.2
 ·rw[if_pos h]
  obtain⟨rfl,rfl⟩:=h;simp
 ·rw[if_neg h,Ev.mU]
  simp only[iz,gT]
  constructor
  ·rintro(h1|h1|h1)
   ·exact .inl h1
   ·exact .inr h1
   ·subst h1;exact absurd ⟨rfl,rfl⟩ h
  ·rintro(h1|h1)
   ·exact .inl h1
   ·exact .inr (.inl h1)
section
variable {P:Program} {w:World} {K:W.Frag} {mg:Str->Option Value} {base:Heap} {f:Addr} {fd:FuncData}
theorem qa{n j:Nat}(h:j<n):iQ n (j:Int)=some j:=by
 unfold iQ;rw[if_pos (by omega),if_pos (by omega)];simp
abbrev pB (R:Nat->Nat->Bool):Nat->Nat->V:=λa b=>.bl (R a b)
abbrev qP:Stmt:=top 19
theorem Oa:aU ["count","pairs","rows","pair","middle","thing"] ["count","pairs"] (aB qP):=⟨rfl,rfl,rfl,by decide +kernel,rfl,by decide +kernel,by decide +kernel⟩
noncomputable def vH(K:W.Frag):Sp:=λvs H Q _=>∃(n a:Nat) (ps:List (Nat × Nat)),vs = [.int n,.ref a]/\mI K H a ps/\n<=24/\(∀p∈ps,p.1<n/\p.2<n) /\
 ∀v H' R,Same H H'->Ev.oJ n ps R->TT H' v n (pB R)->Q v H'
theorem at0{α:Type}{xs:List α}{j:Nat}{v:α}(h:xs[j]?=some v):jr xs (0+(j:Int))=some v:=by rw[j5];exact aS h
theorem VJ{n j:Nat}(h:j<n):iQ n (0+(j:Int))=some j:=by rw[j5];exact qa h
theorem Zw{n:Nat}{p:Nat->Bool}{j:Nat}(h:j<n):(bz n p)[j]?=some (.bl (p j)):=by simp[bz,h]
theorem Lw (F:aR K "reach_of" "reach_of" qP f fd) (T:Txt mg) (pL:au P w K mg base "own_row" ["count","thing"] 1 vF) (pD:au P w K mg base "either" ["one","other"] 1 vg) :
  aM P w K mg base aN 2 f fd ["count","pairs"] (vH K):=by
 refine F.ok Oa (λvs H Q E h=>?_) (λcdv A outer s H vs Q E hr h=>?_)
 ·obtain⟨n,a,ps,rfl,_⟩:=h
  rfl
 ·obtain⟨n,a,ps,rfl,⟨us,iP,hup⟩,hn,hb,k⟩:=h
  have nd:=Oa.nd;have en:((n:Int)).toNat=n:=ck n;refine⟨_,(ay (qC (i:=2) nd rfl rfl (own:=["thing"]) (fr:=[("count", 0)]) rfl (bQ (aB qP) ["count","pairs","rows","pair","middle","thing"] rfl rfl (by decide +kernel)) (dI rfl T.range (ag (pv 0) ah)) (λ_ _ _ _=>⟨(aZ (i:=0) (by decide +kernel:(["thing","count"]:List Str).Nodup) rfl (Or.inl rfl)),dw,(aQ pL hr rfl (ag (pv 1) (ag (pv 0) ah)))⟩))
   (ay (cD bT rfl (eB (K:=K) rfl (pv 1)) (aZ (i:=3) nd rfl (Or.inl rfl))
   (az (qA d0 (qx (aF (bB (K:=K) rfl) (pv 2) (aF (aW (K:=K) rfl) (pv 3) aD (λ_ _=>rfl)) (λ_ _=>rfl)) (aF (aW (K:=K) rfl) (pv 3) aD (λ_ _=>rfl)) set_list))))
   (ay (cD bT rfl (dI rfl T.range (ag (pv 0) ah)) (aZ (i:=4) nd rfl (Or.inl rfl))
   (az (cD bT rfl (dI rfl T.range (ag (pv 0) ah)) (aZ (i:=5) nd rfl (Or.inl rfl))
   (az (cM (fJ (aF (bB (K:=K) rfl) (aF (bB (K:=K) rfl) (pv 2) (pv 5) (λ_ _=>rfl)) (pv 4) (λ_ _=>rfl))) (az (qA (aQ pD hr rfl (ag (aF (bB (K:=K) rfl) (pv 2) (pv 5) (λ_ _=>rfl)) (ag (aF (bB (K:=K) rfl) (pv 2) (pv 4) (λ_ _=>rfl)) ah))) (qx (pv 2) (pv 5) set_list))) cU)))))
   (az (aX (eA (iJ (K:=K) rfl) rfl T.tuple iI (ag (dc (own:=["row"]) (fr:=[]) rfl (bQ (aB qP) ["count","pairs","rows","pair","middle","thing"] rfl rfl (by decide +kernel)) (eB (K:=K) rfl (pv 2)) (λ_ _ _ _=>⟨(aZ (i:=0) (by decide +kernel:(["row"]:List Str).Nodup) rfl (Or.inl rfl)),dw,(eA (iJ (K:=K) rfl) rfl T.tuple iI (ag (pv 0) ah))⟩)) ah))))))),?_⟩
  refine⟨_,rfl,n,rfl,(bI (by omega)).1,(bI (by omega)).2,λD hD=>G8 (λi=>bz n λb=>decide (i=b)) src_range hD (cQ (by simpa using hn)) (λi H2 Kt hi hs hk=>?_) (λH1 as hs hl h1 h2 h3 h4=>?_)⟩
  ·refine⟨_,rfl,_,rfl,⟨n,i,by simp,hn⟩,λv H3 s3 hv=>?_⟩
   obtain⟨b,rfl,hb1,hb2⟩:=hv n i (by simp);exact hk b H3 s3 hb1 hb2
  have W0:dO H H1 D n as (Ev.base []):=⟨hs,hl,h1.trans en,h2,hD,h3,λi b e=>(h4 i b e).trans (by rw[kG λc hc=>(Q9 i c).symm])⟩;refine⟨_,rfl,a,rfl,⟨_,hs.seq iP⟩,jE (K:=K) (a:=a) (xs:=us) (λi σ H2=>∃v3,σ = [some (.int n),some (.ref a),some (.ref D),v3,none,none]/\dO H H2 D n as (Ev.base (ps.take i)))
   ⟨none,rfl,by simpa using W0⟩ (λi σ H2 _ ⟨_,_,W⟩=>W.same.seq iP) ?_ ?_⟩
  ·rintro i y σ H2 hi ⟨v3,rfl,W⟩
   obtain⟨p,hp1,t,rfl,ht⟩:=kC hup hi;obtain⟨b1,b2⟩:=hb p (cu hp1);obtain⟨r,r1,r2,r3,r4⟩:=W.get b1;refine⟨_,rfl,_,rfl,t,_,0,_,rfl,rfl,ax.of (W.same _ _ ht),rfl,D,_,_,_,rfl,rfl,ai.of W.lst,aS r2,_,rfl,t,_,1,_,rfl,rfl,ax.of (W.same _ _ ht),rfl,r,_,_,p.2,rfl,rfl,r4,?_,?_⟩
   ·rw[qK];exact qa b2
   ·refine⟨_,rfl,(W.put r1).congr λx y _ _=>?_⟩
    have et:ps.take (i+1)=ps.take i++[p]:=by rw[iZ,hp1];rfl
    rw[et,Q_]
  ·rintro σ H2 ⟨v3,rfl,W⟩
   have el:us.length=ps.length:=(dh hup).symm;rw[el,kT]at W;have hlen:us.length=ps.length:=(dh hup).symm;refine⟨_,rfl,n,rfl,(bI (by omega)).1,(bI (by omega)).2,hZ (lo:=0) (n:=((n:Int)).toNat) (λm σ H2=>∃v3 v4 v5 as R,σ = [some (.int n),some (.ref a),some (.ref D),v3,v4,v5]/\dO H H2 D n as R/\Ev.jq n ps m R)
    ⟨v3,none,none,as,_,rfl,W,Ev.jq.start hb⟩ ?_ ?_⟩
   ·rintro m σ H2 hm ⟨v3,v4,v5,as,R,rfl,W,WI⟩
    have hmn:m<n:=by omega
    refine⟨_,rfl,n,rfl,(bI (by omega)).1,(bI (by omega)).2,hZ (lo:=0) (n:=((n:Int)).toNat) (λt σ H2=>∃v5 as,σ = [some (.int n),some (.ref a),some (.ref D),v3,some (.int (0+m)),v5] /\
     dO H H2 D n as (λx y=>if x<t then Ev.jW R m x y else R x y)) ⟨v5,as,rfl,W.congr λx y _ _=>by rw[if_neg (Nat.not_lt_zero x)]⟩ ?_ ?_⟩
    ·rintro t σ H3 ht ⟨v5,as,rfl,W⟩
     have htn:t<n:=by omega
     obtain⟨rt,t1,t2,t3,t4⟩:=W.get htn;obtain⟨rm,m1,m2,m3,m4⟩:=W.get hmn;refine⟨_,rfl,_,rfl,D,_,_,_,rfl,rfl,ai.of W.lst,at0 t2,_,rfl,rt,_,_,_,rfl,rfl,ai.of t4,at0 (Zw hmn),_,rfl,bO (λh=>?_) (λh=>?_)⟩
     ·rw[if_neg (gE t)]at h
      refine⟨_,rfl,_,rfl,D,_,_,_,rfl,rfl,ai.of W.lst,at0 t2,_,rfl,_,rfl,D,_,_,_,rfl,rfl,ai.of W.lst,at0 m2,⟨rt,rm,n,_,_,rfl,t4,m4,hn⟩,λv H4 s4 hv=>?_⟩;obtain⟨b,rfl,q1,q2⟩:=hv rt rm n _ _ rfl t4 m4;have W4:=W.grow s4;have hbD:b≠D:=λe=>by rw[e,W.lst]at q1;cases q1
      have hba:b ∉ as:=λhm=>by
       obtain⟨j,hj,e⟩:=iX hm;have:=W.row j b (by rw[aq hj,e]);rw[q1]at this;cases this
      refine⟨_,rfl,_,rfl,D,_,_,t,rfl,rfl,W4.lst,?_,?_⟩
      ·rw[ao,W4.len];exact VJ htn
      ·refine⟨_,_,rfl,(W4.swap htn (W.same.free q1) hbD hba q2).congr λx y hx hy=>?_⟩
       by_cases e:x=t
       ·subst e
        rw[if_pos rfl,if_neg (gE x),if_pos (oX x)];have em:(if m<x then Ev.jW R m m y else R m y)=R m y:=by
         split
         ·unfold Ev.jW
          cases R m y<;>simp
         ·rfl
        rw[em];unfold Ev.jW;rw[h,lZ]
       ·rw[if_neg e]
        by_cases p9:x<t
        ·rw[if_pos p9,if_pos (by omega)]
        ·rw[if_neg p9,if_neg (by omega)]
     ·rw[if_neg (gE t)]at h
      refine⟨_,as,rfl,W.congr λx y hx hy=>?_⟩
      by_cases e:x=t
      ·subst e
       rw[if_neg (gE x),if_pos (oX x)];unfold Ev.jW;have h':R x m=false:=by simpa using h
       rw[h',lY,Bool.or_false]
      ·by_cases p9:x<t
       ·rw[if_pos p9,if_pos (by omega)]
       ·rw[if_neg p9,if_neg (by omega)]
    ·rintro σ H3 ⟨v5,as,rfl,W⟩
     exact⟨_,_,_,as,Ev.jW R m,rfl,W.congr λx y hx _=>by rw[if_pos (by omega)],WI.step hmn⟩
   ·rintro σ H2 ⟨v3,v4,v5,as,R,rfl,W,WI⟩
    rw[en]at WI;refine⟨_,rfl,D,rfl,⟨_,ai.of W.lst⟩,λD2 hD2=>su (λi v H=>∃b,v = .ref b/\b≠D2/\H b=some (.tup (bz n (R i)))) (src_list (ai.of W.lst)) hD2 (cQ (by rw[ao,W.len];exact hn))
     (λi v H H' s ⟨b,e,hb,q⟩=>⟨b,e,hb,s _ _ hb q⟩) (λi H3 Kt hi hs hy hk=>?_) (λH3 ys hs hl hp=>?_)⟩
    ·rw[ao,W.len]at hi
     obtain⟨r,r1,r2,r3,r4⟩:=W.get hi;obtain⟨zs,hz⟩:=hy;refine⟨_,rfl,r,_,by rw[aL,r2];rfl,.inl ⟨ai.of (hs _ _ r4),λl hl'=>?_⟩⟩;exact hk _ _ (Same.put hl') ⟨l,rfl,(λe=>by rw[e,hz]at hl';cases hl'),aA⟩
    ·refine⟨D2,_,rfl,.inl ⟨ai.of hl,λl hl'=>?_⟩⟩
     have Sx:(as.map V.ref).length=n:=by rw[ao,W.len]
     rw[Sx]at hp;refine k _ _ R ((W.same.trans hs).trans (Same.put hl')) WI.done ⟨l,ys,rfl,aA,Paired.di hp λi u ⟨b,e,_,q⟩=>⟨b,e,Same.put hl' _ _ q⟩⟩
end
theorem uA{H:Hp}{L:Addr}{xs ys:List V}(hL:H L=some (.lst xs)){ps:List (Nat × Nat)}{us:List V}(h:Paired (eU H) ps us):Paired (eU (upd H L (.lst ys))) ps us:=
 Paired.di h λ_ _ ⟨t,e,q⟩=>⟨t,e,by rw[aG (jL q hL (λz=>nomatch z))];exact q⟩
theorem ux{α β:Type}{F:α->β->Prop}:∀{a b:List α} {c d:List β},Paired F a c->Paired F b d->Paired F (a++b) (c++d)
 |_,_,_,_,.nil,h=>h
 |_,_,_,_,.cons r t,h=>.cons r (ux t h)
theorem uz{α β γ:Type}{F:γ->β->Prop}{g:α->γ}:∀{a:List α} {c:List β},Paired (λx y=>F (g x) y) a c->Paired F (a.map g) c
 |_,_,.nil=>.nil
 |_,_,.cons r t=>.cons r (uz t)
theorem Bv{α:Type}(i:Nat)(h:Nat->List α):(List.range (i+1)).flatMap h=(List.range i).flatMap h++h i:=by
 rw[oS,List.flatMap_append];simp
noncomputable def Dx(n:Nat):List (Nat × Nat):=(List.range n).flatMap λl=>(List.range (n - (l+1))).map λj=>(l,l+1+j)
theorem KC{n:Nat}{p:Nat × Nat}(h:p∈Dx n):p.1<p.2/\p.2<n:=by
 unfold Dx at h;rw[wK]at h;obtain⟨l,hl,h⟩:=h;rw[b9]at h;obtain⟨j,hj,rfl⟩:=h;simp at hl hj ⊢;omega
noncomputable def eV(n:Nat)(R:Nat->Nat->Bool):List (Nat × Nat):=(List.range n).flatMap λl=>((List.range n).filter λh=>!decide (l=h)&&R l h).map λh=>(l,h)
section
variable {P:Program} {w:World} {K:W.Frag} {mg:Str->Option Value} {base:Heap} {f:Addr} {fd:FuncData}
abbrev vb:Stmt:=top 20
theorem Og:aU ["count","told","low"] ["count"] (aB vb):=⟨rfl,rfl,rfl,by decide +kernel,rfl,by decide +kernel,by decide +kernel⟩
noncomputable def qT:Sp:=λvs H Q _=>∃n:Nat,vs = [.int n]/\n<=24/\∀l us H',Same H H'->H' l=some (.lst us)->Paired (eU H') (Dx n) us->Q (.ref l) H'
theorem Ly (F:aR K "twos" "twos" vb f fd) (T:Txt mg):aM P w K mg base aN 1 f fd ["count"] qT:=by
 refine F.ok Og (λvs H Q E h=>?_) (λcdv A outer s H vs Q E hr h=>?_)
 ·obtain⟨n,rfl,_⟩:=h
  rfl
 ·obtain⟨n,rfl,hn,k⟩:=h
  have nd:=Og.nd;have en:((n:Int)).toNat=n:=ck n;refine⟨_,(ay (aV (i:=1) nd rfl (Or.inl rfl) (ic ah))
   (ay (cD bT rfl (dI rfl T.range (ag (pv 0) ah)) (aZ (i:=2) nd rfl (Or.inr rfl))
   (az (dJ (kE (K:=K) rfl mL xm FJ As (pv 1) (ag (dc (own:=["high"]) (fr:=[("low", 2)]) rfl (bQ (aB vb) ["count","told","low"] rfl rfl (by decide +kernel)) (Bp rfl T.range (ag (aO eh (pv 2) aD) (ag (pv 0) ah))) (λ_ _ _ _=>⟨(aZ (i:=0) (by decide +kernel:(["high","low"]:List Str).Nodup) rfl (Or.inl rfl)),dw,(ie (ag (pv 1) (ag (pv 0) ah)))⟩)) ah)))))
   (az (aX (pv 1))))),?_⟩
  refine⟨by show 0<=sizeLine;decide,λL hL=>?_⟩;refine⟨_,rfl,n,rfl,(bI (by omega)).1,(bI (by omega)).2,hZ (lo:=0) (n:=((n:Int)).toNat) (λi σ H2=>∃v2 us,σ = [some (.int n),some (.ref L),v2]/\Same H H2/\H2 L=some (.lst us)/\us.length<=24*i /\
   Paired (eU H2) ((List.range i).flatMap λl=>(List.range (n - (l+1))).map λj=>(l,l+1+j)) us) ⟨none,[],rfl,Same.put hL,aA,by simp,.nil⟩ ?_ ?_⟩
  ·rintro i σ H2 hi ⟨v2,us,rfl,s2,hl,hlen,hp⟩
   have hin:i<n:=by omega
   refine⟨_,rfl,.inl ⟨rfl,_,ai.of hl⟩,?_⟩;refine⟨_,rfl,_,_,rfl,rfl,_,rfl,(0+(i:Int)+1),n,rfl,⟨by omega,by omega,by omega,by omega⟩,λD hD=>?_⟩;refine su (λj v H=>∃t,v = .ref t/\t≠D/\H t=some (.tup [.int i,.int ((i+1+j:Nat):Int)])) src_range hD (cQ (by omega)) (λj v H H' s ⟨b,e,hb,q⟩=>⟨b,e,hb,s _ _ hb q⟩) (λj H3 Kt hj hs hy hk=>?_) (λH3 ys hs hl3 hp3=>?_)
   ·obtain⟨zs,hz⟩:=hy
    refine⟨_,rfl,_,rfl,by show 2<=sizeLine;decide,λt ht=>?_⟩;refine hk _ _ (Same.put ht) ⟨t,rfl,(λe=>by rw[e,hz]at ht;cases ht),?_⟩;rw[aA]
    congr 4
    ·omega
    ·congr 1
     push_cast
     omega
   ·have hDL:D≠L:=λe=>by rw[e,hl]at hD;cases hD
    have Je:ys.length=n - (i+1):=by
     have:=dh hp3;simp at this;omega
    refine⟨L,D,us,ys,rfl,rfl,hs _ _ hl,hl3,by have:=@gO 100000 (by omega);omega,?_⟩;refine⟨_,us++ys,rfl,?_,aA,by rw[de];omega,?_⟩
    ·intro b o e
     rw[aG (λz=>by rw[z,hL]at e;cases e)];exact hs _ _ (s2 _ _ e)
    ·rw[Bv]
     refine uA (hs _ _ hl) (ux (kD.same hs hp) (uz ?_));have ec:((n:Int) - (0+(i:Int)+1)).toNat=n - (i+1):=by omega
     rw[ec]at hp3;exact Paired.di hp3 λj v ⟨t,e,_,q⟩=>⟨t,e,q⟩
  ·rintro σ H2 ⟨v2,us,rfl,s2,hl,hlen,hp⟩
   rw[en]at hp;exact⟨_,rfl,k L us H2 s2 hl hp⟩
abbrev Ck:Stmt:=top 21
theorem N5:aU ["count","reach","two"] ["count","reach"] (aB Ck):=⟨rfl,rfl,rfl,by decide +kernel,rfl,by decide +kernel,by decide +kernel⟩
noncomputable def vC:Sp:=λvs H Q _=>∃(n:Nat) (v:V) (R:Nat->Nat->Bool),vs = [.int n,v]/\TT H v n (pB R)/\n<=24/\(∀a b,a<b->b<n->¬ (R a b=true/\R b a=true))/\∀H',Same H H'->Q .non H'
theorem Lk (F:aR K "need_one_way" "need_one_way" Ck f fd) (T:Txt mg) (ju:au P w K mg base "twos" ["count"] 1 qT):aM P w K mg base aN 2 f fd ["count","reach"] vC:=by
 refine F.ok N5 (λvs H Q E h=>?_) (λcdv A outer s H vs Q E hr h=>?_)
 ·obtain⟨n,v,R,rfl,_⟩:=h
  rfl
 ·obtain⟨n,v,R,rfl,ht,hn,ha,k⟩:=h
  have nd:=N5.nd;refine⟨_,(az (cD bT rfl (eB (K:=K) rfl (aQ ju hr rfl (ag (pv 0) ah))) (aZ (i:=2) nd rfl (Or.inl rfl))
   (az (cM (PW.pt (qF (fJ (aF (aW (K:=K) rfl) (aF (aW (K:=K) rfl) (pv 1) (aF (aW (K:=K) rfl) (pv 2) aD (λ_ _=>rfl)) (λ_ _=>rfl)) (aF (aW (K:=K) rfl) (pv 2) aD (λ_ _=>rfl)) (λ_ _=>rfl))) (qG (fJ (aF (aW (K:=K) rfl) (aF (aW (K:=K) rfl) (pv 1) (aF (aW (K:=K) rfl) (pv 2) aD (λ_ _=>rfl)) (λ_ _=>rfl)) (aF (aW (K:=K) rfl) (pv 2) aD (λ_ _=>rfl)) (λ_ _=>rfl)))))) (az lL) cU)))),?_⟩
  refine⟨_,rfl,n,rfl,hn,λl us H1 s1 hl hp=>⟨l,rfl,⟨_,ai.of hl⟩,jE (K:=K) (a:=l) (xs:=us) (λi σ H2=>∃v2,σ = [some (.int n),some v,v2]/\Same H1 H2) ⟨none,rfl,Same.refl _⟩ (λi σ H2 _ ⟨_,_,s2⟩=>ai.of (s2 _ _ hl)) ?_ ?_⟩⟩
  ·rintro i y σ H2 hi ⟨v2,rfl,s2⟩
   obtain⟨p,hp1,t,rfl,htt⟩:=kC hp hi;obtain⟨b1,b2⟩:=KC (cu hp1);obtain⟨a,vs,r1,rfl,q1,q2,q3,q4⟩:=(ht.same (s1.trans s2)).row (show p.1<n by omega);obtain⟨a',vs',r2,e',uH,Y1,Bt,Bu⟩:=(ht.same (s1.trans s2)).row b2;cases e';rw[q1]at uH;cases uH;have jI:=s2 _ _ htt;refine⟨_,rfl,_,rfl,t,_,0,_,rfl,rfl,ax.of jI,rfl,a,_,_,_,rfl,rfl,ax.of q1,aS q3,_,rfl,t,_,1,_,rfl,rfl,ax.of jI,rfl,r1,_,_,_,rfl,rfl,ax.of q4,pA b2,_,rfl,bO (λh=>?_) (λh=>?_)⟩
   ·refine⟨_,rfl,_,rfl,t,_,1,_,rfl,rfl,ax.of jI,rfl,a,_,_,_,rfl,rfl,ax.of q1,aS Bt,_,rfl,t,_,0,_,rfl,rfl,ax.of jI,rfl,r2,_,_,_,rfl,rfl,ax.of Bu,pA (show p.1<n by omega),_,rfl,bO (λh'=>?_) (λh'=>?_)⟩
    ·exact absurd ⟨h,h'⟩ (ha _ _ b1 b2)
    ·exact⟨_,rfl,s2⟩
   ·refine cI ?_
    exact⟨_,rfl,s2⟩
  ·rintro σ H2 ⟨v2,rfl,s2⟩
   exact k _ (s1.trans s2)
end
noncomputable def eS(n:Nat)(p:Nat->Bool):List Key:=(List.range n).map λb=>Sum.inl (if p b then 1 else 0)
theorem Ae{n:Nat}{p q:Nat->Bool}(h:eS n p=eS n q):∀b,b<n->p b=q b:=by
 intro b hb;have:=congrArg (λl=>l[b]?) h;simp only[eS,bC,oR hb,Fw,w_,Sum.inl.injEq]at this;cases hp:p b<;>cases hq:q b<;>simp[hp,hq]at this ⊢
theorem V7{n:Nat}{p q:Nat->Bool}(h:∀b,b<n->p b=q b):eS n p=eS n q:=by
 unfold eS;apply fc
 intro b hb;rw[h b (by simpa using hb)]
theorem JR(p:Nat->Bool):∀l:List Nat,t5 (l.map λb=>(Sum.inl (if p b then 1 else 0):Key)) (l.map λb=>V.bl (p b))
 | []=>.nil
 |b::r=>.cons (.inr ⟨p b,rfl,rfl⟩) (JR p r)
theorem Px{H:Hp}{b:Addr}{n:Nat}{p:Nat->Bool}(h:H b=some (.tup (bz n p))):jo H b (eS n p):=⟨_,JR p _,h⟩
noncomputable def fV(n:Nat)(R:Nat->Nat->Bool):Nat->List (List Key × V)
 |0=>[]
 |i+1=>fV n R i++[(eS n (R i),.int i)]
theorem J7(n:Nat)(R:Nat->Nat->Bool):∀i,(fV n R i).length=i
 |0=>rfl
 |i+1=>by rw[fV,de,J7 n R i];rfl
theorem WM(l:List (List Key × V)){k k':List Key}{v:V}(e:¬ k'=k)(h:cS l k=none):cS (l++[(k',v)]) k=none:=by
 induction l with
 |nil=>exact jU (p:=(k',v)) e
 |cons p r ih =>
  rw[List.cons_append]
  by_cases q:p.1=k
  ·rw[kM q]at h;cases h
  ·rw[jU q]at h ⊢;exact ih h
theorem Ah{n:Nat}{R:Nat->Nat->Bool}{k:List Key}:∀{i:Nat},(∀c,c<i->eS n (R c)≠k)->cS (fV n R i) k=none
 |0,_=>rfl
 |i+1,h=>by
  have ih:=Ah (n:=n) (R:=R) (k:=k) (i:=i) λc hc=>h c (by omega);have hk:cS (fV n R i) k=none:=ih;rw[fV];have e:¬ eS n (R i)=k:=h i (by omega);exact WM (fV n R i) e hk
theorem J8{n:Nat}{R:Nat->Nat->Bool}(dis:∀i j,i<n->j<n->(∀b,b<n->R i b=R j b)->i=j){c:Nat}(hc:c<n):∀{i:Nat},i<=n->c<i->cS (fV n R i) (eS n (R c))=some (.int c)
 |0,_,h=>by omega
 |i+1,hi,h=>by
  rw[fV,PN _ _ _ _ (Ah λd hd e=>by have:=dis d i (by omega) (by omega) (Ae e);omega)]
  by_cases e:c=i
  ·subst e;rw[if_pos rfl]
  ·rw[if_neg (λz=>e (dis c i hc (by omega) (Ae z)))]
   exact J8 dis hc (by omega) (by omega)
noncomputable def fC(n:Nat)(R:Nat->Nat->Bool)(a b:Nat):V:=(cS (fV n R n) (eS n λx=>R a x&&R b x)).getD .non
theorem fD{n:Nat}{R:Nat->Nat->Bool}(dis:∀i j,i<n->j<n->(∀b,b<n->R i b=R j b)->i=j){a b c:Nat}(hc:c<n)(h:∀x,x<n->R c x=(R a x&&R b x)):fC n R a b = .int c:=by
 unfold fC;rw[<- V7 h,J8 dis hc (aH _) hc];rfl
section
variable {P:Program} {w:World} {K:W.Frag} {mg:Str->Option Value} {base:Heap} {f:Addr} {fd:FuncData}
noncomputable def iH(H:Hp)(n:Nat)(R:Nat->Nat->Bool)(us:List V):Prop:=Paired (λi u=>∃b,u = .ref b/\H b=some (.tup (bz n (R i)))) (List.range n) us
theorem iH.same{H H':Hp}{n:Nat}{R:Nat->Nat->Bool}{us:List V}(s:Same H H')(h:iH H n R us):iH H' n R us:=Paired.di h λ_ _ ⟨b,e,q⟩=>⟨b,e,s _ _ q⟩
theorem iH.len{H:Hp}{n:Nat}{R:Nat->Nat->Bool}{us:List V}(h:iH H n R us):us.length=n:=by simpa using(dh h).symm
theorem iH.get{H:Hp}{n:Nat}{R:Nat->Nat->Bool}{us:List V}(h:iH H n R us){i:Nat}(hi:i<n):∃b,us[i]?=some (.ref b)/\H b=some (.tup (bz n (R i))):=by
 obtain⟨y,h1,b,rfl,h2⟩:=oo (i:=i) (x:=i) h (oR hi);exact⟨b,h1,h2⟩
abbrev uU:Stmt:=top 22
theorem Nm:aU ["rows","things","thing"] ["rows","things","thing"] (aB uU):=⟨rfl,rfl,rfl,by decide +kernel,rfl,by decide +kernel,by decide +kernel⟩
noncomputable def vi(K:W.Frag):Sp:=λvs H Q _=>∃(c:Bool) (a d t n:Nat) (us:List V) (R:Nat->Nat->Bool) (kvs:List (List Key × V)),vs = [.ref a,.ref d,.int t]/\Sq c K H a us/\iH H n R us/\H d=some (.dT kvs)/\t<n/\n<=24 /\
 ∀l H',Same H H'->H l=none->H' l=some (.tup ((List.range n).map λj=>(cS kvs (eS n λb=>R t b&&R j b)).getD .non))->Q (.ref l) H'
theorem Lb (F:aR K "ends_with" "ends_with" uU f fd) (T:Txt mg) (pO:au P w K mg base "shared" ["one","other"] 1 vI):aM P w K mg base aN 2 f fd ["rows","things","thing"] (vi K):=by
 refine F.ok Nm (λvs H Q E h=>?_) (λcdv A outer s H vs Q E hr h=>?_)
 ·obtain⟨c,a,d,t,n,us,R,kvs,rfl,_⟩:=h
  rfl
 ·obtain⟨c,a,d,t,n,us,R,kvs,rfl,hq,hrow,hd,ht,hn,k⟩:=h
  have nd:=Nm.nd;have hu:=Jm hr;refine⟨_,(az (aX (eA (iJ (K:=K) rfl) rfl T.tuple iI (ag (dc (own:=["row"]) (fr:=[("things", 1),("rows", 0),("thing", 2)]) rfl (bQ (aB uU) ["rows","things","thing"] rfl rfl (by decide +kernel)) (YB (K:=K) c rfl (pv 0)) (λ_ _ _ _=>⟨(aZ (i:=0) (by decide +kernel:(["row","things","rows","thing"]:List Str).Nodup) rfl (Or.inl rfl)),dw,(Yj hu (pv 1) (aQ pO hr rfl (ag (aF (VM (K:=K) c rfl) (pv 2) (pv 3) (λ_ _=>rfl)) (ag (pv 0) ah))) ⟨rfl,rfl,rfl,rfl⟩)⟩)) ah)))),?_⟩;refine⟨_,rfl,a,rfl,⟨_,hq⟩,λD hD=>fu (λj=>(cS kvs (eS n λb=>R t b&&R j b)).getD .non) (aaf hq) hD (cQ (by rw[hrow.len];exact hn)) (λi H2 Kt hi hs hk=>?_) (λH' hs hl=>?_)⟩
  ·rw[hrow.len]at hi
   obtain⟨bt,t1,t2⟩:=hrow.get ht;obtain⟨bi,i1,i2⟩:=hrow.get hi;refine⟨_,rfl,d,rfl,.inr ⟨kvs,.inl (hs _ _ hd)⟩,?_⟩;refine⟨_,rfl,_,rfl,a,us,_,_,rfl,rfl,hs.sq hq,aS t1,_,rfl,⟨bt,bi,n,R t,R i,by rw[aL,i1];rfl,hs _ _ t2,hs _ _ i2,hn⟩,λv H3 s3 hv=>?_⟩;obtain⟨b,rfl,q1,q2⟩:=hv bt bi n (R t) (R i) (by rw[aL,i1];rfl) (hs _ _ t2) (hs _ _ i2);exact⟨_,oK.t (s3 _ _ (hs _ _ hd)) (Px q2),hk _ s3⟩
  ·refine⟨D,_,rfl,.inl ⟨ai.of hl,λl hl'=>?_⟩⟩
   rw[hrow.len];exact k l _ (hs.trans (Same.put hl')) (hs.free hl') aA
abbrev uT:Stmt:=top 23
theorem Nk:aU ["rows","things","thing","row"] ["rows"] (aB uT):=⟨rfl,rfl,rfl,by decide +kernel,rfl,by decide +kernel,by decide +kernel⟩
noncomputable def vh(K:W.Frag):Sp:=λvs H Q _=>∃(c:Bool) (a n:Nat) (us:List V) (R:Nat->Nat->Bool),vs = [.ref a]/\Sq c K H a us/\iH H n R us/\n<=24/\(∀i j,i<n->j<n->(∀b,b<n->R i b=R j b)->i=j) /\
 ∀v H',Same H H'->TT H' v n (fC n R)->Q v H'
theorem La (F:aR K "ends_of" "ends_of" uT f fd) (T:Txt mg) (pE:au P w K mg base "ends_with" ["rows","things","thing"] 2 (vi K)):aM P w K mg base aN 3 f fd ["rows"] (vh K):=by
 refine F.ok Nk (λvs H Q E h=>?_) (λcdv A outer s H vs Q E hr h=>?_)
 ·obtain⟨c,a,n,us,R,rfl,_⟩:=h
  rfl
 ·obtain⟨c,a,n,us,R,rfl,hq,hrow,hn,dis,k⟩:=h
  have nd:=Nk.nd;have hu:=Jm hr;have hlen:=hrow.len;refine⟨_,(ay (aV (i:=1) nd rfl (Or.inr rfl) Ym)
   (ay (cD bT rfl (Bo (K:=K) c rfl rfl T.enumerate (ag (pv 0) ah)) (uE (K:=K) (i:=2) (j:=3) rfl rfl nd rfl rfl rfl rfl)
   (az (YJ hu (pv 1) (pv 3) (pv 2) rfl)))
   (az (aX (eA (iJ (K:=K) rfl) rfl T.tuple iI (ag (dc (own:=["thing"]) (fr:=[("rows", 0),("things", 1)]) rfl (bQ (aB uT) ["rows","things","thing","row"] rfl rfl (by decide +kernel)) (dI rfl T.range (ag (cL (d7 (K:=K) rfl) rfl T.len eL (ag (pv 0) ah)) ah)) (λ_ _ _ _=>⟨(aZ (i:=0) (by decide +kernel:(["thing","rows","things"]:List Str).Nodup) rfl (Or.inl rfl)),dw,(aQ pE hr rfl (ag (pv 1) (ag (pv 2) (ag (pv 0) ah (a9 nofun)) (a9 nofun)) (a9 nofun)))⟩)) ah)))))),?_⟩
  intro d hd;refine⟨_,rfl,a,us,rfl,(Same.put hd).sq hq,Ia (K:=K) (c:=c) (l:=a) (xs:=us) (λi σ H2=>∃v2 v3,σ = [some (.ref a),some (.ref d),v2,v3]/\Same H H2/\H2 d=some (.dT (fV n R i))/\i<=n)
   ⟨none,none,rfl,Same.put hd,aA,bM _⟩ (λi σ H2 ⟨_,_,_,s2,_⟩=>s2.sq hq) ?_ ?_⟩
  ·rintro i x σ H2 t hx ht ⟨v2,v3,rfl,s2,h2,hi⟩
   have hin:i<n:=by rw[<- hlen];exact(bp.mp hx).1
   obtain⟨bi,i1,i2⟩:=hrow.get hin;rw[i1]at hx;cases hx;refine⟨t,_,rfl,ax.of aA,rfl,_,_,rfl,_,_,rfl,rfl,?_⟩;have hdt:d≠t:=λe=>by rw[<- e,h2]at ht;cases ht
   have h2':(upd H2 t (.tup [.int i,.ref bi])) d=some (.dT (fV n R i)):=by rw[aG hdt];exact h2
   have i3:(upd H2 t (.tup [.int i,.ref bi])) bi=some (.tup (bz n (R i))):=Same.put ht _ _ (s2 _ _ i2);have hnone:cS (fV n R i) (eS n (R i))=none:=Ah λc' hc' e=>by have:=dis c' i (by omega) hin (Ae e);omega
   refine⟨_,rfl,_,rfl,_,rfl,d,_,rfl,oM.t h2' (Px i3) (by rw[J7];exact cQ (by omega)),?_⟩;refine⟨_,_,rfl,?_,?_,hin⟩
   ·intro b o e
    rw[aG (λz=>by rw[z,hd]at e;cases e)];exact Same.put ht _ _ (s2 _ _ e)
   ·rw[aA,YS _ hnone]
    rfl
  ·rintro σ H2 ⟨v2,v3,rfl,s2,h2,hi⟩
   rw[hlen]at h2;have hq2:ai K H2 a us\/ax K H2 a us:=by
    have:=s2.sq hq;cases c with
    |true=>exact .inl this
    |false=>exact .inr this
   refine⟨_,rfl,a,us,rfl,hq2,us.length,rfl,(bI (by omega)).1,(bI (by omega)).2,λD hD=>?_⟩;rw[hlen];refine su (λi v H=>∃b,v = .ref b/\b≠D/\H b=some (.tup ((List.range n).map (fC n R i)))) src_range hD (cQ (by simpa using hn)) (λi v H H' s ⟨b,e,hb,q⟩=>⟨b,e,hb,s _ _ hb q⟩) (λi H3 Kt hi hs hy hk=>?_) (λH3 ys hs hl hp=>?_)
   ·have hin:i<n:=by simpa using hi
    obtain⟨zs,hz⟩:=hy;refine⟨_,rfl,_,rfl,_,rfl,c,a,d,i,n,us,R,_,by simp,hs.sq (s2.sq hq),(hrow.same s2).same hs,hs _ _ h2,hin,hn,λl H4 s4 h4 q4=>?_⟩;exact hk _ H4 s4 ⟨l,rfl,(λe=>by rw[e,hz]at h4;cases h4),q4⟩
   ·refine⟨D,_,rfl,.inl ⟨ai.of hl,λl hl'=>?_⟩⟩
    have en:((n:Int)).toNat=n:=ck n;rw[en]at hp;exact k _ _ ((s2.trans hs).trans (Same.put hl')) ⟨l,ys,rfl,aA,Paired.di hp λi u ⟨b,e,_,q⟩=>⟨b,e,Same.put hl' _ _ q⟩⟩
end
theorem fI{α:Type}{n:Nat}{g:Nat->α}{j:Nat}(h:j<n):((List.range n).map g)[j]?=some (g j):=by simp[h]
section
variable {P:Program} {w:World} {K:W.Frag} {mg:Str->Option Value} {base:Heap} {f:Addr} {fd:FuncData}
abbrev Cj:Stmt:=top 24
theorem N4:aU ["count","joins","meets","two"] ["count","joins","meets"] (aB Cj):=⟨rfl,rfl,rfl,by decide +kernel,rfl,by decide +kernel,by decide +kernel⟩
noncomputable def vB:Sp:=λvs H Q _=>∃(n:Nat) (v u:V) (g g':Nat->Nat->V),vs = [.int n,v,u]/\TT H v n g/\TT H u n g'/\n<=24/\(∀a b,a<n->b<n->g a b≠.non/\g' a b≠.non)/\∀H',Same H H'->Q .non H'
theorem Lj (F:aR K "need_ends" "need_ends" Cj f fd) (T:Txt mg) (ju:au P w K mg base "twos" ["count"] 1 qT):aM P w K mg base aN 2 f fd ["count","joins","meets"] vB:=by
 refine F.ok N4 (λvs H Q E h=>?_) (λcdv A outer s H vs Q E hr h=>?_)
 ·obtain⟨n,v,u,g,g',rfl,_⟩:=h
  rfl
 ·obtain⟨n,v,u,g,g',rfl,ht,ht',hn,ha,k⟩:=h
  have nd:=N4.nd;refine⟨_,(az (cD bT rfl (eB (K:=K) rfl (aQ ju hr rfl (ag (pv 0) ah))) (aZ (i:=3) nd rfl (Or.inl rfl))
   (az (cM (PW.pt (qH (bW Bg (aF (aW (K:=K) rfl) (aF (aW (K:=K) rfl) (pv 1) (aF (aW (K:=K) rfl) (pv 3) aD (λ_ _=>rfl)) (λ_ _=>rfl)) (aF (aW (K:=K) rfl) (pv 3) aD (λ_ _=>rfl)) (λ_ _=>rfl)) uD (bL _)) (qI (bW Bg (aF (aW (K:=K) rfl) (aF (aW (K:=K) rfl) (pv 2) (aF (aW (K:=K) rfl) (pv 3) aD (λ_ _=>rfl)) (λ_ _=>rfl)) (aF (aW (K:=K) rfl) (pv 3) aD (λ_ _=>rfl)) (λ_ _=>rfl)) uD (bL _))))) (az lL) cU)))),?_⟩
  refine⟨_,rfl,n,rfl,hn,λl us H1 s1 hl hp=>⟨l,rfl,⟨_,ai.of hl⟩,jE (K:=K) (a:=l) (xs:=us) (λi σ H2=>∃v2,σ = [some (.int n),some v,some u,v2]/\Same H1 H2) ⟨none,rfl,Same.refl _⟩ (λi σ H2 _ ⟨_,_,s2⟩=>ai.of (s2 _ _ hl)) ?_ ?_⟩⟩
  ·rintro i y σ H2 hi ⟨v2,rfl,s2⟩
   obtain⟨p,hp1,t,rfl,htt⟩:=kC hp hi;obtain⟨b1,b2⟩:=KC (cu hp1);have hp0:p.1<n:=by omega
   obtain⟨a,vs,r1,rfl,q1,q2,q3,q4⟩:=(ht.same (s1.trans s2)).row hp0;obtain⟨a',vs',r2,rfl,uH,Y1,Bt,Bu⟩:=(ht'.same (s1.trans s2)).row hp0;have jI:=s2 _ _ htt;obtain⟨n1,n2⟩:=ha _ _ hp0 b2;refine⟨_,rfl,_,rfl,t,_,0,_,rfl,rfl,ax.of jI,rfl,a,_,_,_,rfl,rfl,ax.of q1,aS q3,_,rfl,t,_,1,_,rfl,rfl,ax.of jI,rfl,r1,_,_,_,rfl,rfl,ax.of q4,pA b2,rfl,_,rfl,?_⟩;rw[dr n1];refine cI ?_;refine⟨_,rfl,_,rfl,t,_,0,_,rfl,rfl,ax.of jI,rfl,a',_,_,_,rfl,rfl,ax.of uH,aS Bt,_,rfl,t,_,1,_,rfl,rfl,ax.of jI,rfl,r2,_,_,_,rfl,rfl,ax.of Bu,pA b2,rfl,_,rfl,?_⟩;rw[dr n2];refine cI ?_;exact⟨_,rfl,s2⟩
  ·rintro σ H2 ⟨v2,rfl,s2⟩
   exact k _ (s1.trans s2)
abbrev u6:Stmt:=top 25
theorem N_:aU ["count","reach","told","low"] ["count","reach"] (aB u6):=⟨rfl,rfl,rfl,by decide +kernel,rfl,by decide +kernel,by decide +kernel⟩
noncomputable def j9(H:Hp)(v:V)(ps:List (Nat × Nat)):Prop:=∃a us,v = .ref a/\H a=some (.tup us)/\Paired (eU H) ps us
theorem j9.same{H H':Hp}{v:V}{ps:List (Nat × Nat)}(s:Same H H')(h:j9 H v ps):j9 H' v ps:=let⟨a,us,e,q,r⟩:=h;⟨a,us,e,s _ _ q,kD.same s r⟩
noncomputable def vG:Sp:=λvs H Q _=>∃(n:Nat) (v:V) (R:Nat->Nat->Bool),vs = [.int n,v]/\TT H v n (pB R)/\n<=24/\∀u H',Same H H'->j9 H' u (eV n R)->Q u H'
theorem Lv (F:aR K "pairs_of" "pairs_of" u6 f fd) (T:Txt mg):aM P w K mg base aN 1 f fd ["count","reach"] vG:=by
 refine F.ok N_ (λvs H Q E h=>?_) (λcdv A outer s H vs Q E hr h=>?_)
 ·obtain⟨n,v,R,rfl,_⟩:=h
  rfl
 ·obtain⟨n,v,R,rfl,ht,hn,k⟩:=h
  have nd:=N_.nd;have en:((n:Int)).toNat=n:=ck n;refine⟨_,(ay (aV (i:=2) nd rfl (Or.inl rfl) (ic ah))
   (ay (cD bT rfl (dI rfl T.range (ag (pv 0) ah)) (aZ (i:=3) nd rfl (Or.inr rfl))
   (az (dJ (kE (K:=K) rfl mL xm FJ As (pv 2) (ag (dc (own:=["high"]) (fr:=[("low", 3),("reach", 1)]) rfl (bQ (aB u6) ["count","reach","told","low"] rfl rfl (by decide +kernel)) (dI rfl T.range (ag (pv 0) ah)) (λ_ _ _ _=>⟨(aZ (i:=0) (by decide +kernel:(["high","low","reach"]:List Str).Nodup) rfl (Or.inl rfl)),(lK (PW.pt (qF (bW kB (pv 1) (pv 0) (bL _)) (qG (fJ (aF (aW (K:=K) rfl) (aF (aW (K:=K) rfl) (pv 2) (pv 1) (λ_ _=>rfl)) (pv 0) (λ_ _=>rfl))))))),(ie (ag (pv 1) (ag (pv 0) ah)))⟩)) ah)))))
   (az (aX (eA (iJ (K:=K) rfl) rfl T.tuple iI (ag (pv 2) ah)))))),?_⟩
  refine⟨by show 0<=sizeLine;decide,λL hL=>?_⟩;refine⟨_,rfl,n,rfl,(bI (by omega)).1,(bI (by omega)).2,hZ (lo:=0) (n:=((n:Int)).toNat) (λi σ H2=>∃v3 us,σ = [some (.int n),some v,some (.ref L),v3]/\Same H H2/\H2 L=some (.lst us)/\us.length<=24*i /\
   Paired (eU H2) ((List.range i).flatMap λl=>((List.range n).filter λh=>!decide (l=h)&&R l h).map λh=>(l,h)) us) ⟨none,[],rfl,Same.put hL,aA,by simp,.nil⟩ ?_ ?_⟩
  ·rintro i σ H2 hi ⟨v3,us,rfl,s2,hl,hlen,hp⟩
   have hin:i<n:=by omega
   refine⟨_,rfl,.inl ⟨rfl,_,ai.of hl⟩,?_⟩;refine⟨_,rfl,n,rfl,(bI (by omega)).1,(bI (by omega)).2,λD hD=>?_⟩;refine sv (λj=>!decide (i=j)&&R i j) (λj v H=>∃t,v = .ref t/\t≠D/\H t=some (.tup [.int i,.int (j:Int)])) src_range hD (cQ (by omega)) (λj v H H' s ⟨b,e,hb,q⟩=>⟨b,e,hb,s _ _ hb q⟩) (λj H3 Kt Kf hj hs hy hkt hkf=>?_) (λH3 ys hs hl3 hp3=>?_)
   ·have hjn:j<n:=by omega
    obtain⟨zs,hz⟩:=hy;obtain⟨a,vs,r1,rfl,q1,q2,q3,q4⟩:=(ht.same (s2.trans hs)).row hin;refine⟨_,rfl,_,rfl,rfl,_,rfl,?_⟩;have ed:(!decide (V.int (0+(i:Int))=V.int (0+(j:Int)))) = !decide (i=j):=by
     congr 1
     rw[j5];exact Hb
    rw[ed];refine bO (λh=>?_) (λh=>?_)
    ·refine⟨_,rfl,_,rfl,a,_,_,_,rfl,rfl,ax.of q1,at0 q3,_,rfl,r1,_,_,_,rfl,rfl,ax.of q4,at0 (fI hjn),_,rfl,bO (λh'=>?_) (λh'=>?_)⟩
     ·refine⟨_,rfl,_,rfl,by show 2<=sizeLine;decide,λt ht=>?_⟩
      refine hkt _ _ (by rw[h,h',lZ]) (Same.put ht) ⟨t,rfl,(λe=>by rw[e,hz]at ht;cases ht),?_⟩;rw[aA,j5,j5]
     ·exact hkf _ (by rw[h,lZ];simpa using h') (Same.refl _)
    ·refine cI ?_
     have h2:(!decide (i=j))=false:=by simpa using h
     exact hkf _ (by rw[h2,lY]) (Same.refl _)
   ·have hDL:D≠L:=λe=>by rw[e,hl]at hD;cases hD
    rw[en]at hp3;have Je:ys.length<=n:=by
     have h1:=dh hp3;have h2:=iw (λj=>!decide (i=j)&&R i j) (List.range n);rw[d4]at h2;omega
    refine⟨L,D,us,ys,rfl,rfl,hs _ _ hl,hl3,by have:=@gO 100000 (by omega);omega,?_⟩;refine⟨_,us++ys,rfl,?_,aA,by rw[de];omega,?_⟩
    ·intro b o e
     rw[aG (λz=>by rw[z,hL]at e;cases e)];exact hs _ _ (s2 _ _ e)
    ·rw[Bv]
     refine uA (hs _ _ hl) (ux (kD.same hs hp) (uz ?_));exact Paired.di hp3 λj v ⟨t,e,_,q⟩=>⟨t,e,q⟩
  ·rintro σ H2 ⟨v2,us,rfl,s2,hl,hlen,hp⟩
   rw[en]at hp;refine⟨_,rfl,L,us,rfl,.inl ⟨ai.of hl,λl hl'=>?_⟩⟩;exact k _ _ (s2.trans (Same.put hl')) ⟨l,us,rfl,aA,kD.same (Same.put hl') hp⟩
end
structure Good (n:Nat) (R:Nat->Nat->Bool):Prop where
 refl:∀a,a<n->R a a=true
 anti:∀a b,a<n->b<n->R a b=true->R b a=true->a=b
 join:∀a b,a<n->b<n->∃c,c<n/\∀x,x<n->R c x=(R a x&&R b x)
 meet:∀a b,a<n->b<n->∃c,c<n/\∀x,x<n->R x c=(R x a&&R x b)
theorem Good.dis{n:Nat}{R:Nat->Nat->Bool}(G:Good n R):∀i j,i<n->j<n->(∀b,b<n->R i b=R j b)->i=j:=λi j hi hj h =>
 G.anti i j hi hj (by rw[h j hj];exact G.refl j hj) (by rw[<- h i hi];exact G.refl i hi)
theorem Good.jx{n:Nat}{R:Nat->Nat->Bool}(G:Good n R):∀i j,i<n->j<n->(∀b,b<n->R b i=R b j)->i=j:=λi j hi hj h =>
 G.anti i j hi hj (by rw[<- h i hi];exact G.refl i hi) (by rw[h j hj];exact G.refl j hj)
noncomputable def aJ (n:Nat) (vp vr vj vm:V):List (Str × V):=bh "meets" vm (bh "joins" vj (bh "reach" vr (bh "pairs" vp (bh "count" (.int n) []))))
noncomputable def dg(C:Addr)(H:Hp)(p n:Nat)(R:Nat->Nat->Bool):Prop:=∃dx vp vr vj vm,H p=some (.ins C dx (aJ n vp vr vj vm))/\j9 H vp (eV n R)/\TT H vr n (pB R)/\TT H vj n (fC n R)/\TT H vm n (fC n λa b=>R b a)
structure dk (K:W.Frag) (C:Addr):Prop where
 cl:Cls K C
 nC:gW K C "count"
 nP:gW K C "pairs"
 nR:gW K C "reach"
 nJ:gW K C "joins"
 nM:gW K C "meets"
theorem TT.ins{H:Hp}{p C dx:Addr}{fs:List (Str × V)}{o:HO}(hp:H p=some (.ins C dx fs)){v:V}{n:Nat}{g:Nat->Nat->V}(h:TT H v n g):TT (upd H p o) v n g:=
 let⟨a,vs,e,q,r⟩:=h
 ⟨a,vs,e,by rw[aG (jL q hp (λz=>nomatch z))];exact q,Paired.di r λ_ _ ⟨b,e,q⟩=>⟨b,e,by rw[aG (jL q hp (λz=>nomatch z))];exact q⟩⟩
theorem j9.ins{H:Hp}{p C dx:Addr}{fs:List (Str × V)}{o:HO}(hp:H p=some (.ins C dx fs)){v:V}{ps:List (Nat × Nat)}(h:j9 H v ps):j9 (upd H p o) v ps:=
 let⟨a,vs,e,q,r⟩:=h
 ⟨a,vs,e,by rw[aG (jL q hp (λz=>nomatch z))];exact q,Paired.di r λ_ _ ⟨b,e,q⟩=>⟨b,e,by rw[aG (jL q hp (λz=>nomatch z))];exact q⟩⟩
section
variable {P:Program} {w:World} {K:W.Frag} {mg:Str->Option Value} {base:Heap} {f:Addr} {fd:FuncData}
abbrev uP:Stmt:=inClass (top 26) 0
theorem M':aU ["self","count","pairs","reach","joins","meets"] ["self","count","pairs"] (aB uP):=⟨rfl,rfl,rfl,by decide +kernel,rfl,by decide +kernel,by decide +kernel⟩
noncomputable def vq(K:W.Frag)(C:Addr):Sp:=λvs H Q _=>∃(p dx n a:Nat) (ps:List (Nat × Nat)),vs = [.ref p,.int n,.ref a]/\H p=some (.ins C dx [])/\mI K H a ps/\1<=n/\n<=24/\(∀p∈ps,p.1<n/\p.2<n)/\(∀R,Ev.oJ n ps R->Good n R) /\
 ∀H' R,(∀b o,H b=some o->b≠p->H' b=some o)->Ev.oJ n ps R->dg C H' p n R->Q .non H'
theorem Lc {C:Addr} (F:aR K "__init__" "Order.__init__" uP f fd) (T:Txt mg) (TC:dk K C)
  (pH:au P w K mg base "need_count" ["count"] 2 vA) (pK:au P w K mg base "need_pairs" ["count","pairs"] 4 (vD K)) (pN:au P w K mg base "reach_of" ["count","pairs"] 2 (vH K))
  (pJ:au P w K mg base "need_one_way" ["count","reach"] 2 vC) (mW:au P w K mg base "ends_of" ["rows"] 3 (vh K)) (pC:au P w K mg base "column" ["rows","place"] 1 ve)
  (pI:au P w K mg base "need_ends" ["count","joins","meets"] 2 vB) (pM:au P w K mg base "pairs_of" ["count","reach"] 1 vG):aM P w K mg base aN 5 f fd ["self","count","pairs"] (vq K C):=by
 refine F.ok M' (λvs H Q E h=>?_) (λcdv A outer s H vs Q E hr h=>?_)
 ·obtain⟨p,dx,n,a,ps,rfl,_⟩:=h
  rfl
 ·obtain⟨p,dx,n,a,ps,rfl,hp,hps,h1,hn,hb,hg,k⟩:=h
  have nd:=M'.nd;have en:((n:Int)).toNat=n:=ck n;refine⟨_,(ay (dJ (aQ pH hr rfl (ag (pv 1) ah)))
   (ay (dJ (aQ pK hr rfl (ag (pv 1) (ag (pv 2) ah))))
   (ay (aV (i:=3) nd rfl (Or.inr rfl) (aQ pN hr rfl (ag (pv 1) (ag (pv 2) ah))))
   (ay (dJ (aQ pJ hr rfl (ag (pv 1) (ag (pv 3) ah))))
   (ay (aV (i:=4) nd rfl (Or.inl rfl) (aQ mW hr rfl (ag (pv 3) ah)))
   (ay (aV (i:=5) nd rfl (Or.inl rfl) (aQ mW hr rfl (ag (dc (own:=["thing"]) (fr:=[("reach", 3)]) rfl (bQ (aB uP) ["self","count","pairs","reach","joins","meets"] rfl rfl (by decide +kernel)) (dI rfl T.range (ag (pv 1) ah)) (λ_ _ _ _=>⟨(aZ (i:=0) (by decide +kernel:(["thing","reach"]:List Str).Nodup) rfl (Or.inl rfl)),dw,(aQ pC hr rfl (ag (pv 1) (ag (pv 0) ah)))⟩)) ah)))
   (ay (dJ (aQ pI hr rfl (ag (pv 1) (ag (pv 4) (ag (pv 5) ah (a9 nofun)) (a9 nofun)) (a9 nofun))))
   (ay (qB (K:=K) rfl (pv 0) (pv 1) rfl)
   (ay (qB (K:=K) rfl (pv 0) (aQ pM hr rfl (ag (pv 1) (ag (pv 3) ah))) rfl)
   (ay (qB (K:=K) rfl (pv 0) (pv 3) rfl)
   (ay (qB (K:=K) rfl (pv 0) (pv 4) rfl)
   (az (qB (K:=K) rfl (pv 0) (pv 5) rfl))))))))))))),?_⟩
  refine⟨_,rfl,⟨n,rfl,by omega,by omega⟩,λv1 H1 s1 _=>?_⟩;refine⟨_,rfl,_,rfl,⟨n,a,ps,rfl,hps.same s1,hb⟩,λv2 H2 s2 _=>?_⟩;have dA:=s1.trans s2;refine⟨_,rfl,_,rfl,n,a,ps,rfl,hps.same dA,hn,hb,λvr H3 R s3 hC ht=>?_⟩;have G:=hg R hC;refine⟨_,rfl,_,rfl,n,vr,R,rfl,ht,hn,λx y hx hy ⟨h1,h2⟩=>absurd (G.anti x y (by omega) hy h1 h2) (by omega),λH4 s4=>?_⟩;obtain⟨ra,us,rfl,q1,q2⟩:=id (ht.same s4);refine⟨_,rfl,false,ra,n,us,R,rfl,ax.of q1,q2,hn,G.dis,λvj H5 s5 htj=>?_⟩;refine⟨_,rfl,n,rfl,(bI (by omega)).1,(bI (by omega)).2,λD hD=>?_⟩;refine su (λi v H=>∃b,v = .ref b/\b≠D/\H b=some (.tup (bz n λj=>R j i))) src_range hD (cQ (by omega)) (λi v H H' s ⟨b,e,hb,q⟩=>⟨b,e,hb,s _ _ hb q⟩) (λi H6 Kt hi hs hy hk=>?_) (λH6 ys hs hl Jf=>?_)
  ·obtain⟨zs,hz⟩:=hy
   have hin:i<n:=by omega
   have Ji:=((ht.same s4).same s5).same hs;refine⟨_,rfl,_,rfl,⟨_,n,i,_,by simp,Ji,hin,hn⟩,λv H7 s7 hv=>?_⟩;obtain⟨b,rfl,b1,b2⟩:=hv _ n i _ (by simp) Ji hin;exact hk _ H7 s7 ⟨b,rfl,(λe=>by rw[e,hz]at b1;cases b1),b2⟩
  rw[en]at Jf;have Zy:iH H6 n (λa b=>R b a) ys:=Paired.di Jf λi u ⟨b,e,_,q⟩=>⟨b,e,q⟩;refine⟨true,D,n,ys,_,rfl,ai.of hl,Zy,hn,G.jx,λvm H7 s7 Jk=>?_⟩;have Jj:=(htj.same hs).same s7;have BJ:Same H H7:=((((dA.trans s3).trans s4).trans s5).trans hs).trans s7;refine⟨_,rfl,_,rfl,_,rfl,n,vj,vm,_,_,rfl,Jj,Jk,hn,λx y hx hy=>?_,λH8 s8=>?_⟩
  ·obtain⟨c,hc,hj⟩:=G.join x y hx hy
   obtain⟨d,hd,hm⟩:=G.meet x y hx hy;rw[fD G.dis hc hj,fD G.jx hd hm];exact⟨(λz=>nomatch z),(λz=>nomatch z)⟩
  have qL:=BJ.trans s8;have hp8:H8 p=some (.ins C dx []):=qL _ _ hp;have Jl:TT H8 (.ref ra) n (pB R):=((((ht.same s4).same s5).same hs).same s7).same s8;refine⟨_,rfl,_,rfl,p,C,dx,[],rfl,hp8,TC.cl,TC.nC,by show 0<1000;decide,?_⟩;refine⟨_,rfl,_,rfl,n,_,R,rfl,Jl.ins hp8,hn,λvp H9 s9 hpp=>?_⟩;have hp9:=s9 _ _ (aA (H:=H8) (a:=p) (o:=.ins C dx (bh "count" (.int n) [])));have Vh:=(Jl.ins hp8 (o:=.ins C dx (bh "count" (.int n) []))).same s9;have Ve:=((Jj.same s8).ins hp8 (o:=.ins C dx (bh "count" (.int n) []))).same s9;have Vf:=((Jk.same s8).ins hp8 (o:=.ins C dx (bh "count" (.int n) []))).same s9;have l1:(bh "count" (V.int n) []).length<=1:=oa _ _ _;have l2:(bh "pairs" vp (bh "count" (V.int n) [])).length<=2:=cp (oa _ _ _) (by omega);have l3:(bh "reach" (V.ref ra) (bh "pairs" vp (bh "count" (V.int n) []))).length<=3:=cp (oa _ _ _) (by omega);have l4:(bh "joins" vj (bh "reach" (V.ref ra) (bh "pairs" vp (bh "count" (V.int n) [])))).length<=4:=cp (oa _ _ _) (by omega);refine⟨_,rfl,p,C,dx,_,rfl,hp9,TC.cl,TC.nP,by omega,?_⟩;refine⟨_,rfl,_,rfl,p,C,dx,_,rfl,aA,TC.cl,TC.nR,by omega,?_⟩;refine⟨_,rfl,_,rfl,p,C,dx,_,rfl,aA,TC.cl,TC.nJ,by omega,?_⟩;refine⟨_,rfl,_,rfl,p,C,dx,_,rfl,aA,TC.cl,TC.nM,by omega,?_⟩;rw[DK,DK,DK];refine k _ R (λb o e IK=>?_) hC ⟨dx,vp,_,vj,vm,aA,hpp.ins hp9,Vh.ins hp9,Ve.ins hp9,Vf.ins hp9⟩;rw[aG IK];refine s9 _ _ ?_;rw[aG IK];exact qL _ _ e
end
structure oI (P:Program) (w:World) (K:W.Frag) (mg:Str->Option Value) (base:Heap) (C:Addr) (x:Str) (ps:List Str) (k:Nat) (sp:Sp):Prop where
 ex:∃(f:Addr) (fd:FuncData),aM P w K mg base aN k f fd ps sp/\Mk K C f/\mg x=some (.ref C)/\Binds K fd ps []
section
variable {X:Cx} {C:Addr} {x:Str} {ps:List Str} {k k':Nat} {sp:Sp} {e:Expr} {es:List Expr} {t:TA} {p pos:Pos}
theorem Yp (c:oI X.prog X.w X.K X.mg X.base C x ps k sp) (hr:bj k' X.A) (hg:Gl X x) (ha:PA X (e::es) t) (hk:k+1<=k':=by decide) (hdb:(x==("__debug__" : Str))=false:=by decide)
  (he:starEach (e::es) X.env=(false,eval e X.env)::starEach es X.env:=by rfl) (hpl:(backTo pos (starEach es X.env)).any (·.1)=false:=by rfl):PE X (.Call (.Name x p) (e::es) [] pos) (Pk C sp [] E0 t):=by
 obtain⟨f,fd,F,M,hm,b⟩:=c.ex;exact Yo M F (hr.mono hk) hg hm b .nil qq ha hdb he hpl
end
structure aE (K:W.Frag) (x:Str) (st:Stmt):Prop where
 ex:∃(f:Addr) (fd:FuncData),W.nsIn K mainGlobals x=some (some (.ref f))/\aR K x x st f fd
theorem aE.mk'{K:W.Frag}{x:Str}{st:Stmt}{f:Addr}{oc:Value}{od an:Option Addr}{osl:Array (Option Value)}{kV doc pm cdv ct:Value}(a:W.nsIn K mainGlobals x=some (some (.ref f)))
  (l:K.lookup f=some ⟨oc,od,.func (W.fnOf x x (hV st) (fA st) (aB st) .none kV doc pm an cdv ct),osl⟩) (c:W.codeIn K cdv x=true) (k:W.keepIn K (.ref f)=true):aE K x st:=⟨f,_,a,zt l c k⟩
abbrev Ef (x:Str) (st:Stmt) (ps:List Str):Prop:=∀(kV doc pm:Value) (an:Option Addr) (cdv ct:Value) (us:List Value),us.length=ps.length->bindArgs (W.fnOf x x (hV st) (fA st) (aB st) .none kV doc pm an cdv ct) ⟨us,[]⟩=pure (ps.zip us)
theorem aE.cal{P:Program}{w:World}{K:W.Frag}{mg:Str->Option Value}{base h:Heap}{x:Str}{st:Stmt}{ps:List Str}{k:Nat}{sp:Sp}(A:aE K x st)(X:K.In h)(G:h.Ns mainGlobals mg)(hb:Ef x st ps)(ok:∀{f:Addr} {fd:FuncData},aR K x x st f fd->aM P w K mg base aN k f fd ps sp):au P w K mg base x ps k sp:=by
 obtain⟨f,fd,a,F⟩:=A.ex;exact⟨f,fd,ok F,W.mg_of X G a,F.kp,F.binds hb⟩
structure ClsAt (K:W.Frag) (x qual:Str) (st:Stmt) (C:Addr):Prop where
 ns:W.nsIn K mainGlobals x=some (some (.ref C))
 cl:Cls K C
 ex:∃(f:Addr) (fd:FuncData),aR K "__init__" qual st f fd/\Mk K C f
theorem ClsAt.mk'{K:W.Frag}{x qual:Str}{st:Stmt}{C f:Addr}{oc:Value}{od an:Option Addr}{osl:Array (Option Value)}{kV doc pm cdv ct:Value}(ns:W.nsIn K mainGlobals x=some (some (.ref C)))
  (pg:W.plainGet K C Str.empty=true) (hd:W.hasDictIn K C=true) (po:W.plainOver K C=true) (sa:W.findIn K (.ref C) "__setattr__" = some (some (.builtin "object.__setattr__"))) (mk:W.makesIn K C=true) (kc:W.keepIn K (.ref C)=true)
  (a:W.findIn K (.ref C) "__init__" = some (some (.ref f))) (i:W.isFn K (.ref f)=true)
  (l:K.lookup f=some ⟨oc,od,.func (W.fnOf "__init__" qual (hV st) (fA st) (aB st) .none kV doc pm an cdv ct),osl⟩) (c:W.codeIn K cdv qual=true) (k:W.keepIn K (.ref f)=true):ClsAt K x qual st C:=
 ⟨ns,⟨pg,hd,po,sa⟩,f,_,zt l c k,⟨mk,a,i,kc⟩⟩
theorem ClsAt.cal{P:Program}{w:World}{K:W.Frag}{mg:Str->Option Value}{base h:Heap}{x qual:Str}{st:Stmt}{C:Addr}{ps:List Str}{k:Nat}{sp:Sp}(A:ClsAt K x qual st C)(X:K.In h)(G:h.Ns mainGlobals mg)
  (hb:∀(kV doc pm:Value) (an:Option Addr) (cdv ct:Value) (us:List Value),us.length=ps.length->bindArgs (W.fnOf "__init__" qual (hV st) (fA st) (aB st) .none kV doc pm an cdv ct) ⟨us,[]⟩=pure (ps.zip us))
  (ok:∀{f:Addr} {fd:FuncData},aR K "__init__" qual st f fd->aM P w K mg base aN k f fd ps sp):oI P w K mg base C x ps k sp:=by
 obtain⟨f,fd,F,M⟩:=A.ex;exact⟨f,fd,ok F,M,W.mg_of X G A.ns,F.binds hb⟩
structure mQ (K:W.Frag):Prop where
 len:W.nsIn K mainGlobals "len" = some none
 range:W.nsIn K mainGlobals "range" = some none
 zip:W.nsIn K mainGlobals "zip" = some none
 enumerate:W.nsIn K mainGlobals "enumerate" = some none
 tuple:W.nsIn K mainGlobals "tuple" = some none
 list:W.nsIn K mainGlobals "list" = some none
 int:W.nsIn K mainGlobals "int" = some none
 bool:W.nsIn K mainGlobals "bool" = some none
 str:W.nsIn K mainGlobals "str" = some none
 isinstance:W.nsIn K mainGlobals "isinstance" = some none
 sum:W.nsIn K mainGlobals "sum" = some none
 any:W.nsIn K mainGlobals "any" = some none
 all:W.nsIn K mainGlobals "all" = some none
 sorted:W.nsIn K mainGlobals "sorted" = some none
 min:W.nsIn K mainGlobals "min" = some none
 max:W.nsIn K mainGlobals "max" = some none
 most:∃t,W.nsIn K mainGlobals "MOST_THINGS" = some (some (.int 24 t))
theorem mQ.txt{K:W.Frag}{mg:Str->Option Value}{h:Heap}(A:mQ K)(X:K.In h)(G:h.Ns mainGlobals mg):Txt mg:=
 ⟨W.mg_none_of X G A.len,W.mg_none_of X G A.range,W.mg_none_of X G A.zip,W.mg_none_of X G A.enumerate,W.mg_none_of X G A.tuple,W.mg_none_of X G A.list,W.mg_none_of X G A.int,W.mg_none_of X G A.bool,W.mg_none_of X G A.str,
  W.mg_none_of X G A.isinstance,W.mg_none_of X G A.sum,W.mg_none_of X G A.any,W.mg_none_of X G A.all,W.mg_none_of X G A.sorted,W.mg_none_of X G A.min,W.mg_none_of X G A.max,let⟨t,e⟩:=A.most;⟨t,W.mg_of X G e⟩⟩
theorem mQ.mk' {K:W.Frag} {t:Tok} (l1:W.nsIn K mainGlobals "len" = some none) (l2:W.nsIn K mainGlobals "range" = some none) (l3:W.nsIn K mainGlobals "zip" = some none) (l4:W.nsIn K mainGlobals "enumerate" = some none)
  (l5:W.nsIn K mainGlobals "tuple" = some none) (l6:W.nsIn K mainGlobals "list" = some none) (l7:W.nsIn K mainGlobals "int" = some none) (l8:W.nsIn K mainGlobals "bool" = some none) (l9:W.nsIn K mainGlobals "str" = some none)
  (l10:W.nsIn K mainGlobals "isinstance" = some none) (Ai:W.nsIn K mainGlobals "sum" = some none) (Aj:W.nsIn K mainGlobals "any" = some none) (Ak:W.nsIn K mainGlobals "all" = some none) (Al:W.nsIn K mainGlobals "sorted" = some none) (Am:W.nsIn K mainGlobals "min" = some none) (t7:W.nsIn K mainGlobals "max" = some none) (m:W.nsIn K mainGlobals "MOST_THINGS" = some (some (.int 24 t))):mQ K:=⟨l1,l2,l3,l4,l5,l6,l7,l8,l9,l10,Ai,Aj,Ak,Al,Am,t7,t,m⟩
theorem Gp(x y:Nat):Builtin.bitAnd (x:Int) (y:Int)=((x&&& y:Nat):Int):=by rw[bitAnd_pp (by omega) (by omega)];simp
theorem X7(x y:Nat):Builtin.bitOr (x:Int) (y:Int)=((x ||| y:Nat):Int):=by
 rw[bitOr_and,Gp];have:=nat_or_add_and x y;omega
abbrev nV (x:Nat):V:=.int (x:Int)
section
variable {P:Program} {w:World} {K:W.Frag} {mg:Str->Option Value} {base:Heap} {f:Addr} {fd:FuncData}
abbrev Cb:Stmt:=top 54
theorem NT:aU ["_law_cell","_law_place","_law_number"] ["_law_cell","_law_place"] (aB Cb):=⟨rfl,rfl,rfl,by decide +kernel,rfl,by decide +kernel,by decide +kernel⟩
noncomputable def CV:Sp:=λvs H Q _=>∃(c:Int) (p:Nat),vs = [.int c,.int p]/\p<=1000/\∀i H',0<=i->i<2147483648->Same H H'->Q (.int i) H'
theorem XC (F:aR K "_law_mixed" "_law_mixed" Cb f fd) (T:Txt mg):aM P w K mg base aN 1 f fd ["_law_cell","_law_place"] CV:=by
 refine F.ok NT (λvs H Q E h=>?_) (λcdv A outer s H vs Q E hr h=>?_)
 ·obtain⟨c,p,rfl,_⟩:=h
  rfl
 ·obtain⟨c,p,rfl,hp,kk⟩:=h
  have nd:=NT.nd;have m1:∀x:Int,0<=x % 2147483629/\x % 2147483629<2147483629:=λx=>⟨mn x (by decide),q0 x (by decide)⟩;have m2:∀x:Int,0<=x % 2147483587/\x % 2147483587<2147483587:=λx=>⟨mn x (by decide),q0 x (by decide)⟩;have cm:∀x y:Int,qZ (x % 2147483629) y:=λx y=>.inl ⟨by have:=m1 x;omega,by have:=m1 x;omega⟩;refine⟨_,(ay (aV (i:=2) nd rfl (Or.inl rfl) (aO dv (aO eh (aO eh (aO eu (aO dv (pv 0) aD) aD) (aO eu aD (pv 1))) aD) aD))
   (ay (aV (i:=2) nd rfl (Or.inl rfl) (aO dv (aO eh (aO eh (aO eu (pv 2) (pv 2)) (aO eu aD (pv 1))) aD) aD))
   (az (aX (aO dv (aO eh (aO eu (pv 2) (pv 2)) aD) aD))))),?_⟩
  refine⟨_,rfl,_,_,rfl,rfl,(by show(0:Int)<2147483629;decide),_,_,rfl,rfl,cm _ _,_,rfl,_,_,rfl,rfl,.inl ⟨by decide,by decide⟩,_,_,rfl,rfl,_,_,rfl,rfl,_,_,rfl,rfl,(by show(0:Int)<2147483629;decide),?_⟩;refine⟨_,rfl,_,rfl,_,_,rfl,rfl,cm _ _,_,rfl,_,_,rfl,rfl,.inl ⟨by decide,by decide⟩,_,_,rfl,rfl,_,_,rfl,rfl,_,_,rfl,rfl,(by show(0:Int)<2147483629;decide),?_⟩;refine⟨_,rfl,_,rfl,_,_,rfl,rfl,cm _ _,_,_,rfl,rfl,_,_,rfl,rfl,(by show(0:Int)<2147483587;decide),?_⟩;exact kk _ _ (m2 _).1 (by have:=(m2 ((((c % 2147483629*16807+69621*(p:Int)+11) % 2147483629*((c % 2147483629*16807+69621*(p:Int)+11) % 2147483629)+48271*(p:Int)+7) % 2147483629)*(((c % 2147483629*16807+69621*(p:Int)+11) % 2147483629*((c % 2147483629*16807+69621*(p:Int)+11) % 2147483629)+48271*(p:Int)+7) % 2147483629)+69621)).2;omega) (Same.refl _)
abbrev Ca:Stmt:=top 55
theorem NQ:aU ["_law_cell","_law_many","_law_found","_law_left","_law_k"] ["_law_cell","_law_many"] (aB Ca):=⟨rfl,rfl,rfl,by decide +kernel,rfl,by decide +kernel,by decide +kernel⟩
noncomputable def Small(ns:List Int):Prop:=∀x∈ns,0<=x/\x<2147483648
noncomputable def Cy:Sp:=λvs H Q _=>∃(c:Int) (m:Nat),vs = [.int c,.int m]/\m<=1000/\∀l ns H',Same H H'->H l=none->H' l=some (.lst (ns.map V.int))->ns.length=m->Small ns->Q (.ref l) H'
theorem Xl (F:aR K "_law_draws" "_law_draws" Ca f fd) (T:Txt mg) (yl:au P w K mg base "_law_mixed" ["_law_cell","_law_place"] 1 CV):aM P w K mg base aN 2 f fd ["_law_cell","_law_many"] Cy:=by
 refine F.ok NQ (λvs H Q E h=>?_) (λcdv A outer s H vs Q E hr h=>?_)
 ·obtain⟨c,m,rfl,_⟩:=h
  rfl
 ·obtain⟨c,m,rfl,hm,kk⟩:=h
  have nd:=NQ.nd;have em:((m:Int)).toNat=m:=ck m;refine⟨_,(ay (aV (i:=2) nd rfl (Or.inl rfl) (ic ah))
   (ay (aV (i:=3) nd rfl (Or.inl rfl) (aO LK (pv 0) (aO X6 aD aD)))
   (ay (cD bT rfl (dI rfl T.range (ag (pv 1) ah)) (aZ (i:=4) nd rfl (Or.inl rfl))
   (az (cM (bW X4 (pv 3) aD (bL _)) (ay (dJ (kE (K:=K) rfl mL rO xq qe (pv 2) (ag (aO dv (pv 3) aD) ah)))
   (az (aV (i:=3) nd rfl (Or.inl rfl) (aO lJ (pv 3) aD)))) (az (dJ (kE (K:=K) rfl mL rO xq qe (pv 2) (ag (aQ yl hr rfl (ag (pv 0) (ag (pv 4) ah))) ah)))))))
   (az (aX (pv 2)))))),?_⟩
  refine⟨by show 0<=sizeLine;decide,λL hL=>?_⟩;refine⟨_,rfl,_,_,rfl,rfl,⟨by decide,by decide,by decide⟩,_,_,rfl,rfl,?_⟩;refine⟨_,rfl,m,rfl,(bI (by omega)).1,(bI (by omega)).2,hZ (lo:=0) (n:=((m:Int)).toNat) (λi σ H2=>∃(v4:Option V) (x:Int) (ns:List Int),σ = [some (.int c),some (.int m),some (.ref L),some (.int x),v4]/\Same H H2/\H2 L=some (.lst (ns.map V.int))/\ns.length=i/\Small ns)
   ⟨none,_,[],rfl,Same.put hL,aA,rfl,λ_ h=>nomatch h⟩ ?_ ?_⟩
  ·rintro i σ H2 hi ⟨v4,x,ns,rfl,s2,hl,hlen,hsm⟩
   have sn:∀y:Int,0<=y->y<2147483648->Small (ns++[y]):=λy h0 h1 z hz=>by
    rcases iz.mp hz with hz|hz
    ·exact hsm z hz
    ·simp at hz;subst hz;exact⟨h0,h1⟩
   have sk:∀{H3:Hp} {o:HO},Same H2 H3->Same H (upd H3 L o):=λs3 b o e=>by
    rw[aG (λz=>by rw[z,hL]at e;cases e)];exact s3 _ _ (s2 _ _ e)
   have hz:(ns.map V.int).length<sizeLine:=by rw[ao];exact gO (by omega)
   refine⟨_,rfl,_,_,rfl,rfl,_,rfl,bO (λh=>?_) (λh=>?_)⟩
   ·have q:=mn x (show(1000003:Int)≠0 by decide)
    have q':=q0 x (show(0:Int)<1000003 by decide);refine⟨_,rfl,.inl ⟨rfl,_,ai.of hl⟩,_,rfl,_,_,rfl,rfl,(by show(0:Int)<1000003;decide),L,_,_,rfl,rfl,hl,hz,?_⟩;refine⟨_,rfl,_,_,rfl,rfl,⟨by decide,by decide⟩,?_⟩;exact⟨_,_,ns++[x % 1000003],rfl,sk (Same.refl _),by rw[aA];simp,by simp[hlen],sn _ q (by omega)⟩
   ·refine⟨_,rfl,.inl ⟨rfl,_,ai.of hl⟩,_,rfl,_,rfl,c,i,by simp,by omega,λy H3 y0 y1 s3=>?_⟩
    exact⟨L,_,_,rfl,rfl,s3 _ _ hl,hz,_,x,ns++[y],rfl,sk s3,by rw[aA];simp,by simp[hlen],sn _ y0 y1⟩
  ·rintro σ H2 ⟨v4,x,ns,rfl,s2,hl,hlen,hsm⟩
   exact⟨_,rfl,kk L ns H2 s2 hL hl (hlen.trans em) hsm⟩
end
theorem nB{ns:List Int}{i:Nat}(h:i<ns.length):(ns.map V.int)[i]?=some (.int (ns.getD i 0)):=by
 rw[bC,aq h,aL,aq h];rfl
theorem yB(x:Int)(k:Nat)(hk:0<k):∃r:Nat,r<k/\x % (k:Int)=(r:Int):=
 ⟨(x % (k:Int)).toNat,by have h1:=mn x (show(k:Int)≠0 by omega);have h2:=q0 x (show(0:Int)<k by omega);omega,by have h1:=mn x (show(k:Int)≠0 by omega);omega⟩
theorem R7(ns:List Int)(lo hi:Option Int):∃ms:List Int,kg (ns.map V.int) lo hi=ms.map V.int/\ms.length<=ns.length:=by
 unfold kg;refine⟨_,by rw[<- List.map_drop,<- List.map_take],?_⟩;rw[iY,E_];omega
section
variable {P:Program} {w:World} {K:W.Frag} {mg:Str->Option Value} {base:Heap} {f:Addr} {fd:FuncData}
abbrev Cd:Stmt:=top 56
theorem NX:aU ["_law_draws_here","_law_found","_law_k","_law_more"] ["_law_draws_here"] (aB Cd):=⟨rfl,rfl,rfl,by decide +kernel,rfl,by decide +kernel,by decide +kernel⟩
noncomputable def CW(K:W.Frag):Sp:=λvs H Q _=>∃(d:Nat) (ns:List Int),vs = [.ref d]/\ai K H d (ns.map V.int)/\Small ns/\ns.length=3/\∀(n:Nat) H',Same H H'->1<=n->n<=1000000->Q (.int (n:Int)) H'
theorem XF (F:aR K "_law_number_of" "_law_number_of" Cd f fd) (T:Txt mg):aM P w K mg base aN 1 f fd ["_law_draws_here"] (CW K):=by
 refine F.ok NX (λvs H Q E h=>?_) (λcdv A outer s H vs Q E hr h=>?_)
 ·obtain⟨d,ns,rfl,_⟩:=h
  rfl
 ·obtain⟨d,ns,rfl,hd,hs,hl,kk⟩:=h
  have nd:=NX.nd;have sm:∀i,i<3->0<=ns.getD i 0/\ns.getD i 0<2147483648:=λi hi=>by
   have:i<ns.length:=by omega
   rw[aL,aq this];exact hs _ (gB this)
  refine⟨_,(@ay _ _ _ _ _ (cM (bW jN (aO dv (aF (bB (K:=K) rfl) (pv 0) aD (λ_ _=>rfl)) aD) aD (bL _)) (az (aX (aO eh aD (aO dv (aF (bB (K:=K) rfl) (pv 0) aD (λ_ _=>rfl)) aD)))) cU)
   (@ay _ _ _ _ _ (cM (bW jN (aO dv (aF (bB (K:=K) rfl) (pv 0) aD (λ_ _=>rfl)) aD) aD (bL _)) (az (aX (aO eh aD (aO dv (aO eh (aO eu (aF (bB (K:=K) rfl) (pv 0) aD (λ_ _=>rfl)) aD) (aF (bB (K:=K) rfl) (pv 0) aD (λ_ _=>rfl))) aD)))) cU)
   (@ay _ _ _ _ _ (aV (i:=1) nd rfl (Or.inl rfl) aD)
   (@ay _ _ _ _ _ (cD bT rfl (dI rfl T.range (ag aD ah)) (aZ (i:=2) nd rfl (Or.inl rfl))
   (@ay _ _ _ _ _ (@aV _ _ 3 _ _ _ _ nd rfl (Or.inl rfl) (@aF _ _ _ _ _ _ _ (bB (K:=K) rfl) (@ic _ _ _ _ (@Bj _ _ [2,3,2,5,7,11,13,997] rfl)) (aO dv (aO lJ (aF (bB (K:=K) rfl) (pv 0) aD (λ_ _=>rfl)) (@aF _ _ _ _ _ _ _ (bB (K:=K) rfl) (@ic _ _ _ _ (@Bj _ _ [1,8,64,512,4096,32768] rfl)) (pv 2) (λ_ _=>rfl))) aD) (λ_ _=>rfl)) (by rfl) (by first|exact .inl rfl|exact .inr rfl))
   (az (cM (bW jO (aO eu (pv 1) (pv 3)) aD (bL _)) (az (aV (i:=1) nd rfl (Or.inl rfl) (aO eu (pv 1) (pv 3)))) cU))))
   (az (aX (pv 1))))))),?_⟩
  refine⟨_,rfl,d,_,0,_,rfl,rfl,hd,aS (nB (i:=0) (by omega)),_,_,rfl,rfl,(by show(0:Int)<3;decide),rfl,_,rfl,bO (λh=>?_) (λh=>?_)⟩
  ·obtain⟨r,hr',er⟩:=yB (ns.getD 1 0) 1000 (by decide)
   refine⟨_,rfl,d,_,1,_,rfl,rfl,hd,aS (nB (i:=1) (by omega)),_,_,rfl,rfl,(by show(0:Int)<1000;decide),_,_,rfl,rfl,?_⟩;have e:(1:Int)+ns.getD 1 0 % 1000=((1+r:Nat):Int):=by rw[show ns.getD 1 0 % 1000=(r:Int)from er];push_cast;rfl
   dsimp only;rw[e];exact kk _ _ (Same.refl _) (by omega) (by omega)
  refine⟨_,rfl,d,_,0,_,rfl,rfl,hd,aS (nB (i:=0) (by omega)),_,_,rfl,rfl,(by show(0:Int)<3;decide),rfl,_,rfl,bO (λh=>?_) (λh=>?_)⟩
  ·obtain⟨r,hr',er⟩:=yB (ns.getD 1 0*1000003+ns.getD 2 0) 1000000 (by decide)
   have h1:=sm 1 (by decide);refine⟨_,rfl,d,_,1,_,rfl,rfl,hd,aS (nB (i:=1) (by omega)),_,_,rfl,rfl,.inr ⟨by decide,by decide⟩,_,rfl,d,_,2,_,rfl,rfl,hd,aS (nB (i:=2) (by omega)),_,_,rfl,rfl,_,_,rfl,rfl,(by show(0:Int)<1000000;decide),_,_,rfl,rfl,?_⟩;have e:(1:Int)+(ns.getD 1 0*1000003+ns.getD 2 0) % 1000000=((1+r:Nat):Int):=by rw[show(ns.getD 1 0*1000003+ns.getD 2 0) % 1000000=(r:Int)from er];push_cast;rfl
   dsimp only;rw[e];exact kk _ _ (Same.refl _) (by omega) (by omega)
  refine⟨6,rfl,by decide,by decide,hZ (lo:=0) (n:=6) (λi σ H2=>∃(v2 v3:Option V) (n:Nat),σ = [some (.ref d),some (.int (n:Int)),v2,v3]/\Same H H2/\1<=n/\n<=1000000) ⟨none,none,1,rfl,Same.refl _,by decide,by decide⟩ ?_ ?_⟩
  ·rintro i σ H2 hi ⟨v2,v3,n,rfl,s2,hn1,hn2⟩
   dsimp only[bq];show cV _ _ _ [some (.ref d),some (.int (n:Int)),some (.int (0+(i:Int))),v3] _;obtain⟨c,hc,hc0⟩:∃c:Int,(([1,8,64,512,4096,32768]:List Int).map V.int)[i]?=some (.int c)/\0<c/\c<2 ^ 30:=by
    match i,hi with
    |0,_=>exact⟨_,rfl,by decide,by decide⟩
    |1,_=>exact⟨_,rfl,by decide,by decide⟩
    |2,_=>exact⟨_,rfl,by decide,by decide⟩
    |3,_=>exact⟨_,rfl,by decide,by decide⟩
    |4,_=>exact⟨_,rfl,by decide,by decide⟩
    |5,_=>exact⟨_,rfl,by decide,by decide⟩
   refine⟨by show 8<=sizeLine;decide,λp1 hp1=>?_⟩;have t1:=Same.put hp1 (o:=.lst (([2,3,2,5,7,11,13,997]:List Int).map V.int));refine⟨_,rfl,d,_,1,_,rfl,rfl,(s2.trans t1).seq hd,aS (nB (i:=1) (by omega)),by show 6<=sizeLine;decide,λp2 hp2=>?_⟩;have t2:=Same.put hp2 (o:=.lst (([1,8,64,512,4096,32768]:List Int).map V.int));obtain⟨r,hr',er⟩:=yB (ns.getD 1 0 / c) 8 (by decide);obtain⟨mo,hmo,U4,abl⟩:∃mo:Nat,(([2,3,2,5,7,11,13,997]:List Int).map V.int)[r]?=some (.int (mo:Int))/\1<=mo/\mo<=1000:=by
    match r,hr' with
    |0,_=>exact⟨2,rfl,by decide,by decide⟩
    |1,_=>exact⟨3,rfl,by decide,by decide⟩
    |2,_=>exact⟨2,rfl,by decide,by decide⟩
    |3,_=>exact⟨5,rfl,by decide,by decide⟩
    |4,_=>exact⟨7,rfl,by decide,by decide⟩
    |5,_=>exact⟨11,rfl,by decide,by decide⟩
    |6,_=>exact⟨13,rfl,by decide,by decide⟩
    |7,_=>exact⟨997,rfl,by decide,by decide⟩
   refine⟨_,rfl,p2,_,_,_,rfl,rfl,ai.of aA,at0 hc,_,_,rfl,rfl,⟨by omega,by omega⟩,_,_,rfl,rfl,(by show(0:Int)<8;decide),p1,_,_,_,rfl,rfl,ai.of (t2 _ _ aA),by rw[show ns.getD 1 0 / c % 8=(r:Int)from er];exact aS hmo,?_⟩;dsimp only[bq];show Pj _ _ _ _ [some (.ref d),some (.int (n:Int)),some (.int (0+(i:Int))),some (.int (mo:Int))] _;have s3:=s2.trans (t1.trans t2);refine⟨_,rfl,_,rfl,_,_,rfl,rfl,.inl ⟨by omega,by omega⟩,_,_,rfl,rfl,_,rfl,bO (λh=>?_) (λh=>⟨_,_,n,rfl,s3,hn1,hn2⟩)⟩;have hle:n*mo<=1000000:=by
    have:(n:Int)*(mo:Int)<=1000000:=fX h;rw[<- iW]at this;omega
   refine⟨_,rfl,_,rfl,_,_,rfl,rfl,.inl ⟨by omega,by omega⟩,some (.int (0+(i:Int))),some (.int (mo:Int)),n*mo,?_,s3,w6 hn1 U4,hle⟩;dsimp only;rw[<- iW];rfl
  ·rintro σ H2 ⟨v2,v3,n,rfl,s2,hn1,hn2⟩
   exact⟨_,rfl,kk n _ s2 hn1 hn2⟩
end
theorem TT.get{H:Hp}{v:V}{n:Nat}{g:Nat->Nat->V}(h:TT H v n g){i:Nat}(hi:i<n):∃a vs b,v = .ref a/\H a=some (.tup vs)/\vs[i]?=some (.ref b)/\H b=some (.tup ((List.range n).map (g i))):=by
 obtain⟨a,vs,e,q,r⟩:=h;have hl:vs.length=n:=by have:=dh r;simpa using this.symm
 obtain⟨x,hx,b,eb,qb⟩:=kC r (show vs[i]?=some vs[i]from aq (by omega));have:x=i:=by
  rw[oR hi]at hx;cases hx;rfl
 subst this;exact⟨a,vs,b,e,q,by rw[aq (by omega),eb],qb⟩
theorem zp (n:Nat) (vp vr vj vm:V):(aJ n vp vr vj vm).lookup ("reach" : Str)=some vr:=by
 unfold aJ;rw[da,if_neg (by decide +kernel),da,if_neg (by decide +kernel),da,if_pos rfl]
theorem fE (n:Nat) (vp vr vj vm:V):(aJ n vp vr vj vm).lookup ("count" : Str)=some (.int n):=by
 unfold aJ;rw[da,if_neg (by decide +kernel),da,if_neg (by decide +kernel),da,if_neg (by decide +kernel),da,if_neg (by decide +kernel),da,if_pos rfl]
theorem Tp (n:Nat) (vp vr vj vm:V):(aJ n vp vr vj vm).lookup ("pairs" : Str)=some vp:=by
 unfold aJ;rw[da,if_neg (by decide +kernel),da,if_neg (by decide +kernel),da,if_neg (by decide +kernel),da,if_pos rfl]
theorem dg.cN{C:Addr}{H H':Hp}{p n:Nat}{R:Nat->Nat->Bool}(s:Same H H')(h:dg C H p n R):dg C H' p n R:=by
 obtain⟨dx,vp,vr,vj,vm,a,b,c,d,e⟩:=h;exact⟨dx,vp,vr,vj,vm,s _ _ a,b.same s,c.same s,d.same s,e.same s⟩
noncomputable def dq(R:Nat->Nat->Bool)(a b:Nat):Bool:=!decide (a=b)&&R a b
noncomputable def bF(n:Nat)(R:Nat->Nat->Bool)(a b:Nat):Bool:=dq R a b&&!(List.range n).any λt=>dq R a t&&dq R t b
theorem Good.trans{n:Nat}{R:Nat->Nat->Bool}(G:Good n R){a b c:Nat}(ha:a<n)(hb:b<n)(hc:c<n)(h1:R a b=true)(h2:R b c=true):R a c=true:=by
 obtain⟨m,hm,h⟩:=G.meet b c hb hc;have e1:=h b hb;rw[G.refl b hb,h2]at e1;have e2:=h m hm;rw[G.refl m hm]at e2;have e3:R m b=true:=by
  cases e:R m b with
  |true=>rfl
  |false=>rw[e]at e2;cases e2
 have:b=m:=G.anti b m hb hm (by rw[e1];rfl) e3;subst this;have e4:=h a ha;rw[h1]at e4;simpa using e4.symm
noncomputable def cz(n:Nat)(R:Nat->Nat->Bool)(a b c:Nat):Prop:=c<n/\∀x,x<n->R c x=(R a x&&R b x)
noncomputable def cA(n:Nat)(R:Nat->Nat->Bool)(a b c:Nat):Prop:=c<n/\∀x,x<n->R x c=(R x a&&R x b)
section
variable {n:Nat} {R:Nat->Nat->Bool} {a b c d:Nat}
theorem cz.uniq(G:Good n R)(h:cz n R a b c)(h':cz n R a b d):c=d:=G.dis c d h.1 h'.1 λx hx=>by rw[h.2 x hx,h'.2 x hx]
theorem cA.uniq(G:Good n R)(h:cA n R a b c)(h':cA n R a b d):c=d:=G.jx c d h.1 h'.1 λx hx=>by rw[h.2 x hx,h'.2 x hx]
theorem cz.up(G:Good n R)(ha:a<n)(hb:b<n)(h:cz n R a b c):R a c=true/\R b c=true:=by
 have:=h.2 c h.1;rw[G.refl c h.1]at this;simpa using this.symm
theorem cA.dn(G:Good n R)(ha:a<n)(hb:b<n)(h:cA n R a b c):R c a=true/\R c b=true:=by
 have:=h.2 c h.1;rw[G.refl c h.1]at this;simpa using this.symm
end
theorem tF (n:Nat) (vp vr vj vm:V):(aJ n vp vr vj vm).lookup ("joins" : Str)=some vj:=by
 unfold aJ;rw[da,if_neg (by decide +kernel),da,if_pos rfl]
theorem tG (n:Nat) (vp vr vj vm:V):(aJ n vp vr vj vm).lookup ("meets" : Str)=some vm:=by
 unfold aJ;rw[da,if_pos rfl]
theorem tH (n:Nat) (vp vr vj vm:V) {x:Str} (h1:¬ x = "meets") (h2:¬ x = "joins") (h3:¬ x = "reach") (h4:¬ x = "pairs") (h5:¬ x = "count"):(aJ n vp vr vj vm).lookup x=none:=by
 unfold aJ;rw[da,if_neg h1,da,if_neg h2,da,if_neg h3,da,if_neg h4,da,if_neg h5];rfl
noncomputable def Ek(c:Bool)(H:Hp)(a:Addr)(xs:List V):Prop:=match c with
 |true=>H a=some (.lst xs)
 |false=>H a=some (.tup xs)
noncomputable def Leaf(x:V):Prop:=(∃i,x = .int i)\/x = .non\/(∃b,x = .bl b)\/∃t,x = .str t
noncomputable def Like(R:Hp->V->V->Prop)(H:Hp)(x y:V):Prop:=(Leaf x/\x=y)\/∃(c:Bool) (a b:Nat) (xs ys:List V),x = .ref a/\y = .ref b/\Ek c H a xs/\Ek c H b ys/\Paired (R H) xs ys/\xs.length<=1000
noncomputable def Qi:Hp->V->V->Prop:=λ_ _ _=>False
abbrev R1:=Like Qi
abbrev QL:=Like R1
abbrev R3:=Like QL
theorem Ya{n:Nat}{R R':Nat->Nat->Bool}(h:∀a b,a<n->b<n->R a b=R' a b):eV n R=eV n R':=by
 unfold eV;have:∀l∈List.range n,(((List.range n).filter λh=>!decide (l=h)&&R l h).map λh=>(l,h))=(((List.range n).filter λh=>!decide (l=h)&&R' l h).map λh=>(l,h)):=by
  intro l hl
  congr 1
  apply List.filter_congr
  intro x hx;rw[h l x (by simpa using hl) (by simpa using hx)]
 rw[List.flatMap_def,List.flatMap_def,fc this]
theorem Good.congr{n:Nat}{R R':Nat->Nat->Bool}(G:Good n R)(h:∀a b,a<n->b<n->R' a b=R a b):Good n R':=by
 refine⟨λa ha=>by rw[h a a ha ha];exact G.refl a ha,λa b ha hb h1 h2=>G.anti a b ha hb (by rw[<- h a b ha hb];exact h1) (by rw[<- h b a hb ha];exact h2),λa b ha hb=>?_,λa b ha hb=>?_⟩
 ·obtain⟨c,hc,hx⟩:=G.join a b ha hb
  exact⟨c,hc,λx hx'=>by rw[h c x hc hx',h a x ha hx',h b x hb hx'];exact hx x hx'⟩
 ·obtain⟨c,hc,hx⟩:=G.meet a b ha hb
  exact⟨c,hc,λx hx'=>by rw[h x c hx' hc,h x a hx' ha,h x b hx' hb];exact hx x hx'⟩
theorem G5{n:Nat}{R R':Nat->Nat->Bool}(G:Good n R){ps:List (Nat × Nat)}(h1:∀p∈ps,R p.1 p.2=true)(h2:∀a b,a<n->b<n->a≠b->R a b=true->(a,b)∈ps)(hC:Ev.oJ n ps R'):∀a b,a<n->b<n->R' a b=R a b:=by
 intro a b ha hb;rw[cE]
 constructor
 ·exact hC.least R G.refl h1 (λa b c ha hb hc=>G.trans ha hb hc) a b ha hb
 ·intro h
  by_cases e:a=b
  ·subst e;exact hC.refl a ha
  ·exact hC.has _ (h2 a b ha hb e h)
noncomputable def o6(C:Addr)(H:Hp)(p n:Nat)(R:Nat->Nat->Bool):Prop:=∃R',dg C H p n R'/\∀a b,a<n->b<n->R' a b=R a b
structure jY (P:Program) (w:World) (K:W.Frag) (mg:Str->Option Value) (base:Heap) (C:Addr) (m:Str) (ps:List Str) (k:Nat) (sp:Sp):Prop where
 ex:∃(f:Addr) (fd:FuncData),aM P w K mg base aN k f fd ps sp/\Meth K C m f/\Binds K fd ps []
section
variable {X:Cx} {C:Addr} {m:Str} {ps:List Str} {k k':Nat} {sp:Sp} {e o:Expr} {es:List Expr} {ta:TE} {t:TA} {apos pos:Pos} {pl:Sem Bool}
theorem uC(c:jY X.prog X.w X.K X.mg X.base C m ps k sp)(cl:Cls X.K C)(hr:bj k' X.A)(he:PE X o ta)(ha:PA X (e::es) t)(hk:k<=k':=by decide)
  (hst:starEach (e::es) X.env=(false,eval e X.env)::starEach es X.env:=by rfl) (hpl:(backTo pos (starEach es X.env)).any (·.1)=false:=by rfl)
  (ht:eval (.Call (.Attribute o m apos) (e::es) [] pos) X.env=(do
   let ov <- eval o X.env
   standAt apos.atName
   let(f,first) <- holding [ov] (getMethod ov m pl)
   callWith pos f first (backTo pos (starEach (e::es) X.env)) (backToKw pos (keywordEach [] X.env))):=by rfl):PE X (.Call (.Attribute o m apos) (e::es) [] pos) (Pl C m sp [] E0 ta t):=by
 obtain⟨f,fd,F,M,b⟩:=c.ex;exact Yq he cl M F (hr.mono hk) b .nil qq ha hst hpl ht
end
structure MethAt (K:W.Frag) (C:Addr) (m qual:Str) (st:Stmt):Prop where
 ex:∃(f:Addr) (fd:FuncData),aR K m qual st f fd/\Meth K C m f
theorem MethAt.mk'{K:W.Frag}{m qual:Str}{st:Stmt}{C f:Addr}{oc:Value}{od an:Option Addr}{osl:Array (Option Value)}{kV doc pm cdv ct:Value}(a:W.findIn K (.ref C) m=some (some (.ref f)))(i:W.isFn K (.ref f)=true)
  (l:K.lookup f=some ⟨oc,od,.func (W.fnOf m qual (hV st) (fA st) (aB st) .none kV doc pm an cdv ct),osl⟩) (c:W.codeIn K cdv qual=true) (k:W.keepIn K (.ref f)=true):MethAt K C m qual st:=
 ⟨f,_,zt l c k,⟨a,i,k⟩⟩
theorem MethAt.cal{P:Program}{w:World}{K:W.Frag}{mg:Str->Option Value}{base:Heap}{m qual:Str}{st:Stmt}{C:Addr}{ps:List Str}{k:Nat}{sp:Sp}(A:MethAt K C m qual st)
  (hb:∀(kV doc pm:Value) (an:Option Addr) (cdv ct:Value) (us:List Value),us.length=ps.length->bindArgs (W.fnOf m qual (hV st) (fA st) (aB st) .none kV doc pm an cdv ct) ⟨us,[]⟩=pure (ps.zip us))
  (ok:∀{f:Addr} {fd:FuncData},aR K m qual st f fd->aM P w K mg base aN k f fd ps sp):jY P w K mg base C m ps k sp:=by
 obtain⟨f,fd,F,M⟩:=A.ex;exact⟨f,fd,ok F,M,F.binds hb⟩
section
variable {P:Program} {w:World} {K:W.Frag} {mg:Str->Option Value} {base:Heap} {f:Addr} {fd:FuncData}
abbrev BK:Stmt:=inClass (top 26) 2
theorem Nb:aU ["self","a","b"] ["self","a","b"] (aB BK):=⟨rfl,rfl,rfl,by decide +kernel,rfl,by decide +kernel,by decide +kernel⟩
noncomputable def vx(C:Addr):Sp:=λvs H Q _=>∃(p n a b c:Nat) (R:Nat->Nat->Bool),vs = [.ref p,.int a,.int b]/\dg C H p n R/\Good n R/\a<n/\b<n/\cz n R a b c/\∀H',Same H H'->Q (.int c) H'
theorem Xz {C:Addr} (F:aR K "join" "Order.join" BK f fd) (T:Txt mg) (TC:dk K C) (dP:au P w K mg base "need_thing" ["count","number"] 3 lR):aM P w K mg base aN 4 f fd ["self","a","b"] (vx C):=by
 refine F.ok Nb (λvs H Q E h=>?_) (λcdv A outer s H vs Q E hr h=>?_)
 ·obtain⟨p,n,a,b,c,R,rfl,_⟩:=h
  rfl
 ·obtain⟨p,n,a,b,c,R,rfl,hO,G,ha,hb,hc,kk⟩:=h
  have nd:=Nb.nd;obtain⟨dx,vp,vr,vj,vm,o1,_,_,o3,_⟩:=hO;obtain⟨ra,us,rb,rfl,q1,q2,q3⟩:=o3.get ha;refine⟨_,(ay (dJ (aQ dP hr rfl (ag (cy (K:=K) rfl (pv 0) rfl) (ag (pv 1) ah))))
   (ay (dJ (aQ dP hr rfl (ag (cy (K:=K) rfl (pv 0) rfl) (ag (pv 2) ah))))
   (az (aX (aF (aW (K:=K) rfl) (aF (aW (K:=K) rfl) (cy (K:=K) rfl (pv 0) rfl) (pv 1) (λ_ _=>rfl)) (pv 2) (λ_ _=>rfl)))))),?_⟩
  refine⟨_,rfl,p,C,dx,_,_,rfl,o1,TC.cl,TC.nC,fE _ _ _ _ _,_,rfl,⟨n,a,rfl,by omega,by omega⟩,λv1 H1 s1 _=>?_⟩;refine⟨_,rfl,p,C,dx,_,_,rfl,s1 _ _ o1,TC.cl,TC.nC,fE _ _ _ _ _,_,rfl,⟨n,b,rfl,by omega,by omega⟩,λv2 H2 s2 _=>?_⟩;have dA:=s1.trans s2;have e:fC n R a b = .int c:=fD G.dis hc.1 hc.2;exact⟨_,rfl,p,C,dx,_,_,rfl,dA _ _ o1,TC.cl,TC.nJ,tF _ _ _ _ _,_,rfl,ra,us,_,.ref rb,rfl,rfl,ax.of (dA _ _ q1),aS q2,_,rfl,rb,_,_,.int c,rfl,rfl,ax.of (dA _ _ q3),aS (by rw[fI hb,e]),kk _ dA⟩
abbrev BL:Stmt:=inClass (top 26) 3
theorem Nc:aU ["self","a","b"] ["self","a","b"] (aB BL):=⟨rfl,rfl,rfl,by decide +kernel,rfl,by decide +kernel,by decide +kernel⟩
noncomputable def vy(C:Addr):Sp:=λvs H Q _=>∃(p n a b c:Nat) (R:Nat->Nat->Bool),vs = [.ref p,.int a,.int b]/\dg C H p n R/\Good n R/\a<n/\b<n/\cA n R a b c/\∀H',Same H H'->Q (.int c) H'
theorem XB {C:Addr} (F:aR K "meet" "Order.meet" BL f fd) (T:Txt mg) (TC:dk K C) (dP:au P w K mg base "need_thing" ["count","number"] 3 lR):aM P w K mg base aN 4 f fd ["self","a","b"] (vy C):=by
 refine F.ok Nc (λvs H Q E h=>?_) (λcdv A outer s H vs Q E hr h=>?_)
 ·obtain⟨p,n,a,b,c,R,rfl,_⟩:=h
  rfl
 ·obtain⟨p,n,a,b,c,R,rfl,hO,G,ha,hb,hc,kk⟩:=h
  have nd:=Nc.nd;obtain⟨dx,vp,vr,vj,vm,o1,_,_,_,o3⟩:=hO;obtain⟨ra,us,rb,rfl,q1,q2,q3⟩:=o3.get ha;refine⟨_,(ay (dJ (aQ dP hr rfl (ag (cy (K:=K) rfl (pv 0) rfl) (ag (pv 1) ah))))
   (ay (dJ (aQ dP hr rfl (ag (cy (K:=K) rfl (pv 0) rfl) (ag (pv 2) ah))))
   (az (aX (aF (aW (K:=K) rfl) (aF (aW (K:=K) rfl) (cy (K:=K) rfl (pv 0) rfl) (pv 1) (λ_ _=>rfl)) (pv 2) (λ_ _=>rfl)))))),?_⟩
  refine⟨_,rfl,p,C,dx,_,_,rfl,o1,TC.cl,TC.nC,fE _ _ _ _ _,_,rfl,⟨n,a,rfl,by omega,by omega⟩,λv1 H1 s1 _=>?_⟩;refine⟨_,rfl,p,C,dx,_,_,rfl,s1 _ _ o1,TC.cl,TC.nC,fE _ _ _ _ _,_,rfl,⟨n,b,rfl,by omega,by omega⟩,λv2 H2 s2 _=>?_⟩;have dA:=s1.trans s2;have e:fC n (λa b=>R b a) a b = .int c:=fD G.jx hc.1 hc.2;exact⟨_,rfl,p,C,dx,_,_,rfl,dA _ _ o1,TC.cl,TC.nM,tG _ _ _ _ _,_,rfl,ra,us,_,.ref rb,rfl,rfl,ax.of (dA _ _ q1),aS q2,_,rfl,rb,_,_,.int c,rfl,rfl,ax.of (dA _ _ q3),aS (by rw[fI hb,e]),kk _ dA⟩
end
end My
namespace L2
open PySem PySem.Spec PyProof.Rows
theorem aaL{x y:Int}{t u:Tok}{c:Value}:∀(l:List Value),TriplesOk l->TriplesOk (l++[.int x t,.int y u,c]):=by
 intro l h
 fun_induction TriplesOk l with
 |case1=>exact trivial
 |case2 a b d e f r ih=>exact ih h
 |case3 l h1 h2=>exact False.elim h
noncomputable def Qh(o:Obj)(qual:Str):Prop:=∃vs t,o.data = .fields vs/\vs[1]?=some (.str qual t)
noncomputable def oN(p:Addr)(qual:Str)(params:Arguments)(body:Expr)(scope:Scope)(cl:List (Str × Addr))(c:Addr):HO:=
 .ext λh=>∃pm ctv,h.get? p=some (W.kla_obj "<lambda>" qual params body scope cl pm c ctv)
structure cY (H:Hp) (p:Addr) (qual:Str) (params:Arguments) (body:Expr) (scope:Scope) (cl:List (Str × Addr)):Prop where
 ex:∃c o u,H c=some (.cT o u)/\Qh o qual/\H p=some (oN p qual params body scope cl c)
section
variable {P:Program} {w:World} {H H':Hp} {h:Heap} {p:Addr} {qual:Str} {params:Arguments} {body:Expr} {scope:Scope} {cl:List (Str × Addr)}
theorem Ka {c:Addr} {pm ctv:Value} (e:h.get? p=some (W.kla_obj "<lambda>" qual params body scope cl pm c ctv)):a8 P w H h p (oN p qual params body scope cl c):=
 ⟨⟨pm,ctv,e⟩,⟨_,e⟩,λ_ _ ⟨pm,ctv,e⟩ k=>⟨pm,ctv,k _ e⟩⟩
theorem cY.same(L:cY H p qual params body scope cl)(s:Same H H'):cY H' p qual params body scope cl:=
 let⟨c,o,u,h1,h2,h3⟩:=L.ex;⟨c,o,u,s _ _ h1,h2,s _ _ h3⟩
theorem cY.get (L:cY H p qual params body scope cl) (ok:bJ P w H h):∃c pm ctv,h.get? p=some (W.kla_obj "<lambda>" qual params body scope cl pm c ctv)/\h.CodeRec (.ref c) qual:=by
 obtain⟨c,o,u,h1,⟨vs,t,d1,d2⟩,h3⟩:=L.ex;obtain⟨⟨pm,ctv,e⟩,_⟩:=(show a8 P w H h p (oN p qual params body scope cl c)from ok p _ h3);obtain⟨e2,_⟩:=ok c _ h1;exact⟨c,pm,ctv,e,c,o,vs,t,rfl,e2,d1,d2⟩
end
structure TabAt (base:Heap) (mg:Str->Option Value) (c P:Addr):Prop where
 hd:W.CodeHd base c P
 bm:∃bm ob,mg "__builtins__" = some (.ref bm)/\bm≠builtinsNs/\base.get? bm=some ob/\ob.cls = .type "module" /\ ob.dict=some builtinsNs/\ob.data = .plain
noncomputable def qY(P:Addr)(pos:Pos)(qual:Str)(params:Arguments)(body:Expr)(scope:Scope)(cl:List (Str × Addr)):TE:=λ_ H Q =>
 H P=some (.lam pos qual)/\∀p H1,Same H H1->H p=none->cY H1 p qual params body scope cl->Q (.ref p) H1
section
variable {X:Cx} {c P:Addr} {params:Arguments} {body:Expr} {scope:Scope} {pos:Pos}
theorem uB(T:TabAt X.base X.mg c P)(hcode:X.env.code = .ref c)(B:X.Ok->∀x∈scope.names,x.2 = .free->∃cc,X.env.cells.lookup x.1=some cc)(hdef:defaultsOf params X.env=([],[]):=by rfl):
  PE X (.Lambda params body scope pos) (qY P pos (X.env.qual ++ "<lambda>") params body scope (bE X.env.cells scope.names [])):=by
 intro pins s σ H Q I ⟨hP,q⟩;refine W.kla_eval hdef ?_;obtain⟨ps,Iu,ht,hc⟩:=(show a8 X.prog X.w H s.heap P (.lam pos (X.env.qual ++ "<lambda>"))from I.hok P _ hP);have hg:s.heap.Ns mainGlobals X.mg:=I.mod.glob.keeps I.bk;have C:=T.hd.keeps I.bk;obtain⟨bm,ob,b1,b2,b3,b4,b5,b6⟩:=T.bm;have KN:∀b o,X.base.get? b=some o->b≠P:=λb o e z=>by
  have:=(I.bs b o e).2;rw[z,hP]at this;cases this
 have hgP:mainGlobals≠P:=by
  obtain⟨o,es,ep,e,_⟩:=I.mod.glob;exact KN _ o e
 have hbG:bm≠mainGlobals:=λz=>by
  obtain⟨o,es,ep,e,hd,_⟩:=I.mod.glob;rw[z,e]at b3;cases b3;rw[hd]at b6;cases b6
 have hb:s.heap.BuiltinsAt X.mg P:=⟨bm,ob,b1,b2,hbG,KN _ _ b3,I.bk _ _ b3,b4,b5,b6⟩;cases hf:codeAmong pos ps.toList with
 |some cv =>
  obtain⟨c',o,u,vs,t,rfl,hz,hd,hv⟩:=hc _ hf;refine W.kla_makeFunctionHit (sj (B I.ok)) I.ok.glob hg hcode C Iu ht hf hb λctv h' tk hk hsz=>?_;have I1:Inv X pins σ (upd H h'.objs.size (oN h'.objs.size (X.env.qual ++ "<lambda>") params body scope (bE X.env.cells scope.names []) c')) _:=
   I.laid (t':=tk) (λb u e=>aI (W.kla_obj "<lambda>" (X.env.qual ++ "<lambda>") params body scope (bE X.env.cells scope.names []) ((X.mg "__name__").getD .none) c' ctv) (hk b u e)) hsz (Ka (bf _ rfl))
  have hn:H h'.objs.size=none:=I.hok.fresh hsz;exact⟨.ref h'.objs.size,_,I1,rfl,q _ _ (Same.put hn) hn ⟨c',o,u,Same.put hn _ _ hz,⟨vs,t,hd,hv⟩,aA⟩⟩
 |none =>
  refine W.kla_makeFunction (sj (B I.ok)) I.ok.glob hg hcode C Iu ht hf hgP hb λc' ctv h' tk hx hge hlt hrec htb=>?_;obtain⟨c2,oc,vs,t,e2,hoc,hd,hv⟩:=hrec;cases e2;have hn:H c'=none:=I.hok.fresh hge;have cP:c'≠P:=λz=>by rw[z,hP]at hn;cases hn
  have nP:∀b,H b=none->b≠P:=λb e z=>by rw[z,hP]at e;cases e
  have sm:Same H (upd H c' (.cT oc (.own c'))):=Same.put hn;have I1:Inv X pins σ (upd H c' (.cT oc (.own c'))) {s with heap:=h',toks:=tk}:=by
   refine I.un ⟨λb o e n _ _=>hx b o (nP b n) e,λb o e n _ _=>⟨o.slots,hx b o (nP b n) e⟩,λb o e n _=>?_,λb o e _=>?_,λb xs e=>sm _ _ e,λb o u e=>sm _ _ e,λb ps e=>⟨#[],by rw[sm _ _ e];simp⟩⟩ ?_
   ·rw[aG (a_ (dD (aP e) hge))];exact n
   ·by_cases hb:b=P
    ·exact⟨_,by rw[hb];exact htb⟩
    ·exact⟨o,hx b o hb e⟩
   ·intro b u e
    by_cases hb:b=c'
    ·subst hb
     rw[aA]at e;cases e;exact⟨hoc,oc,hoc⟩
    ·rw[aG hb]at e
     by_cases hb2:b=P
     ·subst hb2
      rw[hP]at e;cases e;have ea:(ps++#[rawInt pos.line,rawInt pos.col,.ref c']).toList=ps.toList++[rawInt pos.line,rawInt pos.col,.ref c']:=by simp
      refine⟨_,htb,?_,λcv z=>?_⟩
      ·rw[ea];exact aaL _ ht
      ·rw[ea,codeAmong_snoc _ ht hf]at z
       cases z;exact⟨c',oc,.own c',vs,t,rfl,aA,hd,hv⟩
     ·refine(I.hok b u e).stay (λd v hd' r=>hx d v ?_ r) (λd r=>sm _ _ r) (λd xs r=>sm _ _ r) λd ob' u' r=>sm _ _ r
      rcases hd' with rfl|hd'
      ·exact hb2
      ·intro z;rw[z,hP]at hd';cases hd'
  have hsz:({s with heap:=h',toks:=tk}:Shared).heap.objs.size<=h'.objs.size:=aH _;have I2:Inv X pins σ (upd (upd H c' (.cT oc (.own c'))) h'.objs.size (oN h'.objs.size (X.env.qual ++ "<lambda>") params body scope (bE X.env.cells scope.names []) c')) _:=
   I1.laid (t':=tk) (λb u e=>aI (W.kla_obj "<lambda>" (X.env.qual ++ "<lambda>") params body scope (bE X.env.cells scope.names []) ((X.mg "__name__").getD .none) c' ctv) e) hsz (Ka (bf _ rfl))
  have hn2:upd H c' (.cT oc (.own c')) h'.objs.size=none:=I1.fresh;exact⟨.ref h'.objs.size,_,I2,rfl,q _ _ (sm.trans (Same.put hn2)) (sm.free hn2) ⟨c',oc,.own c',Same.put hn2 _ _ aA,⟨vs,t,hd,hv⟩,aA⟩⟩
end
theorem Kq{α:Type}{x:Str}{u:α}:∀{l:List (Str × α)},(l.map (·.1)).Nodup->(x,u)∈l->l.lookup x=some u
 | [],_,h=>nomatch h
 | (y,v)::r,nd,h=>by
  rw[bA,fe]at nd;rw[gC]
  rcases aY.mp h with e|h2
  ·cases e;simp
  ·have:(x==y)=false:=by
    rw[kf];rintro rfl;exact nd.1 (b9.mpr ⟨_,h2,rfl⟩)
   rw[this];exact Kq nd.2 h2
theorem P9{α β:Type}:∀(l:List α) (m:List β),((l.zip m).map (·.1)).Sublist l
 | [],_=>by simp
 |_::_,[]=>by simp
 |a::l,b::m=>by rw[mE,bA];exact(P9 l m).cons_cons a
theorem abg{ps:List Str}{us:List Value}{i:Nat}{x:Str}{u:Value}(nd:ps.Nodup)(h1:ps[i]?=some x)(h2:us[i]?=some u):(ps.zip us).reverse.lookup x=some u:=by
 refine Kq ?_ (rq.mpr (cu (i:=i) ?_))
 ·rw[List.map_reverse]
  refine(List.reverse_perm _).nodup_iff.mpr (nd.sublist ?_);exact P9 _ _
 ·rw[Ey];exact⟨h1,h2⟩
structure oP (ps fr:List Str) (sc:Scope):Prop where
 kind:sc.kind = .function
 co:sc.isCoroutine=false
 gen:sc.isGenerator=false
 nd:(ps++fr).Nodup
 qj:∀y∈sc.names,y.2≠.cell
 par:∀x∈ps,sc.names.lookup x=some .local
 Tw:∀x∈fr,sc.names.lookup x=some .free
noncomputable def nj(P:Program)(w:World)(K:W.Frag)(mg:Str->Option Value)(base:Heap)(N:List Str)(qual:Str)(scope:Scope)(p:Addr)(cd:Value)(cl:List (Str × Addr))(A:Around)(outer:List Env)(s:Shared)(H:Hp):Cx where
 prog:=P
 w:=w
 K:=K
 mg:=mg
 base:=base
 A:=A.deeper (W.envX qual scope s.heap.objs.size p cd cl)
 N:=N
 s₀:=s
 H₀:=H
 env:=W.envX qual scope s.heap.objs.size p cd cl
 outer:=outer
 stack:=W.envX qual scope s.heap.objs.size p cd cl::outer
 ex:=[]
 calm:=true
 fn:=λ_=>false
 pn:=[]
 xe:=λ_ _=>False
section
variable {P:Program} {w:World} {K:W.Frag} {mg:Str->Option Value} {base:Heap} {A:Around} {outer:List Env} {s:Shared} {H:Hp} {p c:Addr} {qual:Str} {params:Arguments} {body:Expr} {scope:Scope} {cl:List (Str × Addr)}
 {ps fr:List Str} {vs:List V} {us:List Value} {zs:St} {pm ctv:Value} {Q:VK} {t:TE}
structure mx (h:Heap) (H:Hp) (scope:Scope) (cl:List (Str × Addr)) (fr:List Str) (zs:St):Prop where
 cell:∀x cc,cl.lookup x=some cc->(∃v,h.IsCell cc v)/\H cc=none
 inj:∀x y cc,cl.lookup x=some cc->cl.lookup y=some cc->x=y
 has:∀x,scope.names.lookup x=some .free->∃cc,cl.lookup x=some cc
 len:zs.length=fr.length
 val:∀(i:Nat) x v,fr[i]?=some x->zs[i]?=some (some v)->∃cc u,cl.lookup x=some cc/\h.IsCell cc (some u)/\RelV v u
theorem Wb(S:oP ps fr scope)(hd:A.handled=none)(e0:fK P w K mg base A outer s H)(hl:vs.length=ps.length)(r:Vals vs us)(L:mx s.heap H scope cl fr zs){cd:Value}{h₁:Heap}{tk:Nat}(hns:h₁.Ns s.heap.objs.size λx=>(ps.zip us).reverse.lookup x)(hk:∀b o,s.heap.get? b=some o->h₁.get? b=some o):
  Inv (nj P w K mg base (ps++fr) qual scope p cd cl A outer s H) [] (vs.map some++zs) H {s with heap:=h₁,toks:=tk}:=by
 have jM:∀b:Addr,b ∉ (nj P w K mg base (ps++fr) qual scope p cd cl A outer s H).ex:=λb z=>absurd (show b∈([]:List Addr)from z) (by simp);refine⟨⟨e0.mod,S.kind,rfl,rfl,aH _,L.inj,λy hy=>?_,λy c h=>(nomatch h),λ_=>hd,Around.frames_deeper e0.frames,.inr ⟨rfl,rfl⟩,λb z=>absurd z (jM b),e0.bs,e0.fS,λb _ _=>jM b,λb z=>absurd z (jM b),e0.d9,e0.iK⟩,
  rfl,e0.bare,Un.kept hk,⟨_,hns,λi y v h1 h2 h3=>?_⟩,λy cc h=>?_,e0.hok.fresh (aH _),λy cc h=>(L.cell y cc h).2,λq hq=>absurd (show q∈([]:List (Addr × Obj))from hq) (by simp),e0.hok.kept hk,?_⟩
 ·have hy:scope.names.lookup y=some .cell\/scope.names.lookup y=some .free:=hy
  rcases hy with hy|hy
  ·exact absurd rfl (S.qj _ (iF hy))
  ·exact L.has y hy
 ·have h1:(ps++fr)[i]?=some y:=h1
  by_cases hi:i<vs.length
  ·rw[mD (by simpa using hi),bC]at h2
   rw[mD (by omega)]at h1;cases e:vs[i]? with
   |none=>rw[e]at h2;cases h2
   |some a =>
    rw[e]at h2;cases h2;obtain⟨u,hu,rv⟩:=r.get e;exact⟨u,rv,.inl ⟨S.par y (cu h1),abg (S.nd.sublist (List.sublist_append_left _ _)) h1 hu⟩⟩
  ·rw[kR (by simpa using hi),ao]at h2
   rw[kR (by omega)]at h1;rw[hl]at h2;obtain⟨cc,u,e1,e2,e3⟩:=L.val _ y v h1 h2;exact⟨u,e3,.inr ⟨.inr (S.Tw y (cu h1)),cc,e1,e2.keeps hk⟩⟩
 ·obtain⟨⟨v,z⟩,_⟩:=L.cell y cc h
  exact⟨v,z.keeps hk⟩
 ·show _=(ps++fr).length
  rw[de,ao,de,L.len,hl]
theorem J_ (S:oP ps fr scope) (hr:A.depth<recursionLimit) (hd:A.handled=none) (e0:fK P w K mg base A outer s H) (ho:s.heap.get? p=some (W.kla_obj "<lambda>" qual params body scope cl pm c ctv)) (hcd:s.heap.CodeRec (.ref c) qual)
  (hb:bindArgs (W.kla_fn "<lambda>" qual params body scope cl pm (.ref c) ctv) ⟨us,[]⟩=pure (ps.zip us)) (hl:vs.length=ps.length) (r:Vals vs us) (L:mx s.heap H scope cl fr zs)
  (hbody:PE (nj P w K mg base (ps++fr) qual scope p (.ref c) cl A outer s H) body t) (hq:t (vs.map some++zs) H Q) :
  codeAny (model P w) A (.call (.ref p) ⟨us,[]⟩) (λr s'=>∃u,r = .ok (.ret u)/\CE outer P w H s Q u s') s:=by
 have lim:s.heap.NoLimit:=e0.mod.nolimit.keeps λb o e=>(e0.bs b o e).1;refine W.kla_callFunE hr ho rfl S.co S.gen rfl hcd ?_;rw[hb];refine ak (wpAny_newFunctionEnv S.qj (λx hx=>S.par _ (rB hx).1) (λh₁ hns hsb=>?_) S.kind);have hk:∀b o,s.heap.get? b=some o->h₁.get? b=some o:=λb o e=>hsb.extBut b o (a_ (aP e)) (aI _ e);refine⟨lim.keeps hk,?_⟩;show codeAny _ _ (.expr body (W.envX qual scope s.heap.objs.size p (.ref c) cl)) _ _;have I:=Wb (qual:=qual) (p:=p) (cd:=.ref c) (tk:=s.toks+(ps.zip us).length) S hd e0 hl r L hns hk;refine W.kla_codeExpr (fO (hbody [] _ _ H Q I hq) (λv s' ⟨x,H',J,rv,q⟩=>?_) λ_ _ z=>False.elim z);exact⟨v,rfl,x,H',J.os,J.bare,J.base,J.hok,rv,q⟩
end
section
variable {X:Cx} {pins:List (Addr × Obj)} {σ:St} {H:Hp} {s:Shared} {p:Addr} {qual:Str} {params:Arguments} {body:Expr} {scope:Scope} {ps:List Str} {fr:List (Str × Nat)} {A:Around} {t:TE} {Q:VK} {vs:List V} {us:List Value} {E:Value->Shared->Prop}
noncomputable def lamσ(fr:List (Str × Nat))(σ:St):St:=fr.map λq=>σ.getD q.2 none
theorem J9(B:eZ X scope fr)(I:Inv X pins σ H s):mx s.heap H scope (bE X.env.cells scope.names []) (fr.map (·.1)) (lamσ fr σ) where
 cell:=λx cc h=>⟨I.cell x cc (B.sub I.ok h),I.eO x cc (B.sub I.ok h)⟩
 inj:=λx y cc h1 h2=>I.ok.inj x y cc (B.sub I.ok h1) (B.sub I.ok h2)
 has:=λx h=>pQ (iF h)
 len:=by unfold lamσ;simp
 val:=λi x v e1 e2=>by
  unfold lamσ at e2;rw[bC]at e1 e2;cases hp:fr[i]? with
  |none=>rw[hp]at e1;cases e1
  |some q =>
   rw[hp]at e1 e2;simp only[Fw,w_]at e1 e2;obtain⟨i1,i2⟩:=B.ix q (cu hp);subst e1;have e2':σ[q.2]?=some (some v):=by
    rw[aL]at e2;cases z:σ[q.2]? with
    |none=>rw[z]at e2;cases e2
    |some y=>rw[z]at e2;exact congrArg some e2
   have kX:X.env.kindOf q.1=some .cell\/X.env.kindOf q.1=some .free:=B.free (q.1,.free) (iF i2) rfl;obtain⟨m',hn',hl'⟩:=I.loc;obtain⟨u,r,l⟩:=hl' q.2 q.1 v i1 e2' (.inr kX)
   rcases l with⟨k,_⟩|⟨_,cc,hc,z⟩
   ·rcases kX with w|w<;>(rw[k]at w;cases w)
   ·obtain⟨c',hc'⟩:=pQ (cells:=X.env.cells) (acc:=[]) (iF i2)
    have:=B.sub I.ok hc';rw[hc]at this;cases this;exact⟨cc,u,hc',z,r⟩
theorem V'(B:eZ X scope fr)(S:oP ps (fr.map (·.1)) scope)(I:Inv X pins σ H s)(L:cY H p qual params body scope (bE X.env.cells scope.names []))(hA:A.frames=X.A.frames)(hr:A.depth<recursionLimit)(hd:A.handled=none)
  (hb:∀(cl:List (Str × Addr)) (pm cd ctv:Value) (us:List Value),us.length=ps.length->bindArgs (W.kla_fn "<lambda>" qual params body scope cl pm cd ctv) ⟨us,[]⟩=pure (ps.zip us))
  (hbody:∀(c:Addr),PE (nj X.prog X.w X.K X.mg X.base (ps++fr.map (·.1)) qual scope p (.ref c) (bE X.env.cells scope.names []) A X.stack s H) body t)
  (hl:vs.length=ps.length) (r:Vals vs us) (hq:t (vs.map some++lamσ fr σ) H Q):wpAny (model X.prog X.w) A (call (.ref p) us) (EP X pins σ Q) E s:=by
 obtain⟨c,pm,ctv,ho,hcd⟩:=L.get I.hok;have e0:=I.env0;have e1:fK X.prog X.w X.K X.mg X.base A X.stack s H:=⟨hA.trans e0.frames,e0.mod,e0.bs,e0.fS,e0.d9,e0.iK,e0.hok,e0.bare⟩;refine mN (fM (J_ S hr hd e1 ho hcd (hb _ _ _ _ _ (by rw[<- r.length];exact hl)) hl r (J9 B I) (hbody c) hq) λr s' ⟨u,e,hq⟩=>?_);subst e;exact I.after hq
end
theorem nW:∀{ns:List Int} {vs:List Value},Vals (ns.map V.int) vs->IntsAre vs ns
 | [],_,.nil=>.nil
 |n::ns,_,.cons r t=>by
  obtain⟨k,rfl⟩:=r;exact .cons n k (nW t)
theorem X_{α β:Type}{R:α->β->Prop}{l' m':List β}(h:m'.Perm l'):∀{l:List α},Paired R l l'->∃m,m.Perm l/\Paired R m m':=by
 induction h with
 |nil=>intro l p;exact⟨l,.refl _,p⟩
 |cons x _ ih =>
  intro l p;cases p with
  |cons r t =>
   obtain⟨m,h1,h2⟩:=ih t;exact⟨_::m,h1.cons _,.cons r h2⟩
 |swap x y l =>
  intro l p;cases p with
  |cons r t =>
   cases t with
   |cons r' t'=>exact⟨_,.swap _ _ _,.cons r' (.cons r t')⟩
 |trans _ _ ih1 ih2 =>
  intro l p;obtain⟨m1,h1,h2⟩:=ih2 p;obtain⟨m2,h3,h4⟩:=ih1 h2;exact⟨m2,h3.trans h1,h4⟩
noncomputable def jn(kz:List Int)(xs ys:List V):Prop:=∃ps:List (Int × V),ps.Perm (kz.zip xs)/\ys=ps.map Prod.snd/\ps.Pairwise λp q=>p.1<=q.1
theorem Qa:∀{kz:List Int} {xs:List V} {us:List Value},Vals xs us->Paired (λ(p:Int × V) (q:Int × Value)=>p.1=q.1/\RelV p.2 q.2) (kz.zip xs) (kz.zip us)
 | [],_,_,_=>by simp;exact .nil
 |_::_,_,_,.nil=>by simp;exact .nil
 |k::kz,_,_,.cons r t=>by rw[mE,mE];exact .cons ⟨rfl,r⟩ (Qa t)
theorem L7:∀{l:List (Int × V)} {m:List (Int × Value)},Paired (λ(p:Int × V) (q:Int × Value)=>p.1=q.1/\RelV p.2 q.2) l m->Vals (l.map Prod.snd) (m.map Prod.snd)/\l.map Prod.fst=m.map Prod.fst
 |_,_,.nil=>⟨.nil,rfl⟩
 |_,_,.cons r t=>by
  obtain⟨h1,h2⟩:=L7 t;exact⟨.cons r.2 h1,by rw[bA,bA,h2,r.1]⟩
theorem Ov{kz:List Int}{xs:List V}{us out:List Value}(r:Vals xs us)(h:KskOut false kz us out):∃ys,Vals ys out/\jn kz xs ys:=by
 obtain⟨qs,h1,h2,h3⟩:=h;obtain⟨ps,g1,g2⟩:=X_ h1 (Qa (kz:=kz) r);obtain⟨g3,g4⟩:=L7 g2;refine⟨ps.map Prod.snd,by rw[h2];exact g3,ps,g1,rfl,?_⟩;have h5:(qs.map Prod.fst).Pairwise (·<=·):=by
  rw[fh];exact h3.imp λ{a b} z=>z
 rw[<- g4,fh]at h5;exact h5
section
variable {prog:Program} {w:World} {A:Around} {E:Value->Shared->Prop} {s:Shared} {a kS:Addr} {e1:Nat} {keys:Array Value} {its:List Value} {kz:List Int}
theorem Z8{R:PySem.Fin->Shared->Prop}(hk:IntsAre keys.toList kz)(hlen:kz.length=its.length)(h64:its.length<64)(h:∀st:SortSt,(arrOf st).Perm (keys.zip its.toArray)->failedOf st=none->SortedTo (arrOf st) (arrOf st).size->wpAny (model prog w) A (ksk_tail a false e1 (.ref kS) st) R E s):wpAny (model prog w) A (ksk_end a false its.toArray e1 (.ref kS) keys) R E s:=by
 have n1:keys.size=its.length:=by rw[<- eY,hk.length];exact hlen
 have n2:(keys.zip its.toArray).size=its.length:=by simp[n1]
 unfold ksk_end;simp only[e9,dQ]
 by_cases few:its.toArray.size<2
 ·simp only[if_pos few]
  refine ae (ak ?_);rw[StateT.run_pure];refine ae (ak (h _ (Ea _) rfl λi j hij hj=>?_));have hj':j<(keys.zip its.toArray).size:=hj;rw[bG]at few;rw[n2]at hj';obtain rfl:i=j:=by omega
  exact j0 _
 ·simp only[if_neg few]
  rw[bG]at few;rw[ksk_kind hk (by omega)];refine ae (ak (ae (fO (wpS_sortRuns (a₀:=keys.zip its.toArray) (st:=SortSt.mk' oneType' (keys.zip its.toArray) #[] 7 none)
   (Q:=λ_ q=>(arrOf q).Perm (keys.zip its.toArray)/\failedOf q=none/\SortedTo (arrOf q) (keys.zip its.toArray).size) (ksk_intKeys hk) ⟨Ea _,rfl,rfl,rfl⟩ (by omega) (by omega) λq z1 z2 z3=>⟨z1,z2,z3⟩) ?_ λ_ _ z=>z)))
  rintro⟨⟨⟩,q⟩ s' ⟨rfl,z1,z2,z3⟩;exact h q z1 z2 (by rw[z1.size_eq];exact z3)
end
noncomputable def k6(K:W.Frag)(H:Hp)(v:V)(xs:List V):Prop:=
 (∃r n,v = .ref r/\H r=some (.rng 0 n)/\-(2 ^ 62)<=n/\n<2 ^ 62/\xs=(List.range n.toNat).map λ(i:Nat)=>V.int i)\/(∃r,v = .ref r/\ai K H r xs)
section
variable {X:Cx} {pins:List (Addr × Obj)} {σ:St} {H:Hp} {s:Shared} {A:Around} {E:Value->Shared->Prop}
theorem aaW{its:Array Value}{n:Nat}(h:ItemsOf (λi v=>∃t,v=Value.int (0+(i:Nat)*1) t) its n):Vals ((List.range n).map λ(i:Nat)=>V.int i) its.toList:=by
 have go:∀(us:List Value) (k:Nat),(∀(j:Nat) v,us[j]?=some v->∃t,v=Value.int ((k+j:Nat):Int) t)->Vals ((List.range' k us.length).map λ(i:Nat)=>V.int i) us:=by
  intro us
  induction us with
  |nil=>intro k _;exact .nil
  |cons u us ih =>
   intro k hu;rw[dW,List.range'_succ,bA];refine .cons ?_ (ih (k+1) λj v e=>?_)
   ·obtain⟨t,e⟩:=hu 0 u rfl
    exact⟨t,by simpa using e⟩
   ·obtain⟨t,e⟩:=hu (j+1) v (by simpa using e)
    exact⟨t,by rw[e];congr 1;omega⟩
 have:=go its.toList 0 λj v e=>by
  obtain⟨t,q⟩:=h.2 j v (by simpa using e);exact⟨t,by rw[q];congr 1;simp⟩
 rw[eY,h.1]at this;rw[List.range_eq_range'];exact this
theorem G6{v:V}{u:Value}{xs:List V}{R:List Value->Shared->Prop}(hh:A.handled=none)(I:Inv X pins σ H s)(r:RelV v u)(h:k6 X.K H v xs)(hz:xs.length<=2 ^ 24)(q:∀its s',Vals xs its->Inv X pins σ H s'->R its s'):wpAny (model X.prog X.w) A (collect u) R E s:=by
 have hzl:(2:Nat) ^ 24<=sizeLine:=by decide +kernel
 rcases h with⟨a,n,rfl,ha,b1,b2,rfl⟩|⟨a,rfl,ha⟩
 ·obtain rfl:u = .ref a:=r
  obtain⟨t,t',t'',ea⟩:=(show a8 X.prog X.w H s.heap a (.rng 0 n)from I.hok a _ ha);have sz:n.toNat<=2 ^ 24:=by simpa using hz
  unfold collect;refine ae (xI (jd Fz ?_));show wpAny _ _ (newList []>>=λl=>again (.builtin "list.__iadd__" ⟨[l,.ref a],[]⟩)) _ _ s;have old:∀b o,s.heap.get? b=some o->(s.heap.push (seqObj "list" #[] 0)).get? b=some o:=λb o e=>aI _ e;have add:codeAny (model X.prog X.w) A (.builtin "list.__iadd__" ⟨[.ref s.heap.objs.size,.ref a],[]⟩) (λr s'=>r = .ok (.ret (.ref s.heap.objs.size))/\∃h' tk acc c',s' = {s with heap:=h',toks:=tk}/\(∀b o,s.heap.get? b=some o->h'.get? b=some o) /\
    h'.get? s.heap.objs.size=some {cls:=.type "list", dict:=none,data:=.seq acc c',slots:=#[]}/\Vals ((List.range n.toNat).map λ(i:Nat)=>V.int i) acc.toList) {s with heap:=s.heap.push (seqObj "list" #[] 0)}:=by
   refine jd entry_list_iadd' ?_;show wpAny _ A.in1 (Builtin.List.listExtendWith (.ref s.heap.objs.size) (.ref a) (.ref s.heap.objs.size)) _ _ _;exact wpAny_extend_range (s:={s with heap:=s.heap.push (seqObj "list" #[] 0)}) (R:=λr s'=>r = .ok (.ret (.ref s.heap.objs.size))/\∃h' tk acc c',s' = {s with heap:=h',toks:=tk}/\(∀b o,s.heap.get? b=some o->h'.get? b=some o) /\
    h'.get? s.heap.objs.size=some {cls:=.type "list", dict:=none,data:=.seq acc c',slots:=#[]}/\Vals ((List.range n.toNat).map λ(i:Nat)=>V.int i) acc.toList)
    (n:=n.toNat) hh (old _ _ ea) (small_one (by omega) (by omega) b1 b2) (by rw[rangeSize_one];split<;>omega) sz s.heap.objs.size (.ref s.heap.objs.size) 0 (bf _ rfl) λh' tk acc c' hk hS hacc =>
     ⟨rfl,h',tk,acc,c',rfl,λb o e=>hk b o (a_ (aP e)) (old b o e),hS,aaW hacc⟩
  refine ae (jh (ak ⟨xk _ (by decide +kernel),fM add λr s' hr=>?_⟩));obtain⟨rfl,h',tk,acc,c',rfl,hk,hS,hv⟩:=hr;show wpAny _ A (load s.heap.objs.size>>=λo=>match o.data with | .seq xs _=>pure xs.toList|_=>unsupported "internal:collect") _ _ _;refine ae (wpAny_load hS ?_);exact ak (q _ _ hv (I.kept hk))
 ·obtain rfl:u = .ref a:=r
  obtain⟨its,hl,rv⟩:∃its:List Value,s.heap.IsList a its.toArray/\Vals xs its:=by
   rcases ha with ha|⟨o,its,n,e1,e2,e0,e3,e4,e6⟩
   ·obtain⟨_,its,n,rv,e⟩:=ha.ok I.hok
    exact⟨its,⟨_,e,rfl,n,rfl⟩,rv⟩
   ·exact⟨its.toList,⟨o,I.bU _ _ e1,e2,n,by simpa using e3⟩,e6⟩
  refine collect_list hl (q _ _ rv (I.kept λb o e=>?_)) (by rw[<- rv.length];omega);rw[mM _ _ _ _ (a_ (aP e))];exact aI _ e
end
section
variable {X:Cx} {pins:List (Addr × Obj)} {σ:St} {G0:Hp} {s:Shared} {A:Around} {E:Value->Shared->Prop} {a kS p:Addr} {e1:Nat} {qual x:Str} {params:Arguments} {body:Expr} {scope:Scope} {fr:List (Str × Nat)} {tb:TE}
 {xs:List V} {its:List Value} {R:PySem.Fin->Shared->Prop} {Kp:Nat->V->Hp->Prop}
structure kQ (X:Cx) (qual x:Str) (params:Arguments) (body:Expr) (scope:Scope) (fr:List (Str × Nat)) (tb:TE):Prop where
 blk:eZ X scope fr
 sc:oP [x] (fr.map (·.1)) scope
 bind:∀(cl:List (Str × Addr)) (pm cd ctv:Value) (us:List Value),us.length=1->bindArgs (W.kla_fn "<lambda>" qual params body scope cl pm cd ctv) ⟨us,[]⟩=pure ([x].zip us)
 run:∀(A:Around) (s:Shared) (H:Hp) (p c:Addr),A.guards=X.A.guards->A.units<=X.A.units+2->A.depth=X.A.depth->PE (nj X.prog X.w X.K X.mg X.base ([x]++fr.map (·.1)) qual scope p (.ref c) (bE X.env.cells scope.names []) A X.stack s H) body tb
theorem sort_keys(hA:A.frames=X.A.frames)(hd:A.handled=none)(hr:A.depth<recursionLimit)(ko:A.guards=X.A.guards/\A.units<=X.A.units+2/\A.depth=X.A.depth)(KL:kQ X qual x params body scope fr tb)(hlen:its.length<1000)
  (I:Inv X ((a,seqObj "list" #[] e1)::pins) σ G0 s) (hkS:G0 kS=some (.lst [])) (L:cY G0 p qual params body scope (bE X.env.cells scope.names [])) (rv:Vals xs its)
  (mono:∀i z H H',Kp i z H->cG kS H H'->Kp i z H') (turn:∀(i:Nat) y,xs[i]?=some y->∀H3,cG kS G0 H3->(∃kv,H3 kS=some (.lst kv))->tb (some y::lamσ fr σ) H3 λz H4=>Kp i z H4/\Same H3 H4)
  (fin:∀(kv:List V) (G:Hp) (s':Shared) (keys:List Value) (n:Nat),kv.length=xs.length->(∀(i:Nat) z,kv[i]?=some z->Kp i z G)->Inv X ((a,seqObj "list" #[] e1)::pins) σ G s'->G kS=some (.lst kv)->cG kS G0 G ->
   s'.heap.get? kS=some (seqObj "list" keys.toArray n)->Vals kv keys->wpAny (model X.prog X.w) A (ksk_end a false its.toArray e1 (.ref kS) keys.toArray) R E s') :
  wpAny (model X.prog X.w) A (ksk_rest a (.ref p) false its.toArray e1 (.ref kS)) R E s:=by
 have big:(1000:Nat)<=sizeLine:=by decide +kernel
 unfold ksk_rest;refine ae (jk (ae ?_))
 first
  |rw[List.forIn_toArray]
  |rw[<- Array.forIn_toList]
 refine ksk_fold (λi s'=>∃(kv:List V) (G:Hp),kv.length=i/\(∀(j:Nat) z,kv[j]?=some z->Kp j z G)/\Inv X ((a,seqObj "list" #[] e1)::pins) σ G s'/\G kS=some (.lst kv)/\cG kS G0 G) its 0 s
  ⟨[],G0,rfl,λj z e=>by simp at e,I,hkS,λb o _ e=>e⟩ ?_ ?_
 ·rintro j v s' hv ⟨kv,G,hl,hK,J,hG,sm⟩
  rw[Nat.zero_add]at hl ⊢;obtain⟨y,hy,ry⟩:∃y,xs[j]?=some y/\RelV y v:=by
   have hj:j<xs.length:=by rw[rv.length];exact(bp.mp hv).1
   obtain⟨u,e1,e2⟩:=rv.get (aq hj);rw[hv]at e1;cases e1;exact⟨_,aq hj,e2⟩
  have hj:j<its.length:=(bp.mp hv).1;have LG:cY G p qual params body scope (bE X.env.cells scope.names []):=by
   obtain⟨c,o,u,h1,h2,h3⟩:=L.ex;exact⟨c,o,u,sm _ _ (jL h1 hkS (by intro z;cases z)) h1,h2,sm _ _ (jL h3 hkS (by intro z;cases z)) h3⟩
  refine ae (jf (fO (V' (E:=λ_ _=>False) KL.blk KL.sc J LG hA hr hd KL.bind (λc=>KL.run A s' G p c ko.1 ko.2.1 ko.2.2) (vs:=[y]) (us:=[v]) rfl (.cons ry .nil) (turn j y hy G sm ⟨_,hG⟩)) (λk s2 ⟨z,H4,J4,rz,hz,s4⟩=>?_) λ_ _ z=>z.elim));have g4:=s4 _ _ hG;obtain⟨_,ks,n,rk,lk,ek⟩:=J4.lC g4;refine ae (mK ek rfl ?_ (by show(ks.toArray).size<=sizeLine;rw[bG];omega) (by show(ks.toArray.push k).size<=sizeLine+1;rw[Array.size_push,bG];omega));have J5:=J4.ua (f:=(·.push k)) (its':=ks++[k]) (ys:=kv++[z]) (t':=s2.toks) g4 ek (by simp) (rk.append (.cons rz .nil)) (by rw[de,wJ];omega);have sx:cG kS H4 (upd H4 kS (.lst (kv++[z]))):=λb o hb e=>by rw[aG hb];exact e
  refine ak ⟨rfl,kv++[z],_,by rw[de,wJ,hl],λi q e=>?_,J5,aA,λb o hb e=>sx b o hb (s4 b o (sm b o hb e))⟩
  by_cases hi:i<kv.length
  ·rw[mD hi]at e
   exact mono _ _ _ _ (mono _ _ _ _ (hK i q e) λb o _ e=>s4 b o e) sx
  ·rw[kR (i_ hi)]at e
   have hi2:i - kv.length=0:=by
    have:=(bp.mp e).1;rw[wJ]at this;omega
   rw[hi2]at e;cases e;obtain rfl:i=j:=by omega
   exact mono _ _ _ _ hz sx
 ·rintro s' ⟨kv,G,hl,hK,J,hG,sm⟩
  obtain⟨_,ks,n,rk,lk,ek⟩:=J.lC hG;refine ae (mJ ek rfl ?_);exact fin kv G s' ks n (by rw[hl,rv.length];omega) hK J hG sm ek rk
theorem Ot {keys:List Value} {n:Nat} {G:Hp} {kv:List V} {st:SortSt} {ys:List V} {out:List Value} (I:Inv X ((a,seqObj "list" #[] e1)::pins) σ G s) (hkS:G kS=some (.lst kv)) (ek:s.heap.get? kS=some (seqObj "list" keys.toArray n))
  (hz:keys.length<=sizeLine) (fa:cq X pins G a) (hf:failedOf st=none) (ho:((arrOf st).map (·.2)).toList=out) (rv:Vals ys out) (Vp:out.length<=sizeLine)
  (q:∀s',Inv X pins σ (upd (upd G kS (.lst [])) a (.lst ys)) s'->R (.done (.ret .none)) s'):wpAny (model X.prog X.w) A (ksk_tail a false e1 (.ref kS) st) R E s:=by
 have ea:=(I.pin (a,seqObj "list" #[] e1) (eI _ (bx ..))).1;have KY:a≠kS:=λz=>by rw[<- z,fa.1]at hkS;cases hkS
 have ho':(arrOf st).map (·.2)=out.toArray:=by rw[<- ho]
 unfold ksk_tail;dsimp only;refine ae (mK ek rfl ?_ (by show(keys.toArray).size<=sizeLine;rw[bG];exact hz) (bM _));have J1:=I.ua (f:=λ_=>#[]) (its':=[]) (ys:=[]) (t':=s.toks) hkS ek rfl .nil (bM _);have jA:(s.heap.update kS (Obj.mapSeq λ_=>(#[]:Array Value))).get? a=some (seqObj "list" #[] e1):=by rw[mM _ _ _ _ KY];exact ea
 refine ae (xF (ae (rM jA rfl (ae (mK jA rfl ?_ (bM _) (by show((arrOf st).map (·.2)).size<=sizeLine+1;rw[ho',bG];omega))))));rw[hf];simp only[bne_self_eq_false,e9,dQ];refine ak (q _ ?_);have K1:Inv X pins σ (upd G kS (.lst [])) {s with heap:=s.heap.update kS (Obj.mapSeq λ_=>(#[]:Array Value)),toks:=s.toks}:=J1.qz λp hp=>(J1.pin p (eI _ (bu _ hp)));have gn:upd G kS (.lst []) a=none:=by rw[aG KY];exact fa.1
 have keep:∀b o,b≠a->(s.heap.update kS (Obj.mapSeq λ_=>(#[]:Array Value))).get? b=some o->((s.heap.update kS (Obj.mapSeq λ_=>(#[]:Array Value))).update a (Obj.mapSeq λ_=>(arrOf st).map (·.2))).get? b=some o:=λb o hb e=>by
  rw[mM _ _ _ _ hb];exact e
 have hit:∃c,((s.heap.update kS (Obj.mapSeq λ_=>(#[]:Array Value))).update a (Obj.mapSeq λ_=>(arrOf st).map (·.2))).get? a=some (seqObj "list" out.toArray c):=by
  rw[ho'];exact⟨_,o9 jA λ_=>out.toArray⟩
 obtain⟨c,hit⟩:=hit;have lG:∀b u,upd G kS (.lst []) b=some u->b≠a:=λb u e z=>by rw[z,gn]at e;cases e
 refine Inv.step (s:={s with heap:=s.heap.update kS (Obj.mapSeq λ_=>(#[]:Array Value)),toks:=s.toks}) (g':=s.gens) (d':=s.drawn) (t':=s.toks) (ch:=[a]) K1 (λb hb=>?_) (λb o _ _ hc e _=>keep b o (λz=>hc (by simp[z])) e) (λb o _ _ hc e _=>⟨o.slots,keep b o (λz=>hc (by simp[z])) e⟩) (λb o hc _ n=>?_) (λb o hc e=>⟨o,keep b o (λz=>hc (by simp[z])) e⟩)
  (λb zs e=>?_) (λb o u e=>?_) (λb ps e=>?_) (λm hm=>?_) (λb u e=>?_) K1.bare
 ·obtain rfl:b=a:=by simpa using hb
  exact⟨fa.2.2.2.1,fa.2.1,fa.2.2.2.2.1,fa.2.2.2.2.2⟩
 ·rw[aG (λz=>hc (by simp[z]))];exact n
 ·rw[aG (lG b _ e)];exact e
 ·rw[aG (lG b _ e)];exact e
 ·exact⟨#[],by rw[aG (lG b _ e),e];simp⟩
 ·obtain⟨o,es,ep,h1,h2⟩:=hm
  exact⟨o,es,ep,keep _ o fa.2.1.symm h1,h2⟩
 ·by_cases hb:b=a
  ·subst hb
   rw[aA]at e;cases e;exact⟨by rw[rv.length];exact Vp,out,c,rv,hit⟩
  ·rw[aG hb]at e
   refine(K1.hok b u e).stay (λd v hd' r=>keep d v ?_ r) (λd r=>by rw[aG (lG d _ r)];exact r) (λd xs r=>by rw[aG (lG d _ r)];exact r) λd ob u r=>by rw[aG (lG d _ r)];exact r
   rcases hd' with rfl|hd'
   ·exact hb
   ·exact lG d _ hd'
end
section
variable {X:Cx} {pins:List (Addr × Obj)} {σ:St} {H:Hp} {s:Shared} {qual x:Str} {params:Arguments} {body:Expr} {scope:Scope} {fr:List (Str × Nat)} {tb:TE} {p:Addr} {v:V} {u:Value} {xs:List V} {kz:List Int} {Q:VK} {E:Value->Shared->Prop}
theorem Z_{A:Around}{a:Addr}{its:List Value}{R:PySem.Fin->Shared->Prop}(hA:A.frames=X.A.frames)(hd:A.handled=none)(hr:A.depth<recursionLimit)(ko:A.guards=X.A.guards/\A.units<=X.A.units+2/\A.depth=X.A.depth)(KL:kQ X qual x params body scope fr tb)
  (I:Inv X pins σ H s) (fa:cq X pins H a) (ea:s.heap.get? a=some (seqObj "list" its.toArray 0)) (rv:Vals xs its) (L:cY H p qual params body scope (bE X.env.cells scope.names [])) (hl:kz.length=xs.length) (h64:xs.length<64)
  (turn:∀(i:Nat) y k,xs[i]?=some y->kz[i]?=some k->∀H3,Same H H3->tb (some y::lamσ fr σ) H3 λz H4=>z = .int k/\Same H3 H4)
  (q:∀ys H3 s',Same H H3->H3 a=some (.lst ys)->jn kz xs ys->Inv X pins σ H3 s'->R (.done (.ret .none)) s') :
  wpAny (model X.prog X.w) A (ksk_tree a (.ref p) false) R E s:=by
 have big:(64:Nat)<=sizeLine:=by decide +kernel
 have l1:=rv.length;have al:a<s.heap.objs.size:=aP ea;unfold ksk_tree;refine ae (mJ ea rfl (ae (mK ea rfl ?_ (by show(its.toArray).size<=sizeLine;rw[bG];omega) (bM _))));obtain⟨e1,jA⟩:∃e1,(s.heap.update a (Obj.mapSeq λ_=>(#[]:Array Value))).get? a=some (seqObj "list" #[] e1):=⟨_,o9 ea λ_=>#[]⟩;have I1:Inv X pins σ H {s with heap:=s.heap.update a (Obj.mapSeq λ_=>(#[]:Array Value)),toks:=s.toks}:=
  I.turned (λb o hb e=>by rw[mM _ _ _ _ hb];exact e) fa.1 fa.2.1 fa.2.2.2.1 fa.2.2.2.2.1 fa.2.2.2.2.2
 refine ae (rM jA rfl (ae (rS (ae (jh (fk ?_) (bM _))) (by show its.length<=sizeLine;omega))));have I2:Inv X pins σ H {s with heap:=(s.heap.update a (Obj.mapSeq λ_=>(#[]:Array Value))).push {cls:=.type "tuple", data:=.seq its.toArray},toks:=s.toks}:=I1.kept λb o e=>aI _ e;have I3:=I2.t_ (its:=[]) (ys:=[]) (t':=s.toks) .nil (bM _);have pU:((s.heap.update a (Obj.mapSeq λ_=>(#[]:Array Value))).push {cls:=.type "tuple", data:=.seq its.toArray}).get? a=some (seqObj "list" #[] e1):=aI _ jA;have nH:H ((s.heap.update a (Obj.mapSeq λ_=>(#[]:Array Value))).push {cls:=.type "tuple", data:=.seq its.toArray}).objs.size=none:=I2.fresh;have nk:a≠((s.heap.update a (Obj.mapSeq λ_=>(#[]:Array Value))).push {cls:=.type "tuple", data:=.seq its.toArray}).objs.size:=a_ (aP pU);generalize hkS:((s.heap.update a (Obj.mapSeq λ_=>(#[]:Array Value))).push {cls:=.type "tuple", data:=.seq its.toArray}).objs.size=kS at I3 nH nk;have zj:cq X pins (upd H kS (.lst [])) a:=⟨by rw[aG nk];exact fa.1,fa.2⟩;have I4:Inv X ((a,seqObj "list" #[] e1)::pins) σ (upd H kS (.lst [])) _:=I3.qz λq hq=>by
  rcases aY.mp hq with rfl|hq
  ·exact⟨aI _ pU,zj.1,fa.2.1,fa.2.2.1,λv z=>by cases z⟩
  ·exact I3.pin q (eI _ hq)
 have sm:Same H (upd H kS (.lst [])):=Same.put nH;refine sort_keys (Kp:=λi z _=>∀k,kz[i]?=some k->z = .int k) hA hd hr ko KL (by omega) I4 aA (L.same sm) rv (λ_ _ _ _ z _=>z) (λi y hy H3 s3 _=>?_) (λkv G s' keys n hkv hK J hG sX ek rk=>?_)
 ·have hi:i<kz.length:=by rw[hl];exact(bp.mp hy).1
  have:=turn i y _ hy (aq hi) H3 (cG.of nH λb o hb e=>s3 b o hb (sm b o e));have e:(λ(z:V) (H4:Hp)=>z = .int kz[i]/\Same H3 H4)=λz H4=>(∀k,kz[i]?=some k->z = .int k)/\Same H3 H4:=by
   funext z H4
   refine propext ⟨λ⟨h1,h2⟩=>⟨λk ek=>?_,h2⟩,λ⟨h1,h2⟩=>⟨h1 _ (aq hi),h2⟩⟩;rw[aq hi]at ek;cases ek;exact h1
  rw[e]at this;exact this
 ·have Ss:kv=kz.map V.int:=by
   refine gw (by rw[ao];omega) λi h1 h2=>?_;rw[rj];exact hK i _ (aq h1) _ (aq (by rw[ao]at h2;exact h2))
  subst Ss;have hk:IntsAre keys.toArray.toList kz:=by simpa using nW rk
  have hkl:keys.length=kz.length:=by rw[<- rk.length,ao]
  refine Z8 hk (by omega) (by omega) λst z1 z2 z3=>?_;have out:=ksk_out (b:=false) hk z1 z3;simp only[e9,dQ]at out;obtain⟨ys,hv,hs⟩:=Ov rv out;have fG:cq X pins G a:=⟨(J.pin (a,seqObj "list" #[] e1) (eI _ (bx ..))).2.1,fa.2⟩;refine Ot J hG ek (by omega) fG z2 rfl hv ?_ λs2 J2=>q ys _ s2 (λb o e=>?_) aA hs J2
  ·have:((arrOf st).map (·.2)).toList.length=its.length:=by
    rw[eY,Ec,z1.size_eq];simp;omega
   omega
  ·have b1:b≠kS:=cx e nH
   have b2:b≠a:=cx e fa.1;rw[aG b2,aG b1];exact sX b o b1 (sm b o e)
theorem RB(hr:bj 0 X.A)(KL:kQ X qual x params body scope fr tb)(I:Inv X pins σ H s)(r:RelV v u)(src:k6 X.K H v xs)(L:cY H p qual params body scope (bE X.env.cells scope.names []))(hl:kz.length=xs.length)(h64:xs.length<64)(turn:∀(i:Nat) y k,xs[i]?=some y->kz[i]?=some k->∀H3,Same H H3->tb (some y::lamσ fr σ) H3 λz H4=>z = .int k/\Same H3 H4)(q:∀ys r H3,Same H H3->H r=none->H3 r=some (.lst ys)->jn kz xs ys->Q (.ref r) H3):
  wpAny (model X.prog X.w) X.A (call (.builtin "sorted") [u] [(Str.ofString "key", .ref p)]) (EP X pins σ Q) E s:=by
 have big:(64:Nat)<=sizeLine:=by decide +kernel
 refine xc kind_sorted plain_sorted entry_sorted (ksk_s1 u (.ref p)) ?_;unfold Builtin.«sorted»;refine ae (m:=checkCount "sorted" 1 1 _) (ak (ae (G6 (A:=X.A.in1) hr.hd I r src (by omega) λits s1 rv I1=>ae (jh ?_ (by rw[<- rv.length];omega)))));have I2:Inv X pins σ H {s1 with heap:=s1.heap.push {cls:=.type "list", data:=.seq its.toArray},toks:=s1.toks}:=I1.kept λb o e=>aI _ e;have fa:cq X pins H s1.heap.objs.size:=I1.km (aH _) I1.fresh;have ea:(s1.heap.push {cls:=.type "list", data:=.seq its.toArray}).get? s1.heap.objs.size=some (seqObj "list" its.toArray 0):=bf _ rfl;refine ae (fk (xi xh ⟨_,ea,rfl⟩ xg ?_ (ksk_l1 _ _)));show wpAny (model X.prog X.w) X.A.in1.in1 (Builtin.«list.sort» ⟨[.ref s1.heap.objs.size],[(Str.ofString "key", .ref p)]⟩) _ _ _;rw[ksk_t1];refine Z_ (s:={s1 with heap:=s1.heap.push {cls:=.type "list", data:=.seq its.toArray},toks:=s1.toks}) rfl hr.hd hr.depth ⟨rfl,aH _,rfl⟩ KL I2 fa ea rv L hl h64 turn λys H3 s3 sm g3 so I3=>⟨_,rfl,ak ⟨_,rfl,.ref s1.heap.objs.size,H3,I3,rfl,q ys _ H3 sm fa.1 g3 so⟩⟩
end
section
variable {X:Cx} {x:Str} {params:Arguments} {body e:Expr} {scope:Scope} {fr:List (Str × Nat)} {tb ti:TE} {c P:Addr} {p0 bV kpos pos:Pos}
noncomputable def aaE(K:W.Frag)(ti:TE)(P:Addr)(pos:Pos)(qual:Str)(fr:List (Str × Nat))(tb:TE):TE:=λσ H Q=>ti σ H λv H1=>H1 P=some (.lam pos qual)/\∃(xs:List V) (kz:List Int),k6 K H1 v xs/\kz.length=xs.length/\xs.length<64 /\
 (∀(i:Nat) y k,xs[i]?=some y->kz[i]?=some k->∀H3,Same H1 H3->tb (some y::lamσ fr σ) H3 λz H4=>z = .int k/\Same H3 H4) /\
 ∀ys r H3,Same H1 H3->H1 r=none->H3 r=some (.lst ys)->jn kz xs ys->Q (.ref r) H3
noncomputable def qm(B:V->Hp->Prop):List V->Hp->Prop:=λvs H=>match vs with
 | [v]=>B v H
 |_=>False
theorem qm.get{B:V->Hp->Prop}{vs:List V}{H:Hp}(h:qm B vs H):∃v,vs = [v]/\B v H:=by
 unfold qm at h
 split at h
 ·exact⟨_,rfl,h⟩
 ·exact h.elim
theorem k6.same{K:W.Frag}{H H':Hp}{v:V}{xs:List V}(h:k6 K H v xs)(s:Same H H'):k6 K H' v xs:=by
 rcases h with⟨r,n,h1,h2,h3⟩|⟨r,h1,h2⟩
 ·exact .inl ⟨r,n,h1,s _ _ h2,h3⟩
 ·exact .inr ⟨r,h1,s.seq h2⟩
theorem Ys (hg:Gl X "sorted") (hm:X.mg "sorted" = none) (T:TabAt X.base X.mg c P) (hcode:X.env.code = .ref c) (hr:bj 0 X.A) (KL:kQ X (X.env.qual ++ "<lambda>") x params body scope fr tb) (hi:PE X e ti)
  (hdef:defaultsOf params X.env=([],[]):=by rfl) (he:starEach [e] X.env = [(false,eval e X.env)]:=by rfl) :
  PE X (.Call (.Name "sorted" p0) [e] [⟨some "key", .Lambda params body scope bV,kpos⟩] pos) (aaE X.K ti P bV (X.env.qual ++ "<lambda>") fr tb):=by
 intro pins s σ H Q I h;refine je (iR I hg hm boot_sorted ?_ (by decide) (by decide));refine callWith_kw (kws:=[⟨some "key", .Lambda params body scope bV,kpos⟩]) (aC (ag hi ah he pos pins s σ H (qm λv H1=>H1 P=some (.lam bV (X.env.qual ++ "<lambda>"))/\∃(xs:List V) (kz:List Int),k6 X.K H1 v xs/\kz.length=xs.length/\xs.length<64 /\
  (∀(i:Nat) y k,xs[i]?=some y->kz[i]?=some k->∀H3,Same H1 H3->tb (some y::lamσ fr σ) H3 λz H4=>z = .int k/\Same H3 H4)/\∀ys r H3,Same H1 H3->H1 r=none->H3 r=some (.lst ys)->jn kz xs ys->Q (.ref r) H3) I h) λus s1 hq=>?_) (by rw[he];rfl) (by rw[he];rfl) (by rfl) (by rfl)
 ·obtain⟨vs,H1,I1,r1,hq⟩:=hq
  obtain⟨v,rfl,hP,xs,kz,src,hl,h64,turn,q⟩:=hq.get;obtain⟨u,rfl,ru⟩:=r1.one;refine kws_cons (aC (uB T hcode (λok y hy hk=>ok.has _ (KL.blk.free y hy hk)) hdef pins s1 σ H1 (λf H2=>∃p,f = .ref p/\Same H1 H2/\cY H2 p (X.env.qual ++ "<lambda>") params body scope (bE X.env.cells scope.names [])) I1 ⟨hP,λp H2 s2 _ L=>⟨p,rfl,s2,L⟩⟩) λfv s2 ⟨f,H2,I2,rf,p,ef,sm,L⟩=>kws_nil ?_);subst ef;obtain rfl:fv = .ref p:=rf;exact RB hr KL I2 ru (src.same sm) L hl h64 (λi y k h1 h2 H3 s3=>turn i y k h1 h2 H3 (sm.trans s3)) λys r H3 s3 n3 g3 so=>q ys r H3 (sm.trans s3) (sm.free n3) g3 so
end
section
variable {X:Cx} {pins:List (Addr × Obj)} {σ:St} {H:Hp} {s:Shared} {scope:Scope} {v:Str} {fr:List (Str × Nat)} {own:List Str} {fp:List Addr}
end
section
variable {X:Cx} {elt tg iter:Expr} {ifs:List Expr} {scope:Scope} {pos:Pos} {v:Str} {own:List Str} {fr:List (Str × Nat)} {wi:TI} {g:TG} {tc:TT} {te:TE}
end
noncomputable def Ze:List V->Hp->VK->Prop:=λvs H Q=>∃j,vs = [.int j]/\∀p,H p=none->Q (.ref p) (upd H p (.rng 0 j))
theorem Ry {X:Cx}:cX X (.type "range") Ze:=by
 intro pins s σ H vs us Q I rv h;obtain⟨j,rfl,q⟩:=h;obtain⟨u,rfl,t,rfl⟩:=rv.one;refine call_range_1 ⟨.ref s.heap.objs.size,_,I.laid (o:=.rng 0 j) (λb u e=>aI _ e) (aH _) ⟨_,_,_,bf _ rfl⟩,rfl,q _ I.fresh⟩
noncomputable def Y5(K:W.Frag):V->List V->Hp->VK->Prop:=λx vs H Q=>∃(l:Addr) (bs:List Bool),x = .ref l/\vs = [.bl true]/\ax K H l (bs.map V.bl)/\Q (.int (bs.count true:Nat)) H
noncomputable def tZ:Value->Bool
 |.bool b=>b
 |_=>false
theorem GJ:∀{bs:List Bool} {us:List Value},Vals (bs.map V.bl) us->us=bs.map Value.bool
 | [],_,h=>by cases h;rfl
 |b::bs,_,h=>by
  cases h with
  |cons h t =>
   obtain rfl:_=Value.bool b:=h;rw[GJ t];rfl
theorem W3 {X:Cx} {K:W.Frag} (hK:X.K=K):wN X "tuple.count" (Y5 K):=by
 subst hK;intro pins s σ H x vs v us Q I rx rv h;obtain⟨l,bs,rfl,rfl,hq,q⟩:=h;cases rx;obtain⟨u,rfl,ru⟩:=rv.one;obtain rfl:u=Value.bool true:=ru;obtain⟨its,r,⟨⟨cls,dd,data,sl⟩,ho,hc,n,hd⟩,_⟩:=I.tuple hq;simp only at hc hd;subst hc hd;have e:=GJ r;subst e;have cnt:(bs.map Value.bool).toArray.toList.countP tZ=bs.count true:=by
  rw[List.toList_toArray,Et,List.count];exact List.countP_congr λb _=>by cases b<;>simp[tZ]
 refine call_meets QK ⟨_,ho,rfl⟩ PySem.F.entry_tuple_count (PySem.F.args_tuple_count_2 _ _)
  (SeqAt.tuple_countAt l (bs.map Value.bool).toArray n dd sl (.bool true) tZ) ⟨ho,λy hy=>?_,?_⟩
 ·obtain⟨b,_,rfl⟩:=b9.mp (show y∈bs.map Value.bool by simpa using hy)
  have:=xu (A:=X.A.in1) (s:=s) b true;have e:(b==true)=tZ (.bool b):=by cases b<;>rfl
  rw[<- e];exact this
 ·show EP X pins σ Q _ _
  rw[cnt];exact⟨.int (bs.count true:Nat),H,I.tok _,⟨_,rfl⟩,q⟩
section
variable {P:Program} {w:World} {K:W.Frag} {mg:Str->Option Value} {base:Heap}
theorem aR.uq{x qual:Str}{st:Stmt}{f c:Addr}{fd:FuncData}{N ps:List Str}{k:Nat}{sp:Sp}(F:aR K x qual st f fd)(hc:fd.code = .ref c)(S:aU N ps (aB st))(len:∀vs H Q E,sp vs H Q E->vs.length=ps.length)(hbody:∀(A:Around) (outer:List Env) (s:Shared) (H:Hp) (vs:List V) (Q:VK) (E:XK),bj k (A.deeper (envOfC qual (aB st) s.heap.objs.size f (.ref c)))->sp vs H Q E->∃t,fj (kh aN P w K mg base N qual (aB st) f (.ref c) A outer s H E).lI (fA st) t/\t {nx:=λ_ H'=>Q .non H',rt:=Q} (start N vs) H):aM P w K mg base aN (k+1) f fd ps sp:=by
 obtain⟨oc,od,kV,doc,pm,an,cdv,ct,osl,rfl,lk,hcd⟩:=F.ex;obtain rfl:cdv = .ref c:=hc;refine HS lk hcd S len λA outer s H vs Q E hr hsp=>?_;obtain⟨t,h,q⟩:=hbody A outer s H vs Q E hr hsp;exact⟨t,h.lI,q⟩
end
theorem Mod.ext{K:W.Frag}{mg:Str->Option Value}{base base':Heap}(M:Mod K mg base)(h:∀b o,base.get? b=some o->base'.get? b=some o):Mod K mg base':=
 ⟨M.jK.keeps h,M.glob.keeps h,let⟨mb,h1,h2⟩:=M.blt;⟨mb,h1.keeps h,h2⟩,M.nolimit.keeps h⟩
theorem frames_at{h base:Heap}:∀{l:List Env},h.FunFrames base l->∀b∈frs l,∃o,h.get? b=some o/\base.get? b=none
 | [],_,b,hb=>by simp[frs]at hb
 |env::rest,⟨_,⟨L,o,e1,e2,e3,_⟩,r⟩,b,hb=>by
  unfold frs at hb;rw[mC,e1]at hb
  rcases aY.mp hb with rfl|hb
  ·exact⟨o,e3,e2⟩
  ·exact frames_at r b hb
theorem Ic{h base base':Heap}:∀{l:List Env},h.FunFrames base l->(∀b∈frs l,base'.get? b=none)->h.FunFrames base' l
 | [],_,_=>trivial
 |env::rest,⟨k,⟨L,o,e1,e2,e3,e4⟩,r⟩,hb=>by
  have e5:frs (env::rest)=L::frs rest:=by unfold frs;rw[mC,e1]
  exact⟨k,⟨L,o,e1,hb L (by rw[e5];exact bx),e3,e4⟩,Ic r λb h'=>hb b (by rw[e5];exact bu _ h')⟩
section
variable {X:Cx} {pins:List (Addr × Obj)} {σ:St} {H:Hp} {s:Shared}
theorem Inv.grow(I:Inv X pins σ H s)(hfn:∀x,X.fn x=true):∃base':Heap,(∀b o,X.base.get? b=some o->base'.get? b=some o)/\(∀x cc v,X.env.cells.lookup x=some cc->s.heap.IsCell cc v->base'.IsCell cc v)/\fK X.prog X.w X.K X.mg base' X.A X.stack s H:=by
 classical
 let Hs:Hp:=λb=>if(∃o,X.base.get? b=some o)\/∃x,X.env.cells.lookup x=some b then none else some (.own b)
 have h1:∀b,Hs b=none->(∃o,X.base.get? b=some o)\/∃x,X.env.cells.lookup x=some b:=λb e=>by
  show(∃o,X.base.get? b=some o)\/∃x,X.env.cells.lookup x=some b
  by_cases h:(∃o,X.base.get? b=some o)\/∃x,X.env.cells.lookup x=some b
  ·exact h
  ·have:Hs b=some (.own b):=if_neg h
   rw[this]at e;cases e
 have h2:∀b,((∃o,X.base.get? b=some o)\/∃x,X.env.cells.lookup x=some b)->Hs b=none:=λb h=>if_pos h;have keep:∀b o,X.base.get? b=some o->(fF s.heap Hs).get? b=some o:=λb o e=>zQ (I.bk b o e) (h2 b (.inl ⟨o,e⟩));refine⟨fF s.heap Hs,keep,λx cc v e ⟨o,e1,e2⟩=>⟨o,zQ e1 (h2 cc (.inr ⟨x,e⟩)),e2⟩,?_⟩;have bs:∀b o,(fF s.heap Hs).get? b=some o->s.heap.get? b=some o/\H b=none:=λb o e=>by
  obtain⟨e1,e2⟩:=Be e;refine⟨e1,?_⟩
  rcases h1 b e2 with⟨o',q⟩|⟨x,q⟩
  ·exact(I.bs b o' q).2
  ·exact I.eO x b q
 refine⟨I.ok.frames,I.ok.mod.ext keep,bs,oV (I_ _ _),?_,I.Dk,I.hok,I.bare⟩;refine Ic I.stack λb hb=>?_;cases q:(fF s.heap Hs).get? b with
 |none=>rfl
 |some o =>
  exfalso
  obtain⟨e1,e2⟩:=Be q;obtain⟨_,_,nb⟩:=frames_at I.stack b hb
  rcases h1 b e2 with⟨o',z⟩|⟨x,z⟩
  ·rw[nb]at z;cases z
  ·have lo:=I.ok.cab x b (hfn x) z
   have old:∀b∈X.fs,b<X.s₀.heap.objs.size:=λb hb=>by
    obtain⟨o,e,_⟩:=frames_at I.ok.d9 b hb;exact aP e
   have RL:=I.cell x b z
   rcases I.ok.stk with e|⟨e,ef⟩
   ·rw[e]at hb
    exact absurd (old b hb) (Nat.not_lt.mpr lo)
   ·rw[e]at hb
    have e5:frs (X.env::X.outer)=X.env.locals::frs X.outer:=by unfold frs;rw[mC,ef]
    rw[e5]at hb
    rcases aY.mp hb with rfl|hb
    ·obtain⟨m,⟨o1,es,ep,g1,g2,_⟩,_⟩:=I.loc
     obtain⟨v,o2,g3,g4⟩:=RL;rw[g1]at g3;cases g3;rw[g2]at g4;cases g4
    ·exact absurd (old b hb) (Nat.not_lt.mpr lo)
end
structure oO (P:Program) (w:World) (K:W.Frag) (mg:Str->Option Value) (base:Heap) (k:Nat) (p:Addr) (m:Nat) (sp:Sp):Prop where
 run:∀(A:Around) (outer:List Env) (s:Shared) (H:Hp) (us:List Value) (vs:List V) (Q:VK),bj k A->fK P w K mg base A outer s H->Vals vs us->vs.length=m->sp vs H Q E0 ->
  codeAny (model P w) A (.call (.ref p) ⟨us,[]⟩) (λr s'=>∃u,r = .ok (.ret u)/\CE outer P w H s Q u s') s
noncomputable def j7(H:Hp)(p:Addr):Prop:=∃qual params body scope cl,cY H p qual params body scope cl
theorem j7.same{H H':Hp}{p:Addr}(h:j7 H p)(s:Same H H'):j7 H' p:=let⟨a,b,c,d,e,L⟩:=h;⟨a,b,c,d,e,L.same s⟩
theorem j7.fn{P:Program}{w:World}{H:Hp}{h:Heap}{p:Addr}(L:j7 H p)(ok:bJ P w H h):W.FnAt p h:=by
 obtain⟨a,b,c,d,e,L⟩:=L;obtain⟨c',pm,ctv,e1,_⟩:=L.get ok;exact⟨_,_,_,_,e1⟩
noncomputable def aao(i:Nat)(p:Addr)(m:Nat)(sp:Sp)(t:TA):TE:=λσ H Q=>∃v,σ[i]?=some (some v)/\v = .ref p/\j7 H p/\t σ H λvs H1=>j7 H1 p/\vs.length=m/\sp vs H1 Q E0
section
variable {X:Cx} {x:Str} {k k' m:Nat} {p:Addr} {sp:Sp} {i:Nat} {e:Expr} {es:List Expr} {t:TA} {p0 pos:Pos}
theorem Ye(L:oO X.prog X.w X.K X.mg X.base k p m sp)(hr:bj k' X.A)(hv:PE X (.Name x p0) (Dt i))(ha:PA X (e::es) t)(hk:k<=k':=by decide)
  (he:starEach (e::es) X.env=(false,eval e X.env)::starEach es X.env:=by rfl) (hpl:(backTo pos (starEach es X.env)).any (·.1)=false:=by rfl):PE X (.Call (.Name x p0) (e::es) [] pos) (aao i p m sp t):=by
 intro pins s σ H Q I h;obtain⟨v,e1,rfl,hF,h⟩:=h;refine je (aC (hv pins s σ H (λv H1=>v = .ref p/\H1=H) I ⟨_,e1,rfl,rfl⟩) λu s0 ⟨v,H0,I0,rv,ev,eH⟩=>?_);subst ev eH;obtain rfl:u = .ref p:=rv;refine W.callWith_F (hF.fn I0.hok) (aC (ha pos pins s0 σ _ _ I0 h) λus s1 ⟨vs,H1,I1,r,T_,hl,q⟩=>⟨T_.fn I1.hok,?_⟩) he hpl;refine mN (fM (L.run X.A X.stack s1 H1 us vs Q (hr.mono hk) I1.env0 r hl q) λr s' ⟨u,e,hq⟩=>?_);subst e;exact I1.after hq
end
theorem mx.move{h h' base:Heap}{H H':Hp}{scope:Scope}{cl:List (Str × Addr)}{fr:List Str}{zs:St}(L:mx h H scope cl fr zs)(hb:∀x cc v,cl.lookup x=some cc->h.IsCell cc v->base.IsCell cc v)(bs:∀b o,base.get? b=some o->h'.get? b=some o/\H' b=none):mx h' H' scope cl fr zs where
 cell:=λx cc e=>by
  obtain⟨⟨v,z⟩,_⟩:=L.cell x cc e;obtain⟨o,e1,e2⟩:=hb x cc v e z;exact⟨⟨v,o,(bs cc o e1).1,e2⟩,(bs cc o e1).2⟩
 inj:=L.inj
 has:=L.has
 len:=L.len
 val:=λi x v e1 e2=>by
  obtain⟨cc,u,e3,e4,e5⟩:=L.val i x v e1 e2;obtain⟨o,e6,e7⟩:=hb x cc _ e3 e4;exact⟨cc,u,e3,⟨o,(bs cc o e6).1,e7⟩,e5⟩
structure Eo (X:Cx) (qual:Str) (ps:List Str) (params:Arguments) (body:Expr) (scope:Scope) (fr:List (Str × Nat)) (k:Nat) (tb:TE):Prop where
 blk:eZ X scope fr
 sc:oP ps (fr.map (·.1)) scope
 bind:∀(cl:List (Str × Addr)) (pm cd ctv:Value) (us:List Value),us.length=ps.length->bindArgs (W.kla_fn "<lambda>" qual params body scope cl pm cd ctv) ⟨us,[]⟩=pure (ps.zip us)
 run:∀(base:Heap) (A:Around) (outer:List Env) (s:Shared) (H:Hp) (p c:Addr) (cl:List (Str × Addr)),bj k A->PE (nj X.prog X.w X.K X.mg base (ps++fr.map (·.1)) qual scope p (.ref c) cl A outer s H) body tb
structure mh (P:Program) (w:World) (K:W.Frag) (mg:Str->Option Value) (x:Str) (ps:List Str) (k kl m:Nat) (f7:Addr->Sp->Sp):Prop where
 ex:∃(f:Addr) (fd:FuncData),(∀(base:Heap) (p:Addr) (kH:Sp),oO P w K mg base kl p m kH->aM P w K mg base aN k f fd ps (f7 p kH))/\mg x=some (.ref f)/\W.keepIn K (.ref f)=true/\Binds K fd ps []
noncomputable def O_(f7:Addr->Sp->Sp)(qual:Str)(params:Arguments)(body:Expr)(scope:Scope)(cl:List (Str × Addr))(fr:List (Str × Nat))(tb:TE)(t:TA):TE:=λσ H Q=>t σ H λvs H1=>∃p,cY H1 p qual params body scope cl /\
 f7 p (λws H' Q' _=>cY H' p qual params body scope cl/\tb (ws.map some++lamσ fr σ) H' Q') vs H1 Q E0
section
variable {X:Cx} {x qual:Str} {k k' kl m:Nat} {f7:Addr->Sp->Sp} {ps qs:List Str} {params:Arguments} {body:Expr} {scope:Scope} {fr:List (Str × Nat)} {tb:TE} {e:Expr} {es:List Expr} {t:TA} {p0 pos:Pos}
theorem Yg (c:mh X.prog X.w X.K X.mg x ps k kl m f7) (hr:bj k' X.A) (hg:Gl X x) (B:Eo X qual qs params body scope fr kl tb) (hfn:∀x,X.fn x=true) (hx:Passes aN X E0) (hm:qs.length=m) (ha:PA X (e::es) t) (hk:k<=k':=by decide) (hdb:(x==("__debug__" : Str))=false:=by decide)
  (he:starEach (e::es) X.env=(false,eval e X.env)::starEach es X.env:=by rfl) (hpl:(backTo pos (starEach es X.env)).any (·.1)=false:=by rfl) :
  PE X (.Call (.Name x p0) (e::es) [] pos) (O_ f7 qual params body scope (bE X.env.cells scope.names []) fr tb t):=by
 obtain⟨f,fd,F,hmg,kp,b⟩:=c.ex;intro pins s σ H Q I h;refine je (qd I hg hmg ?_ hdb);refine W.callWith_K (h₀:=X.base) I.ok.mod.jK kp (aC (ha pos pins s σ H _ I h) λus s1 ⟨vs,H1,I1,r,p,L,q⟩=>⟨I1.bU,?_⟩) he hpl;obtain⟨base',_,hc,e0⟩:=I1.grow hfn;have cells:=J9 B.blk I1;have LO:oO X.prog X.w X.K X.mg base' kl p m (λws H' Q' _=>cY H' p qual params body scope (bE X.env.cells scope.names [])/\tb (ws.map some++lamσ fr σ) H' Q'):=by
  refine⟨λA outer s2 H2 us vs Q' lq e2 r hl ⟨L2,hq⟩=>?_⟩;obtain⟨c,pm,ctv,ho,hcd⟩:=L2.get e2.hok;exact J_ B.sc lq.depth lq.hd e2 ho hcd (B.bind _ _ _ _ _ (by rw[<- r.length,hl,hm])) (hl.trans hm.symm) r (cells.move (λx cc v e z=>hc x cc v (B.blk.sub I1.ok e) z) e2.bs) (B.run base' A outer s2 H2 p c _ lq) hq
 have FF:=F base' p _ LO;have hl:us.length=ps.length:=by rw[<- r.length];exact FF.len _ _ _ _ q
 have hb:=b s1 us I1.bU (by rw[j8];exact hl);rw[j8]at hb;refine mN (fM (FF.run X.A X.stack s1 H1 ⟨us,[]⟩ us vs Q E0 (hr.mono hk) e0 hb r q) λr s' hq=>?_);cases r with
 |error e=>exact hx pins σ H1 s1 e s' I1 hq
 |ok fl =>
  cases fl with
  |ret u=>exact I1.after hq
  |next=>exact False.elim hq
  |brk=>exact False.elim hq
  |cont=>exact False.elim hq
theorem Yh {e:Expr} {t1:TE} {cc Pt:Addr} {bV:Pos} (c:mh X.prog X.w X.K X.mg x ps k kl m f7) (T:TabAt X.base X.mg cc Pt) (hcode:X.env.code = .ref cc) (hr:bj k' X.A) (hg:Gl X x) (B:Eo X (X.env.qual ++ "<lambda>") qs params body scope fr kl tb) (hfn:∀x,X.fn x=true) (hx:Passes aN X E0) (hm:qs.length=m) (h1:PE X e t1) (hk:k<=k':=by decide) (hdb:(x==("__debug__" : Str))=false:=by decide)
  (hdef:defaultsOf params X.env=([],[]):=by rfl) (he:starEach [e,.Lambda params body scope bV] X.env = [(false,eval e X.env),(false,eval (.Lambda params body scope bV) X.env)]:=by rfl) :
  PE X (.Call (.Name x p0) [e,.Lambda params body scope bV] [] pos) (O_ f7 (X.env.qual ++ "<lambda>") params body scope (bE X.env.cells scope.names []) fr tb (lT t1 (lT (qY Pt bV (X.env.qual ++ "<lambda>") params body scope (bE X.env.cells scope.names [])) vM))):=by
 have he2:starEach [Expr.Lambda params body scope bV] X.env = [(false,eval (.Lambda params body scope bV) X.env)]:=rfl;exact Yg c hr hg B hfn hx hm (ag h1 (ag (uB T hcode (λok y hy hk=>ok.has _ (B.blk.free y hy hk)) hdef) ah he2) he) hk hdb he (by rw[he2];rfl)
end
section
variable {prog:Program} {w:World} {A:Around} {E:Value->Shared->Prop} {s:Shared} {l:Addr} {xs:Array (Int × Tok)}
end
theorem Yx{X:Cx}{K:W.Frag}{es:List Expr}{k:Nat}{t:ke}{n:Nat}{pos:Pos}(hK:X.K=K)(hc:X.calm=true)(h:o7 X es t)(hn:(assignEach es X.env).length=n:=by rfl)(hst:(assignEach es X.env).findIdx? (·.1)=none:=by rfl):PG X (.Tuple es k pos) (pW K n t):=hK▸Mf hc h hn hst
end L2
namespace My
open PySem PySem.Spec PyProof.Rows L2
theorem aad{K:W.Frag}{c:Bool}{a:Addr}{xs:List V}{ρ:L2.St}{H1:Hp}(h:Sq c K H1 a xs):gG (Ite K c a) (pW K 2 (k_ (bq 0) (k_ (bq 1) tK))) (none::none::ρ) H1 xs.length (λi=>some (.int (i:Int))::some (xs.getD i .non)::ρ) where
 go:=λi H hi hs=>⟨xs,xs[i],hs.sq h,aq hi⟩
 stop:=λH hs=>⟨xs,hs.sq h,rfl⟩
 step:=λi H v H' Kk hi hs hy hk=>by
  obtain⟨T,x,rfl,hT,rfl,hx⟩:=hy;have e1:=hx xs (hs.sq h);have e3:xs.getD i .non=x:=by rw[aL,e1];rfl
  refine⟨T,[.int (i:Int),x],rfl,.inl (.inl aA),rfl,.int (i:Int),[x],rfl,x,[],rfl,rfl,?_⟩;have:=hk (upd H T (.tup [.int (i:Int),x])) (Same.put hT);rw[e3]at this;exact⟨Wk.set (Wk.set (Wk.refl _) rfl) rfl,this⟩
noncomputable def mS(n:Nat)(R:Nat->Nat->Bool)(k:Nat):List (Nat × Nat):=(List.range k).flatMap λl=>((List.range n).filter λh=>R l h).map λh=>(l,h)
theorem ub{n k:Nat}{R:Nat->Nat->Bool}{p:Nat × Nat}:p∈mS n R k ↔ p.1<k/\p.2<n/\R p.1 p.2=true:=by
 unfold mS;rw[wK]
 constructor
 ·rintro⟨l,hl,h⟩
  obtain⟨j,hj,rfl⟩:=b9.mp h;obtain⟨h1,h2⟩:=dm.mp hj;exact⟨by simpa using hl,by simpa using h1,h2⟩
 ·rintro⟨h1,h2,h3⟩
  exact⟨p.1,by simpa using h1,b9.mpr ⟨p.2,dm.mpr ⟨by simpa using h2,h3⟩,rfl⟩⟩
section
variable {P:Program} {w:World} {K:W.Frag} {mg:Str->Option Value} {base:Heap} {f:Addr} {fd:FuncData}
abbrev u3:Stmt:=top 27
theorem N8:aU ["things","is_at_most","pairs","low","one"] ["things","is_at_most"] (aB u3):=⟨rfl,rfl,rfl,by decide +kernel,rfl,by decide +kernel,by decide +kernel⟩
noncomputable def vE(K:W.Frag)(C p:Addr)(kH:Sp):Sp:=λvs H Q _=>∃(l:Nat) (xs:List V) (R:Nat->Nat->Bool),vs = [.ref l,.ref p]/\ai K H l xs/\1<=xs.length/\xs.length<=24/\j7 H p/\Good xs.length R /\
 (∀i j x y H' Q',xs[i]?=some x->xs[j]?=some y->Same H H'->(∀Ej,Same H' Ej->Q' (.bl (R i j)) Ej)->kH [x,y] H' Q' E0)/\∀z H',Same H H'->o6 C H' z xs.length R->Q (.ref z) H'
theorem XX {C p:Addr} {kH:Sp} (F:aR K "order_by" "order_by" u3 f fd) (T:Txt mg) (sd:oI P w K mg base C "Order" ["self","count","pairs"] 5 (vq K C)) (LO:oO P w K mg base 1 p 2 kH):aM P w K mg base aN 7 f fd ["things","is_at_most"] (vE K C p kH):=by
 refine F.ok N8 (λvs H Q E h=>?_) (λcdv A outer s H vs Q E hr h=>?_)
 ·obtain⟨l,xs,R,rfl,_⟩:=h
  rfl
 ·obtain⟨l,xs,R,rfl,hl,h1,hn,hF,G,hL,kk⟩:=h
  have nd:=N8.nd;refine⟨_,(ay (aV (i:=2) nd rfl (Or.inl rfl) (ic ah))
   (ay (cD bT rfl (Bo (K:=K) true rfl rfl T.enumerate (ag (pv 0) ah)) (Yx (K:=K) rfl rfl (uF (aZ (i:=3) nd rfl (Or.inr rfl)) (uF (aZ (i:=4) nd rfl (Or.inr rfl)) Mg)))
   (az (dJ (kE (K:=K) rfl mL xm FJ As (pv 2) (ag (dc (own:=["high","other"]) (fr:=[("low", 3),("is_at_most", 1),("one", 4)]) rfl (bQ (aB u3) ["things","is_at_most","pairs","low","one"] rfl rfl (by decide +kernel)) (Bo (K:=K) true rfl rfl T.enumerate (ag (pv 0) ah)) (λ_ _ _ _=>⟨(uE (K:=K) (i:=0) (j:=1) rfl rfl (by decide +kernel:(["high","other","low","is_at_most","one"]:List Str).Nodup) rfl rfl rfl rfl),(lK (fJ (Ye LO hr (pv 3) (ag (pv 4) (ag (pv 1) ah))))),(ie (ag (pv 2) (ag (pv 0) ah)))⟩)) ah)))))
   (az (aX (Yp sd hr rfl (ag (cL (d7 (K:=K) rfl) rfl T.len eL (ag (pv 0) ah)) (ag (pv 2) ah))))))),?_⟩
  refine⟨by show 0<=sizeLine;decide,λL Il=>?_⟩;have sL:=Same.put Il (o:=.lst ([]:List V));dsimp only[bq];show cV _ _ _ [some (.ref l),some (.ref p),some (.ref L),none,none] _;refine⟨_,rfl,l,xs,rfl,sL.sq (c:=true) hl,Ia (K:=K) (c:=true) (l:=l) (xs:=xs) (λi σ H2=>∃(v3 v4:Option V) (ws:List V),σ = [some (.ref l),some (.ref p),some (.ref L),v3,v4]/\Same H H2/\H2 L=some (.lst ws)/\ws.length<=24*i/\Paired (eU H2) (mS xs.length R i) ws)
   ⟨none,none,[],rfl,sL,aA,bM _,.nil⟩ (λi σ H2 ⟨_,_,_,_,s2,_⟩=>s2.sq (c:=true) hl) ?_ ?_⟩
  ·rintro i x σ H2 Tt hx Um ⟨v3,v4,ws,rfl,s2,hL2,hwl,zV⟩
   have hi:i<xs.length:=(bp.mp hx).1;have sT:=Same.put Um (o:=.tup [V.int (i:Int),x]);refine⟨Tt,_,rfl,ax.of aA,rfl,_,_,rfl,_,_,rfl,rfl,?_⟩;dsimp only[bq];show Pg _ _ [some (.ref l),some (.ref p),some (.ref L),some (.int (i:Int)),some x] _;have uM:=s2.trans sT;have zH:=sT _ _ hL2;refine⟨_,rfl,.inl ⟨rfl,_,ai.of zH⟩,_,rfl,l,xs,rfl,uM.sq (c:=true) hl,λD hD=>?_⟩;refine sv (λj=>R i j) (λj v H=>∃t,v = .ref t/\t≠D/\H t=some (.tup [.int (i:Int),.int (j:Int)])) (aad (c:=true) (uM.sq (c:=true) hl)) hD (cQ hn) (λj v H H' s ⟨b,e,hb,q⟩=>⟨b,e,hb,s _ _ hb q⟩) (λj H3 Kt Kf hj hs hy hkt hkf=>?_) (λH3 ys hs hl3 hp3=>?_)
   ·obtain⟨zs,hz⟩:=hy
    have lN:=uM.trans hs;have ey:xs.getD j .non=xs[j]:=by rw[aL,aq hj];rfl
    refine⟨_,rfl,rfl,hF.same lN,_,rfl,_,rfl,hF.same lN,rfl,?_⟩;rw[ey];refine hL i j x xs[j] H3 _ hx (aq hj) lN λH4 s4=>⟨_,rfl,bO (λh=>?_) (λh=>?_)⟩
    ·refine⟨_,rfl,_,rfl,by show 2<=sizeLine;decide,λt ht=>?_⟩
     exact hkt _ _ h (s4.trans (Same.put ht)) ⟨t,rfl,(λe=>by rw[e,s4 _ _ hz]at ht;cases ht),aA⟩
    ·exact hkf _ (by simpa using h) s4
   ·have Je:ys.length<=xs.length:=by
     have h1:=dh hp3;have h2:=iw (λj=>R i j) (List.range xs.length);rw[d4]at h2;omega
    have iL:=hs _ _ zH;have hDL:D≠L:=λe=>by rw[e,zH]at hD;cases hD
    refine⟨L,D,ws,ys,rfl,rfl,iL,hl3,by have:=@gO 100000 (by omega);omega,?_⟩;refine⟨_,_,ws++ys,rfl,λb o e=>?_,aA,by rw[de];omega,?_⟩
    ·rw[aG (cx e Il)]
     exact hs _ _ (uM _ _ e)
    ·unfold mS
     rw[Bv];refine uA iL (ux (kD.same (sT.trans hs) zV) (uz ?_));exact Paired.di hp3 λj v ⟨t,e,_,q⟩=>⟨t,e,q⟩
  ·rintro σ H2 ⟨v3,v4,ws,rfl,s2,hL2,hwl,zV⟩
   refine⟨_,rfl,l,xs,rfl,.inl (s2.seq hl),_,rfl,λx dx hx hdx hne=>?_⟩;have s4:Same H2 (upd (upd H2 dx (.own x)) x (.ins C dx [])):=λb o e=>by
    rw[aG (cx e hx),aG (cx e hdx)];exact e
   have le:∀p∈mS xs.length R xs.length,R p.1 p.2=true:=λp hp=>(ub.mp hp).2.2;have al:∀a b,a<xs.length->b<xs.length->a≠b->R a b=true->(a,b)∈mS xs.length R xs.length:=λa b ha hb _ h=>ub.mpr ⟨ha,hb,h⟩;refine⟨x,dx,xs.length,L,_,rfl,aA,⟨ws,ai.of (s4 _ _ hL2),kD.same s4 zV⟩,h1,hn,λp hp=>⟨(ub.mp hp).1,(ub.mp hp).2.1⟩,λR2 hC=>G.congr (G5 G le al hC),λH5 R2 fr hC kr=>⟨rfl,?_⟩⟩;have s5:Same H2 H5:=λb o e=>fr b o (s4 _ _ e) (cx e hx);exact kk x H5 (s2.trans s5) ⟨R2,kr,G5 G le al hC⟩
end
end My
namespace Dv
structure All (m:Nat) (l:List Nat):Prop where
 nd:l.Nodup
 mem:∀d,d∈l ↔ d ∣ m
theorem All.one:All 1 [1]:=⟨by simp,λd=>by simp[Nat.dvd_one]⟩
noncomputable def g6(k r:Nat):Prop:=∀d,2<=d->d<k->¬ d ∣ r
theorem g6.prime{k r:Nat}(h2k:2<=k)(h:g6 k r)(hk:k ∣ r):∀d,d ∣ k->d=1\/d=k:=λd hd=>by
 have hle:=oU (by omega) hd
 by_cases h1:d=1
 ·exact .inl h1
 ·by_cases h2:d=k
  ·exact .inr h2
  ·have hd0:d≠0:=λz=>by
    subst z;have:=Nat.eq_zero_of_zero_dvd hd;omega
   exact absurd (dN hd hk) (h d (by omega) (by omega))
theorem sy{k d:Nat}(hp:∀e,e ∣ k->e=1\/e=k)(h:¬ k ∣ d):Nat.Coprime d k:=by
 rcases hp (Nat.gcd d k) (wU d k)with e|e
 ·exact e
 ·exact absurd (e▸kU d k) h
theorem g6.big{k r:Nat}(hk:2<=k)(h:g6 k r)(hr:r<k*k)(h1:1<r):g6 r r:=λd h2 h3 hd=>by
 obtain⟨c,rfl⟩:=hd;have hc:2<=c:=by
  rcases c with _|_|c
  ·omega
  ·omega
  ·omega
 have d1:k<=d:=i_ λz=>h d h2 z ⟨c,rfl⟩;have c1:k<=c:=i_ λz=>h c hc z ⟨d,cB _ _⟩;have:=oZ d1 c1;omega
theorem g6.le{k r:Nat}(h:g6 k r)(h1:1<r):k<=r:=i_ λz=>h r h1 z (iC r)
theorem All.grow{m k j:Nat}{f g:List Nat}(hf:All m f)(hg:All (m*k ^ j) g)(hk:2<=k)(hp:∀e,e ∣ k->e=1\/e=k)(hm:¬ k ∣ m)(hm0:0<m):All (m*k ^ (j+1)) (g++f.map λx=>x*k ^ (j+1)):=by
 have k0:0<k:=by omega
 refine⟨?_,λd=>?_⟩
 ·rw[rA]
  refine⟨hg.nd,?_,λx hx y hy e=>?_⟩
  ·refine fh.mpr (hf.nd.imp λhne e=>hne (Qy (w8 k0) e))
  ·obtain⟨z,hz,rfl⟩:=b9.mp hy
   subst e;have h1:=(hg.mem _).mp hx;have h2:k ^ (j+1) ∣ m*k ^ j:=dN ⟨z,cB _ _⟩ h1;rw[iD,cB (k ^ j)]at h2;exact hm (Qx (w8 k0) h2)
 ·rw[iz,hg.mem,b9]
  constructor
  ·rintro(h|⟨z,hz,rfl⟩)
   ·exact dN h (oY _ (Nat.pow_dvd_pow k (rD j)))
   ·exact Nat.mul_dvd_mul ((hf.mem z).mp hz) (iC _)
  ·intro h
   by_cases hd:k ^ (j+1) ∣ d
   ·obtain⟨c,rfl⟩:=hd
    refine .inr ⟨c,(hf.mem c).mpr ?_,cB _ _⟩;rw[cB]at h;exact Qx (w8 k0) h
   ·left
    exact drop k m d hk hp j h hd
where
 drop (k m d:Nat) (hk:2<=k) (hp:∀e,e ∣ k->e=1\/e=k):∀j,d ∣ m*k ^ (j+1)->¬ k ^ (j+1) ∣ d->d ∣ m*k ^ j:=by
  intro j
  induction j generalizing d with
  |zero =>
   intro h1 h2;rw[Nat.pow_one]at h2;rw[Nat.zero_add,Nat.pow_one]at h1;rw[w9,ja];exact(sy hp h2).dvd_of_dvd_mul_right h1
  |succ j ih =>
   intro h1 h2
   by_cases hd:k ∣ d
   ·obtain⟨c,rfl⟩:=hd
    have e1:m*k ^ (j+1+1)=k*(m*k ^ (j+1)):=by rw[iD k (j+1)];rw[<- dX,cB]
    rw[e1]at h1;have h3:=Fo (by omega) h1;have h4:¬ k ^ (j+1) ∣ c:=λz=>h2 (by rw[iD,cB];exact oY k z);have h5:=ih c h3 h4;have e2:m*k ^ (j+1)=k*(m*k ^ j):=by rw[iD];rw[<- dX,cB]
    rw[e2];exact oY k h5
   ·have e1:m*k ^ (j+1+1)=m*k ^ (j+1)*k:=by rw[iD k (j+1),dX]
    rw[e1]at h1;exact(sy hp hd).dvd_of_dvd_mul_right h1
noncomputable def lesser(n:Nat):List Nat:=(List.range' 1 1000).filter λd=>decide (d*d<=n)&&decide (n % d=0)
noncomputable def greater(n:Nat):List Nat:=((lesser n).reverse.filter λd=>!decide (d*d=n)).map λd=>n / d
theorem lD{n d:Nat}(hn:n<=1000000)(h0:0<n):d∈lesser n ↔ d*d<=n/\d ∣ n:=by
 unfold lesser;rw[dm,bw,cw,cw,List.mem_range'_1]
 constructor
 ·rintro⟨_,h1,h2⟩
  exact⟨h1,wO h2⟩
 ·rintro⟨h1,h2⟩
  refine⟨⟨rJ h2 h0,?_⟩,h1,wY h2⟩;apply Fq
  intro z;have:=oZ z z;omega
theorem Ki(n:Nat):(lesser n).Pairwise (· < ·):=Ep _ (List.pairwise_lt_range' (s:=1) (n:=1000))
theorem Kw{n d:Nat}(hn:n<=1000000)(h0:0<n):d∈greater n ↔ n<d*d/\d ∣ n:=by
 unfold greater;rw[b9]
 constructor
 ·rintro⟨c,hc,rfl⟩
  obtain⟨h1,h2⟩:=dm.mp hc;obtain⟨h3,⟨e,rfl⟩⟩:=(lD hn h0).mp (rq.mp h1);have hne:¬ c*c=c*e:=by simpa using h2
  have hc0:0<c:=gU λz=>by subst z;simp at h0
  rw[rF _ hc0];refine⟨?_,⟨c,cB _ _⟩⟩;have hce:c<=e:=Nat.le_of_mul_le_mul_left h3 hc0;have:c≠e:=λz=>hne (by rw[z]);exact rG (by omega) (by omega)
 ·rintro⟨h1,⟨c,rfl⟩⟩
  have hd0:0<d:=gU λz=>by subst z;simp at h0
  have hc0:0<c:=gU λz=>by subst z;simp at h0
  have hcd:c<d:=Nat.lt_of_mul_lt_mul_left h1;have hcc:c*c<d*c:=rG hcd hc0;refine⟨c,dm.mpr ⟨rq.mpr ((lD hn h0).mpr ⟨by omega,⟨d,cB _ _⟩⟩),?_⟩,wZ _ hc0⟩;have:¬ c*c=d*c:=by omega
  simp[this]
theorem T4{n:Nat}(hn:n<=1000000)(h0:0<n):(greater n).Pairwise (· < ·):=by
 unfold greater;rw[fh];have h1:(lesser n).reverse.Pairwise (λa b=>b<a):=by
  rw[List.pairwise_reverse];exact Ki n
 refine(h1.filter _).imp_of_mem λ{a b} ha hb hlt=>?_;obtain⟨_,⟨c,e1⟩⟩:=(lD hn h0).mp (rq.mp (dm.mp ha).1);obtain⟨_,⟨d,e2⟩⟩:=(lD hn h0).mp (rq.mp (dm.mp hb).1);have hb0:0<b:=gU λz=>by rw[e2,z]at h0;simp at h0
 have ha0:0<a:=by omega
 rw[show n / a=c by rw[e1,rF _ ha0],show n / b=d by rw[e2,rF _ hb0]];apply Fq
 intro z;have h3:b*d<=b*c:=kW b z;have hc0:0<c:=gU λz=>by rw[e1,z]at h0;simp at h0
 have h4:b*c<a*c:=rG hlt hc0;omega
noncomputable def divs(n:Nat):List Nat:=lesser n++greater n
theorem sC{n:Nat}(hn:n<=1000000)(h0:0<n):All n (divs n)/\(divs n).Pairwise (· < ·):=by
 have asc:(divs n).Pairwise (· < ·):=by
  unfold divs;rw[List.pairwise_append];refine⟨Ki n,T4 hn h0,λa ha b hb=>?_⟩;have h1:=((lD hn h0).mp ha).1;have h2:=((Kw hn h0).mp hb).1;apply Fq
  intro z;have:=oZ z z;omega
 refine⟨⟨asc.imp λh=>by omega,λd=>?_⟩,asc⟩;unfold divs;rw[iz,lD hn h0,Kw hn h0]
 constructor
 ·rintro(h|h)
  ·exact h.2
  ·exact h.2
 ·intro h
  rcases wW n (d*d)with z|z
  ·exact .inr ⟨z,h⟩
  ·exact .inl ⟨z,h⟩
theorem All.perm{m:Nat}{l l':List Nat}(h:All m l)(h':All m l'):l.Perm l':=(Qv h.nd h'.nd).mpr λd=>by rw[h.mem,h'.mem]
theorem Sd(n:Nat):(divs n).length<=2000:=by
 unfold divs greater;rw[de,ao];have h1:(lesser n).length<=1000:=by
  unfold lesser;have:=iw (λd=>decide (d*d<=n)&&decide (n % d=0)) (List.range' 1 1000);rw[List.length_range']at this;exact this
 have h2:=iw (λd=>!decide (d*d=n)) (lesser n).reverse;rw[List.length_reverse]at h2;omega
theorem All.len{m:Nat}{l:List Nat}(h:All m l)(hm:m<=1000000)(h0:0<m):l.length<=2000:=by
 rw[(h.perm (sC hm h0).1).length_eq];exact Sd m
end Dv
namespace L2
open PySem PySem.Spec PyProof.Rows
noncomputable def mq(K:W.Frag)(a:Addr)(n:Nat):It:=
 ⟨λi H=>i<n/\∃xs x,ai K H a xs/\xs[n - 1 - i]?=some x,λi H x H'=>H'=H/\∀xs,ai K H a xs->xs[n - 1 - i]?=some x,λi H=>i=n⟩
theorem aaR{P:Program}{w:World}{K:W.Frag}{tg:Expr}(a it:Addr)(n:Nat):Turn P w K tg (mq K a n) [it] it (λi h=>h.IsRevIter it a ((n:Int) - 1 - (i:Int))) where
 mem:=by simp
 obj:=λi h st b hb=>by
  have e:b=it:=by simpa using hb
  subst e;obtain⟨o,e,c,d⟩:=st;exact⟨o,e,λv z=>by rw[d]at z;cases z⟩
 keep:=λi h h' st k=>by
  obtain⟨o,e,c,d⟩:=st;exact⟨o,k it (by simp) o e,c,d⟩
 item:=by
  intro X hP hw hK hc i pins s σ H E I hf st hg;subst hP hw hK;obtain⟨hi,xs,x,hq,hx⟩:=hg;obtain⟨its,rv,p,hz⟩:=I.list hq;obtain⟨u,hu,ru⟩:=rv.get hx;obtain⟨f0,f1,f2,f3,f4,f5⟩:=hf it (by simp);have e0:(n:Int) - 1 - (i:Int)=((n - 1 - i:Nat):Int):=by omega
  rw[e0]at st;refine wpAny_pyNext_rev_item st p.isList (x:=u) (by simpa using hu) λh' st' sb=>?_;have I1:Inv X pins σ H {s with heap:=h'}:=I.turned (t':=s.toks) (λb o hb e=>(sb.2 b hb).trans e) f0 f1 f3 f4 f5;have e1:((n - 1 - i:Nat):Int) - 1=(n:Int) - 1 - ((i+1:Nat):Int):=by omega
  rw[e1]at st';obtain⟨o,e,c,d⟩:=id st';exact⟨u,rfl,tN (s:={s with heap:=h'}) e c d (by decide) ⟨x,H,I1,ru,⟨rfl,λys hy=>by rw[I.Ao hy hq];exact hx⟩,st',λb hb=>(hf b hb).1⟩⟩
 done:=by
  intro X hP hw hK hc i pins s σ H E I hf st hg;subst hP hw hK;have hg:i=n:=hg;obtain⟨f0,f1,f2,f3,f4,f5⟩:=hf it (by simp);have e0:(n:Int) - 1 - (i:Int) = -1:=by omega
  rw[e0]at st;exact wpAny_pyNext_rev_end (I.ok.hd hc) st λh' eb=>⟨rfl,I.turned (t':=s.toks) (λb o hb e=>eb b o hb e) f0 f1 f3 f4 f5⟩
 self:=λ_ _ _ _ _ st h=>wpAny_pyIter_revIter st h
noncomputable def Vq(K:W.Frag)(ta:TA):TI:=λσ H R=>ta σ H λvs H1=>∃a xs,vs = [.ref a]/\ai K H1 a xs/\R (mq K a xs.length) H1
section
variable {X:Cx} {tg:Expr}
theorem Mh {K:W.Frag} {p pos:Pos} {e:Expr} {ta:TA} (hK:X.K=K) (hg:Gl X "reversed") (hm:X.mg "reversed" = none) (ha:PA X [e] ta)
  (he:starEach [e] X.env = [(false,eval e X.env)]:=by rfl):PI X tg (.Call (.Name "reversed" p) [e] [] pos) (Vq K ta):=by
 subst hK;intro pins s σ H R I h;refine je (iR I hg hm boot_reversed ?_ (by decide) (by decide));refine o8 (aC (ha pos pins s σ H _ I h) λus s1 ⟨vs,H1,I1,r1,q1⟩=>?_) he rfl;obtain⟨a,xs,rfl,hq,q⟩:=q1;obtain⟨u,rfl,ru⟩:=(show ∃u,us = [u]/\RelV (.ref a) u from by
  cases r1 with
  |cons r t=>cases t;exact⟨_,rfl,r⟩)
 cases ru;obtain⟨its,rv,lp,hz⟩:=I1.list hq;refine call_reversed_list lp.isList ?_;have st:(s1.heap.push (revObj a ((its.toArray.size:Int) - 1))).IsRevIter s1.heap.objs.size a ((its.toArray.size:Int) - 1):=⟨_,bf _ rfl,rfl,rfl⟩;have hl:its.toArray.size=xs.length:=by simp[rv.length]
 rw[hl]at st ⊢;refine wpAny_pyIter_revIter st ?_;refine⟨s1.heap.objs.size,[s1.heap.objs.size],_,_,H1,rfl,I1.kept (t':=s1.toks) λb o e=>aI _ e,aaR a _ xs.length,by show Heap.IsRevIter _ _ _ _;simpa using st,λb hb=>?_,q⟩;have e:b=s1.heap.objs.size:=by simpa using hb
 subst e;exact I1.km (aH _) (I1.hok.fresh (aH _))
theorem Tq{K:PySem.W.Frag}{a:Addr}{xs:List V}{g:TG}{tb:TS}{D:Ends}{σ:St}{H:Hp}(Pv:Nat->St->Hp->Prop)(h0:Pv 0 σ H)(hl:∀i σ H,i<=xs.length->Pv i σ H->ai K H a xs)
  (hs:∀i x σ H,i<xs.length->xs[xs.length - 1 - i]?=some x->Pv i σ H->g x σ H λσ2 H2=>tb {D with nx:=Pv (i+1),ct:=Pv (i+1),bk:=D.nx} σ2 H2) (hd:∀σ H,Pv xs.length σ H->D.nx σ H) :
  ∃W:Nat->Nat->St->Hp->Prop,(∃m,W 0 m σ H)/\∀i m σ H,W i m σ H ->
   ((mq K a xs.length).stop i H/\D.nx σ H)\/((mq K a xs.length).go i H/\∃N:St->Hp->Prop,(∀σ' H',N σ' H'->∃m',m'<m/\W (i+1) m' σ' H')/\∀x H',(mq K a xs.length).jX i H x H'->g x σ H' λσ2 H2=>tb {D with nx:=N,ct:=N,bk:=D.nx} σ2 H2):=by
 refine⟨λi m σ H=>m=xs.length - i/\i<=xs.length/\Pv i σ H,⟨xs.length,by simp,bM _,h0⟩,?_⟩;rintro i m σ H ⟨rfl,hi,p⟩;have q:=hl i σ H hi p
 by_cases hlt:i<xs.length
 ·have hx:xs[xs.length - 1 - i]?=some (xs[xs.length - 1 - i]'(by omega)):=aq (by omega)
  refine .inr ⟨⟨hlt,xs,_,q,hx⟩,Pv (i+1),λσ' H' p'=>⟨xs.length - (i+1),by omega,rfl,hlt,p'⟩,λx H' y=>?_⟩;obtain⟨e,y⟩:=y;subst e;exact hs i x σ _ hlt (y xs q) p
 ·have e:i=xs.length:=by omega
  subst e;exact .inl ⟨rfl,hd σ H p⟩
end
noncomputable def fP(xs:Array Nat):Prop:=∀i j,i<j->j<xs.size->xs.getD i 0<xs.getD j 0
theorem TL{xs:Array Nat}{i:Nat}(h:i<xs.size)(a b:Nat):xs.getD i a=xs.getD i b:=by
 simp[Array.getD,h]
theorem xW{xs:Array Nat}{j:Nat}(hr:fP xs):∀(fuel lo hi:Nat),lo<=hi->hi<=xs.size->hi - lo<=fuel->(∀i,i<lo->xs.getD i 0<j)->(∀i,hi<=i->i<xs.size->j<=xs.getD i 0)->SetTable.below.go xs j fuel lo hi<=xs.size/\(∀i,i<SetTable.below.go xs j fuel lo hi->xs.getD i 0<j)/\(∀i,SetTable.below.go xs j fuel lo hi<=i->i<xs.size->j<=xs.getD i 0)
 |0,lo,hi,h1,h2,h3,h4,h5=>by
  have:lo=hi:=by omega
  subst this;exact⟨h2,h4,h5⟩
 |fuel+1,lo,hi,h1,h2,h3,h4,h5=>by
  unfold SetTable.below.go
  by_cases hlt:lo<hi
  ·rw[if_pos hlt]
   have hm:(lo+hi) / 2<xs.size:=by omega
   dsimp only;rw[TL hm j 0]
   by_cases hc:xs.getD ((lo+hi) / 2) 0<j
   ·rw[if_pos hc]
    refine xW hr fuel _ _ (by omega) h2 (by omega) (λi hi'=>?_) h5
    by_cases e:i=(lo+hi) / 2
    ·rw[e];exact hc
    ·exact wX (hr i _ (by omega) hm) hc
   ·rw[if_neg hc]
    refine xW hr fuel _ _ (by omega) (by omega) (by omega) h4 (λi hi' hl=>?_)
    by_cases e:i=(lo+hi) / 2
    ·rw[e];omega
    ·have:=hr ((lo+hi) / 2) i (by omega) hl
     omega
  ·rw[if_neg hlt]
   have:lo=hi:=by omega
   subst this;exact⟨h2,h4,h5⟩
theorem xX{xs:Array Nat}{j:Nat}(hr:fP xs):SetTable.below xs j<=xs.size/\(∀i,i<SetTable.below xs j->xs.getD i 0<j)/\(∀i,SetTable.below xs j<=i->i<xs.size->j<=xs.getD i 0):=by
 unfold SetTable.below;exact xW hr _ _ _ (bM _) (aH _) (by omega) (λi h=>absurd h (by omega)) (λi h1 h2=>absurd h1 (by omega))
theorem Ra{xs:Array Nat}(hr:fP xs){i:Nat}(hi:i<xs.size):SetTable.below xs (xs.getD i 0+1)=i+1:=by
 obtain⟨h1,h2,h3⟩:=xX (j:=xs.getD i 0+1) hr;generalize SetTable.below xs (xs.getD i 0+1)=b at h1 h2 h3
 rcases Nat.lt_trichotomy b (i+1)with h|h|h
 ·have:=h3 i (by omega) hi
  omega
 ·exact h
 ·have h4:=h2 (i+1) h
  have h5:=hr i (i+1) (by omega) (by omega);omega
theorem Rb{xs:Array Nat}(hr:fP xs):SetTable.below xs 0=0:=by
 obtain⟨h1,h2,h3⟩:=xX (j:=0) hr;generalize SetTable.below xs 0=b at h1 h2 h3
 rcases Nat.eq_zero_or_pos b with h|h
 ·exact h
 ·exact absurd (h2 0 h) (by omega)
theorem Vx{α:Type}(xs:Array α)(p:Nat)(x:α)(hp:p<=xs.size):(SetTable.insertAt xs p x).size=xs.size+1:=by
 unfold SetTable.insertAt;simp;omega
theorem Jy{α:Type}(xs:Array α)(p:Nat)(x:α):(SetTable.insertAt xs p x).toList=xs.toList.take p++x::xs.toList.drop p:=by
 unfold SetTable.insertAt;simp[Fg]
theorem insertAt_perm{α:Type}(xs:Array α)(p:Nat)(x:α):(SetTable.insertAt xs p x).toList.Perm (x::xs.toList):=by
 rw[Jy];refine Ff.trans ?_;rw[Qw]
theorem Jx(xs:Array Nat)(p x i:Nat)(hp:p<=xs.size):(SetTable.insertAt xs p x).getD i 0=if i<p then xs.getD i 0 else if i=p then x else xs.getD (i - 1) 0:=by
 have e:∀(ys:Array Nat) (i:Nat),ys.getD i 0=ys.toList.getD i 0:=λys i=>by simp[Array.getD,aL];split<;>simp[*]
 rw[e,e,e,Jy,aL,aL,aL];have hl:(xs.toList.take p).length=p:=by rw[iY];simp;omega
 by_cases h1:i<p
 ·rw[if_pos h1,mD (by omega),Ex h1]
 ·rw[if_neg h1,kR (by omega),hl]
  by_cases h2:i=p
  ·rw[if_pos h2,h2,Ft]
   rfl
  ·rw[if_neg h2]
   obtain⟨k,hk⟩:∃k,i - p=k+1:=⟨i - p - 1,by omega⟩;rw[hk,List.getElem?_cons_succ,List.getElem?_drop]
   congr 2
   omega
theorem Zt{xs:Array Nat}{j:Nat}(hr:fP xs)(hj:xs[SetTable.below xs j]?≠some j):fP (SetTable.insertAt xs (SetTable.below xs j) j):=by
 obtain⟨h1,h2,h3⟩:=xX (j:=j) hr;have h3':∀i,SetTable.below xs j<=i->i<xs.size->j<xs.getD i 0:=λi a b=>by
  rcases Nat.lt_or_eq_of_le (h3 i a b)with h|h
  ·exact h
  ·exfalso
   by_cases e:i=SetTable.below xs j
   ·apply hj
    rw[<- e,iV b];simp[Array.getD,b]at h;rw[h]
   ·have hb:SetTable.below xs j<xs.size:=by omega
    have q1:=h3 (SetTable.below xs j) (aH _) hb;have q2:=hr (SetTable.below xs j) i (by omega) b;omega
 generalize SetTable.below xs j=p at h1 h2 h3 h3';intro a b hab hb;rw[Vx _ _ _ h1]at hb;rw[Jx _ _ _ _ h1,Jx _ _ _ _ h1]
 by_cases a1:a<p
 ·rw[if_pos a1]
  by_cases b1:b<p
  ·rw[if_pos b1];exact hr a b hab (by omega)
  ·rw[if_neg b1]
   by_cases b2:b=p
   ·rw[if_pos b2];exact h2 a a1
   ·rw[if_neg b2]
    exact wX (h2 a a1) (h3' (b - 1) (by omega) (by omega))
 ·rw[if_neg a1]
  have b1:¬ b<p:=by omega
  have b2:¬ b=p:=by omega
  rw[if_neg b1,if_neg b2]
  by_cases a2:a=p
  ·rw[if_pos a2]
   exact h3' (b - 1) (by omega) (by omega)
  ·rw[if_neg a2]
   exact hr (a - 1) (b - 1) (by omega) (by omega)
theorem Zv{l:List Nat}(h:l.Pairwise (· < ·)):fP l.toArray:=by
 intro i j hij hj;have hj':j<l.length:=by simpa using hj
 have:=rC.mp h i j (by omega) hj' hij;simp[Array.getD,hj',show i<l.length by omega];exact this
theorem Zu:fP #[]:=λi j _ h=>absurd h (by simp)
theorem V_{mask finger moves:Nat}{led plain:Bool}{hs:Array Int}{t:SetTable}{order:Array Nat}(h:SetTable.laid mask finger moves led plain hs=some (t,order)):fP t.place/\t.dummies = #[]/\t.led=led/\t.plain=plain:=by
 unfold SetTable.laid at h;cases e:SetTable.layClean mask hs with
 |none=>rw[e]at h;cases h
 |some owner =>
  rw[e]at h;injection h with h
  injection h with h1 h2
  rw[<- h1];refine⟨?_,rfl,rfl,rfl⟩;apply Zv
  rw[fh,List.pairwise_filterMap];refine wM.imp λ{a b} hab x hx y hy=>?_;cases ea:owner.getD a none with
  |none=>rw[ea]at hx;cases hx
  |some p =>
   cases eb:owner.getD b none with
   |none=>rw[eb]at hy;cases hy
   |some q =>
    rw[ea]at hx;rw[eb]at hy;cases hx;cases hy;exact hab
theorem Z7{t:SetTable}(hd:t.dummies = #[])(j:Nat):t.slot j = .empty/\t.place[SetTable.below t.place j]?≠some j\/∃i,t.slot j = .live i:=by
 unfold SetTable.slot;dsimp only
 by_cases e:(t.place[SetTable.below t.place j]?==some j)=true
 ·rw[if_pos e]
  exact .inr ⟨_,rfl⟩
 ·rw[if_neg e]
  refine .inl ⟨?_,λz=>e (by rw[z];simp)⟩;rw[hd];rfl
theorem Ih{t:SetTable}{h:Int}(hd:t.dummies = #[]):∀(fuel:Nat) (p:SetTable.Probe) (j:Nat) (d:Option Nat),p.dummy=none->SetTable.probe.go t (λ_=>h+1) h fuel p=some (.empty j d)->d=none/\t.place[SetTable.below t.place j]?≠some j
 |0,p,j,d,_,e=>by cases e
 |fuel+1,p,j,d,hp,e=>by
  unfold SetTable.probe.go at e
  rcases Z7 hd p.j with⟨q,q'⟩|⟨i,q⟩
  ·rw[q]at e
   injection e with e
   injection e with e1 e2
   rw[<- e1,<- e2];exact⟨hp,q'⟩
  ·rw[q]at e
   dsimp only at e;have hne:((h+1)==h)=false:=by
    rw[kf];omega
   rw[hne]at e;refine Ih hd fuel _ j d ?_ e;unfold SetTable.advance
   split<;>exact hp
theorem Tx{t:SetTable}{h:Int}{s:Nat}{w:Bool}(hd:t.dummies = #[])(e:t.freeSlot h=some (s,w)):w=false/\t.place[SetTable.below t.place s]?≠some s:=by
 unfold SetTable.freeSlot SetTable.probe at e;generalize eg:SetTable.probe.go t (λ_=>h+1) h (10*SetTable.turns t.mask) (t.probeStart h)=g at e
 match g,e with
 |some (.empty j d),e =>
  obtain⟨rfl,q⟩:=Ih hd _ _ j d rfl eg;injection e with e
  injection e with e1 e2
  rw[<- e1,<- e2];exact⟨rfl,q⟩
structure TabOk (t:SetTable):Prop where
 nd:t.dummies = #[]
 rise:t.plain=true->fP t.place
theorem aaK(f m:Nat)(led:Bool):TabOk (SetTable.fresh f m led):=⟨rfl,λ_=>Zu⟩
theorem vP{t:SetTable}(n:Nat):TabOk (t.standIn n)/\(t.standIn n).led=t.led:=⟨⟨rfl,λh=>by cases h⟩,rfl⟩
theorem Kc{t:SetTable}{es:Array (Int × Value)}{h:Int}{x:Value}(ok:TabOk t):TabOk (layNew t es h x).2.1/\(layNew t es h x).2.1.led=t.led/\(layNew t es h x).1.toList.Perm ((h,x)::es.toList)/\(layNew t es h x).2.2.1=false:=by
 unfold layNew;cases e:t.freeSlot h with
 |none =>
  refine⟨(vP _).1,rfl,?_,rfl⟩;dsimp only;rw[oG];exact(Fe _ _)
 |some q =>
  obtain⟨s,w⟩:=q;obtain⟨rfl,hs⟩:=Tx ok.nd e;dsimp only[SetTable.put];have hhas:SetTable.has t.dummies s=false:=by rw[ok.nd];rfl
  rw[hhas];simp only[e9,dQ];refine⟨?_,?_,insertAt_perm _ _ _,True.intro⟩
  ·unfold SetTable.orStandIn
   by_cases hf:({t with place:=SetTable.insertAt t.place (SetTable.below t.place s) s}:SetTable).fits (SetTable.insertAt es (SetTable.below t.place s) (h,x)).size=true
   ·rw[if_pos hf]
    exact⟨ok.nd,λhp=>Zt (ok.rise hp) hs⟩
   ·rw[if_neg hf]
    exact(vP _).1
  ·unfold SetTable.orStandIn
   by_cases hf:({t with place:=SetTable.insertAt t.place (SetTable.below t.place s) s}:SetTable).fits (SetTable.insertAt es (SetTable.below t.place s) (h,x)).size=true
   ·rw[if_pos hf]
   ·rw[if_neg hf]
    rfl
theorem MT{α:Type}:∀l:List α,(List.range l.length).filterMap (λi=>l[i]?)=l
 | []=>rfl
 |x::l=>by
  rw[dW,List.range_succ_eq_map,mC];simp only[Qq,List.filterMap_map]
  congr 1
  exact MT l
theorem Zr{t:SetTable}{es:Array (Int × Value)}{n:Nat}(ok:TabOk t):TabOk (relayAll t es n).2.1/\(relayAll t es n).2.1.led=t.led/\(relayAll t es n).1.toList.Perm es.toList:=by
 unfold relayAll;cases e:t.relaid (es.map (·.1)) n with
 |none=>exact⟨(vP _).1,rfl,.refl _⟩
 |some q =>
  obtain⟨t',order⟩:=q;obtain⟨h1,h2,h3,h4⟩:=V_ e;dsimp only
  split
  ·rename_i hc
   rw[bw]at hc;refine⟨⟨h2,λ_=>h1⟩,h3,?_⟩;have hp:order.toList.Perm (List.range es.size):=List.isPerm_iff.mp hc.1;rw[Array.toList_filterMap];refine(hp.filterMap _).trans ?_;have:(List.range es.size).filterMap (λi=>es[i]?)=es.toList:=by
    have:=MT es.toList;simpa using this
   rw[this]
  ·exact⟨(vP _).1,rfl,.refl _⟩
noncomputable def uo:Value->Int
 |.int k _=>k
 |_=>0
abbrev numsOf (es:Array (Int × Value)):List Int:=es.toList.map λe=>uo e.2
structure fq (prog:Program) (w:World) (es:Array (Int × Value)) (t:SetTable) (ks:List Int):Prop where
 el:ElemsOf (intKind prog w) es.toList
 fits:t.fits es.size=true
 tab:TabOk t
 led:t.led = !w.params.followText "set-order"
 perm:(numsOf es).Perm ks
 nd:ks.Nodup
noncomputable def dZ(prog:Program)(w:World)(h:Heap)(a:Addr)(ks:List Int):Prop:=
 ∃o es ep t,h.get? a=some o/\o.ExactSet/\o.data = .set es ep t/\fq prog w es t ks
section
variable {prog:Program} {w:World} {A:Around} {E:Value->Shared->Prop} {s:Shared}
theorem Hv{l:List (Int × Value)}(h:ElemsOf (intKind prog w) l){e:Int × Value}(he:e∈l):∃k t,e.2 = .int k t:=by
 obtain⟨⟨k,hk,_⟩,_⟩:=h e he;obtain⟨t,q⟩:=xA hk;exact⟨k,t,q⟩
theorem fq.size{es:Array (Int × Value)}{t:SetTable}{ks:List Int}(h:fq prog w es t ks):es.size=ks.length:=by
 rw[<- h.perm.length_eq,ao,eY]
theorem fq.mem{es:Array (Int × Value)}{t:SetTable}{ks:List Int}(h:fq prog w es t ks){k:Int}:k∈ks ↔ ∃e∈es.toList,Value.isInt k e.2=true:=by
 rw[<- h.perm.mem_iff,b9]
 constructor
 ·rintro⟨e,he,q⟩
  obtain⟨k',t',q'⟩:=Hv h.el he;rw[q']at q;have:k'=k:=q;subst this;exact⟨e,he,by rw[q'];simp[Value.isInt]⟩
 ·rintro⟨e,he,q⟩
  obtain⟨t',q'⟩:=xA q;exact⟨e,he,by rw[q'];rfl⟩
noncomputable def jQ(ks:List Int)(k:Int):List Int:=if k∈ks then ks else ks++[k]
theorem fq.lay{es:Array (Int × Value)}{t:SetTable}{ks:List Int}(h:fq prog w es t ks){k:Int}{tk:Tok}(hk:k ∉ ks):fq prog w (layNew t es (hashInt k) (.int k tk)).1 (layNew t es (hashInt k) (.int k tk)).2.1 (ks++[k]):=by
 obtain⟨h1,h2,h3,_⟩:=Kc (es:=es) (h:=hashInt k) (x:=Value.int k tk) h.tab;refine⟨λe he=>?_,layNew_fits _ _ _ _,h1,h2.trans h.led,?_,?_⟩
 ·rcases aY.mp (h3.mem_iff.mp he)with q|q
  ·rw[q]
   exact⟨⟨k,by simp[intKind,Value.isInt],rfl⟩,rfl⟩
  ·exact h.el e q
 ·refine(h3.map _).trans ?_
  rw[bA];exact((h.perm.cons _).trans (Fe _ _).symm)
 ·rw[rA]
  refine⟨h.nd,by simp,λx hx y hy z=>hk ?_⟩;rw[<- (show y=k by simpa using hy),<- z];exact hx
theorem fq.Zq{es:Array (Int × Value)}{t:SetTable}{ks:List Int}(h:fq prog w es t ks)(n:Nat):fq prog w (relayAll t es n).1 (relayAll t es n).2.1 ks:=by
 obtain⟨h1,h2,h3⟩:=Zr (es:=es) (n:=n) h.tab;exact⟨λe he=>h.el e (h3.mem_iff.mp he),relayAll_fits _ _ _,h1,h2.trans h.led,(h3.map _).trans h.perm,h.nd⟩
theorem stored{a:Addr}{o:Obj}{es es':Array (Int × Value)}{ep:Nat}{t t':SetTable}{ks:List Int}(ho:s.heap.get? a=some o)(hx:o.ExactSet)(hd:o.data = .set es ep t)(h:fq prog w es' t' ks):∃o' ep',(s.heap.update a (Obj.putSet es' t')).get? a=some o'/\o'.ExactSet/\o'.data = .set es' ep' t':=by
 refine⟨_,ep+1,pe _ ho (by rw[putSet_of es' t' hd]<;>rfl),?_,?_⟩
 ·rw[putSet_of es' t' hd];exact hx
 ·rw[putSet_of es' t' hd]
theorem Gm{a:Addr}{o:Obj}{es es':Array (Int × Value)}{ep:Nat}{t t':SetTable}{ks:List Int}{g:Bool->Sem Unit}{wd:Bool}{R:Option Bool->Shared->Prop}(hg:∀(b:Bool) (s':Shared) (Q':Unit->Shared->Prop),Q' () s'->wpAny (model prog w) A (g b) Q' E s')
  (ho:s.heap.get? a=some o) (hx:o.ExactSet) (hd:o.data = .set es ep t) (H:fq prog w es' t' ks) (hb:ks.length<scanBound) (h:∀h',Heap.SameBut a s.heap h'->dZ prog w h' a ks->R (some true) {s with heap:=h'}) :
  wpAny (model prog w) A (do
    storeSet a es' t'
    if(!wd&&t'.tooFull)=true then do
      g (relayAll t' es' (SetTable.grown es'.size)).2.2
      storeSet a (relayAll t' es' (SetTable.grown es'.size)).1 (relayAll t' es' (SetTable.grown es'.size)).2.1
      pure (some true)
     else pure (some true)) R E s:=by
 have z1:es'.size<scanBound:=by rw[H.size];exact hb
 obtain⟨o1,SQ,p1,p2,p3⟩:=stored ho hx hd H;have b1:=o_ s.heap a (Obj.putSet es' t');refine ae (wpAny_storeSet_of ho hd ?_ (fits_of_scanBound z1))
 by_cases c:(!wd&&t'.tooFull)=true
 ·rw[if_pos c]
  have H2:=H.Zq (SetTable.grown es'.size);have z2:(relayAll t' es' (SetTable.grown es'.size)).1.size<scanBound:=by rw[H2.size];exact hb
  refine ae (hg _ _ _ (ae (wpAny_storeSet_of p1 p3 (ak ?_) (fits_of_scanBound z2))));obtain⟨o2,SX,r1,r2,r3⟩:=stored (s:={s with heap:=s.heap.update a (Obj.putSet es' t')}) p1 p2 p3 H2;exact h _ (b1.trans (o_ _ a _)) ⟨o2,_,SX,_,r1,r2,r3,H2⟩
 ·rw[if_neg c]
  exact ak (h _ b1 ⟨o1,_,SQ,_,p1,p2,p3,H⟩)
theorem add_num{a:Addr}{ks:List Int}{k:Int}{tk:Tok}{Q:Bool->Shared->Prop}(hG:dZ prog w s.heap a ks)(hroom:ks.length+1<scanBound)
  (h:∀b h',Heap.SameBut a s.heap h'->dZ prog w h' a (jQ ks k)->Q b {s with heap:=h'}):wpAny (model prog w) A (setAddHashed a (.int k tk) (hashInt k)) Q E s:=by
 obtain⟨o,es,ep,t,ho,hx,hd,H⟩:=id hG;have key:(intKind prog w).is k (Value.int k tk)=true:=intKind_is _ _ _ _;have zb:es.size<scanBound:=by rw[H.size];omega
 unfold setAddHashed setAddHashedIn;refine fk (ae (pq ho hd H.fits ?_));dsimp only;rw[byScan_of (knd:=intKind prog w) (x:=Value.int k tk) rfl zb H.el];simp only[↓reduceIte];unfold setAddByScan;refine ae (ae (jk (ae (wpAny_setScan_of (knd:=intKind prog w) key ho hd H.fits H.el ?_))))
 by_cases hk:k∈ks
 ·obtain⟨e,he,q⟩:=H.mem.mp hk
  cases hr:es.toList.findIdx? (λe=>(intKind prog w).is k e.2)with
  |none =>
   have:=Qp.mp hr e he;rw[show(intKind prog w).is k e.2=Value.isInt k e.2 from rfl,q]at this;cases this
  |some j =>
   refine ak (ak ?_);have e0:s = {s with heap:=s.heap}:=by cases s;rfl
   rw[e0];refine h false s.heap (Heap.SameBut.refl a s.heap) ?_;unfold jQ;rw[if_pos hk];exact hG
 ·have hr:es.toList.findIdx? (λe=>(intKind prog w).is k e.2)=none:=by
   rw[Qp];intro e he;cases q:(intKind prog w).is k e.2 with
   |false=>rfl
   |true=>exact absurd (H.mem.mpr ⟨e,he,q⟩) hk
  rw[hr];dsimp only;have H1:=H.lay (tk:=tk) hk;have hw:=(Kc (es:=es) (h:=hashInt k) (x:=Value.int k tk) H.tab).2.2.2;have fin:∀h',Heap.SameBut a s.heap h'->dZ prog w h' a (ks++[k])->Q true {s with heap:=h'}:=λh' b g=>h true h' b (by unfold jQ;rw[if_neg hk];exact g);have hb':(ks++[k]).length<scanBound:=by rw[de];exact hroom
  show wpAny _ _ ((match layNew t es (hashInt k) (Value.int k tk)with | (es,t,wasDummy,gave)=>_)>>=_) _ _ _;generalize layNew t es (hashInt k) (Value.int k tk)=N at H1 hw ⊢;obtain⟨es1,t1,wd,gave⟩:=N;dsimp only at H1 hw ⊢;refine ae ?_;have on:∀(b:Bool) (s':Shared) (Q':Unit->Shared->Prop),Q' () s'->wpAny (model prog w) A (match b with|true=>rule "set.scan.the-table-gave-way" |false=>pure ()) Q' E s':=λb s' Q' q=>by
   cases b
   ·exact ak q
   ·exact jk q
  refine on gave s _ ?_
  by_cases hp:t1.plain=true
  ·rw[if_pos hp]
   refine ae ?_;rw[hashByValue_scannable 8 (x:=Value.int k tk) rfl];refine ak ?_;simp only[plainKind,↓reduceIte];exact Gm on ho hx hd H1 hb' λh' b g=>ak (fin h' b g)
  ·rw[if_neg hp]
   refine ae (ak ?_);simp only[↓reduceIte];exact Gm on ho hx hd H1 hb' λh' b g=>ak (fin h' b g)
end
noncomputable def numsTo(val:Nat->Int)(i:Nat):List Int:=((List.range i).map val).foldl jQ []
theorem numsTo_succ(val:Nat->Int)(i:Nat):numsTo val (i+1)=jQ (numsTo val i) (val i):=by
 unfold numsTo;rw[oS,d5,wC];rfl
theorem YT(ks:List Int)(k:Int):(jQ ks k).length<=ks.length+1:=by
 unfold jQ
 split
 ·omega
 ·rw[de]
  exact aH _
theorem K6(val:Nat->Int):∀i,(numsTo val i).length<=i
 |0=>aH _
 |i+1=>by
  rw[numsTo_succ];have h1:=YT (numsTo val i) (val i);have h2:=K6 val i;omega
theorem dZ.moved{prog:Program}{w:World}{h h':Heap}{a:Addr}{ks:List Int}(hG:dZ prog w h a ks)(k:∀o,h.get? a=some o->h'.get? a=some o):dZ prog w h' a ks:=
 let⟨o,es,ep,t,ho,q⟩:=hG;⟨o,es,ep,t,k o ho,q⟩
section
variable {prog:Program} {w:World} {A:Around} {R:Result->Shared->Prop} {it:Addr} {fp wr:List Addr} {Gn:Array GenState->Array GenState->Prop} {n:Nat} {P:Nat->Value->Prop} {St:Nat->Shared->Prop}
theorem HJ(W:WalksS prog w A.in1 it fp wr Gn n P St)(a:Addr)(ha:a ∉ fp)(val:Nat->Int)(hv:∀i v,P i v->∃t,v = .int (val i) t)(hb:n+1<scanBound):∀(k i:Nat) (s:Shared),n - i=k->i<=n->St i s->dZ prog w s.heap a (numsTo val i)->(∀s',PySem.Moved (a::wr) Gn s s'->dZ prog w s'.heap a (numsTo val n)->R (.ok (.ret .none)) s') ->
   codeAny (model prog w) A (.builtin "set.update.loop" ⟨[.ref a,.ref it],[]⟩) R s
 |0,i,s,hk,hi,hst,hG,hR=>by
  have ei:i=n:=by omega
  subst ei;have haw:a ∉ wr:=λh=>ha (W.sub _ h);refine(jd F.entry_set_update_loop ?_);rw[show _=_ from FG Fy _];show wpAny _ A.in1 (pyNext (.ref it)>>=_) _ _ s;refine ae (W.done s _ _ hst λs1 hm=>ak (hR s1 (hm.mono λb hb=>bu _ hb) (hG.moved λo e=>hm.heap a o haw e)))
 |k+1,i,s,hk,hi,hst,hG,hR=>by
  have haw:a ∉ wr:=λh=>ha (W.sub _ h);have hlt:i<n:=by omega
  refine(jd F.entry_set_update_loop ?_);rw[show _=_ from FG Fy _];show wpAny _ A.in1 (pyNext (.ref it)>>=_) _ _ s;refine ae (W.item i s _ _ hlt hst λv s1 hP Vc hm=>?_);obtain⟨t,rfl⟩:=hv i v hP;have T':dZ prog w s1.heap a (numsTo val i):=hG.moved λo e=>hm.heap a o haw e;have hl:=K6 val i;show wpAny _ A.in1 (holding [Value.int (val i) t] (setAdd a (.int (val i) t))>>=_) _ _ s1;refine ae (fk ?_);unfold setAdd;refine fk (ae ((intKind prog w).pyHash (k:=val i) (intKind_is _ _ _ _) ?_));refine add_num (s:={s1 with toks:=s1.toks+1}) T' (by omega) λb h1 hsb Ua=>?_;refine ak ⟨xD Fy _,HJ W a ha val hv hb k (i+1) _ (by omega) hlt (W.frame _ s1 _ _ Vc (rD _) λc hc o e=>?_) (by rw[numsTo_succ];exact Ua) λs2 hm2 Ub=>?_⟩
  ·rw[hsb.2 c (λh=>ha (by rw[<- h];exact hc))]
   exact e
  ·refine hR s2 (PySem.Moved.trans W.gtrans ((hm.mono λb hb=>bu _ hb).then_heap (rD _) λc o hc e=>?_) hm2) Ub
   rw[hsb.2 c (λh=>hc (by rw[h];exact bx))];exact e
end
section
variable {prog:Program} {w:World} {A:Around} {E:Value->Shared->Prop} {s:Shared}
abbrev h_ (w:World):Obj:={cls:=.type "set", dict:=none,data:=.set #[] 0 (.fresh 0 0 (!w.params.followText "set-order"))}
theorem W8{h:Heap}{a:Addr}(e:h.get? a=some (h_ w)):dZ prog w h a []:=
 ⟨_,#[],0,_,e,⟨rfl,rfl,rfl⟩,rfl,λe he=>by simp at he,rfl,aaK _ _ _,rfl,by simp,by simp⟩
theorem ZW(x:Value){Q1:Value->Shared->Prop}(h:Q1 (.ref s.heap.objs.size) {s with heap:=s.heap.push (h_ w)}):
  codeAny (model prog w) A (.call (.builtin "set.__new__") ⟨[.type "set", x],[]⟩) (wants Q1 E) s:=by
 refine codeAny_of_tree (?_:wpAny _ A.in1 (do checkBuiltinCall "set.__new__" ⟨[.type "set", x],[]⟩;again (.builtin "set.__new__" ⟨[.type "set", x],[]⟩)) _ _ s);refine ae (xG (F.newCall_set_1 x) (ak ⟨xD F.plain_set_new _,(jd F.entry_set_new ?_)⟩));rw[show _=_ from FG F.plain_set_new _];unfold Builtin.«set.__new__» Builtin.Frozenset.newClass;have hsub:=sub_set_self;obtain⟨hp,g,d,tk,os⟩:=s;dsimp only
 wp_walk
 refine FW (ak ?_);dsimp only;simp only[newObj];exact ae (wpAny_alloc (ak (ak h)))
theorem ZX{l:Addr}{its:Array Value}{ns:List Int}{Q:Value->Shared->Prop}(hh:A.handled=none)(hL:s.heap.IsList l its)(hI:IntsAre its.toList ns)(hb:its.size+1<scanBound)
  (h:∀(h':Heap) (tk:Nat),dZ prog w h' s.heap.objs.size (numsTo (λi=>ns.getD i 0) its.size)->(∀b o,b<s.heap.objs.size->s.heap.get? b=some o->h'.get? b=some o)->Q (.ref s.heap.objs.size) {s with heap:=h',toks:=tk}) :
  wpAny (model prog w) A (call (.type "set") [.ref l]) Q E s:=by
 obtain⟨c,tl,hmro⟩:=kZ.mro;have hmade:=kZ.made;have hsub:=kZ.sub;refine mN (codeAny_of_tree (?_:wpAny _ _ (callAny (.type "set") _) _ _ _));refine ak ⟨xk _ (by decide +kernel),(jd F.entry_type_call ?_)⟩;rw[show _=_ from Around.under_plain (weight_type_call_type "set" [.ref l] []) rfl];have hnT:=kZ.notType;have hcC:=kZ.canCreate;have hct:=F.typeCall_set_1 (.ref l)
 repeat any_goals first|assumption|wp_step
 refine fM (ZW (.ref l) (E:=E) (Q1:=λobj s1=>obj = .ref s.heap.objs.size/\s1 = {s with heap:=s.heap.push (h_ w)}) ⟨rfl,rfl⟩) λr s1 hr=>?_;cases r with
 |error e=>exact hr
 |ok fl =>
  cases fl with
  |ret obj =>
   obtain⟨rfl,rfl⟩:=hr;have gS:(s.heap.push (h_ w)).get? s.heap.objs.size=some (h_ w):=bf _ rfl;have hT:Shared.TypeIs {s with heap:=s.heap.push (h_ w)} (.ref s.heap.objs.size) "set" :=⟨_,gS,rfl⟩;have hli:=kZ.init.lookup;have hbi:=kZ.init.bind (.ref s.heap.objs.size)
   repeat any_goals first|assumption|wp_step
   refine fM (codeAny_call_builtin (R:=wants (λr s2=>r = .none/\∃h' tk,s2 = {s with heap:=h',toks:=tk}/\dZ prog w h' s.heap.objs.size (numsTo (λi=>ns.getD i 0) its.size) /\
     (∀b o,b<s.heap.objs.size->s.heap.get? b=some o->h'.get? b=some o)) E) kZ.init.plain F.entry_set_init (check_set_init_1 hT ?_)) λr2 s2 hr2=>?_
   ·obtain⟨⟨ocl,odi,oda,osl⟩,hol,hcl,nl,hdl⟩:=hL
    simp only at hcl hdl;subst hcl hdl;have hlS:l<s.heap.objs.size:=aP hol;have hol1:(s.heap.push (h_ w)).get? l=some {cls:=.type "list", dict:=odi,data:=.seq its nl,slots:=osl}:=aI _ hol;have hL1:(s.heap.push (h_ w)).IsList l its:=⟨_,hol1,rfl,nl,rfl⟩;have q1:=F.sub_list_set;have q2:=F.sub_list_frozenset;have q3:(Value.type "list" == Value.type "dict")=false:=by decide
    unfold Builtin.«set.__init__» noKeywords Builtin.Frozenset.updateFrom;generalize hPI:pyIter=PI
    wp_walk
    subst hPI;refine pk hL1 (ae (xI ?_));have h3:A.in1.in1.in1.handled=none:=by simp[hh]
    have k8:(s.heap.push (h_ w)).objs.size=s.heap.objs.size+1:=eK ..;have nI:l≠(s.heap.push (h_ w)).objs.size:=by rw[k8];exact a_ (rE hlS)
    have nF:s.heap.objs.size ∉ [(s.heap.push (h_ w)).objs.size,l]:=by
     rw[k8];intro z
     rcases aY.mp z with z|z
     ·exact absurd z (a_ (oX _))
     ·exact absurd (gT.mp z) (gF hlS)
    refine HJ ((Walks.list h3 _ l nI its).toS) s.heap.objs.size nF (λi=>ns.getD i 0) (λi v hv=>IntsAre.int_at hI i v (by rw[oF];exact hv)) hb its.size 0 _ (by omega) (bM _) ⟨⟨_,bf _ rfl,rfl,rfl⟩,(hL1.push _)⟩ (W8 (aI _ gS)) ?_;intro s3 hm hG;obtain⟨h',g',d',tk',os'⟩:=s3;have eg:g'=s.gens:=hm.gens;have ed:d'=s.drawn:=hm.drawn;have eo:os'=s.os:=hm.os;subst eg ed eo;refine ak (?_:wpAny _ _ (ret Value.none) _ _ _);refine ak ⟨rfl,h',tk',rfl,hG,λb o hb e=>?_⟩;refine hm.heap b o (λz=>?_) (aI _ (aI _ e))
    rcases aY.mp z with z|z
    ·exact absurd z (a_ hb)
    ·have:=gT.mp z
     rw[k8]at this;exact absurd this (a_ (rE hb))
   ·cases r2 with
    |error e=>exact hr2
    |ok Tg =>
     cases Tg with
     |ret r =>
      obtain⟨rfl,h',tk,rfl,hG,hk⟩:=hr2
      repeat any_goals first|assumption|wp_step
      exact h _ _ hG hk
     |_=>exact hr2.elim
  |_=>exact hr.elim
end
theorem il:Slot "set_iterator" "__next__" "set_iterator.__next__" :=.of (owner:= "set_iterator") (n:= "__next__") (by rw[typeLookup_type,builtinLookup_eq_fast];kernel_rfl) (by decide +kernel) (by decide +kernel) (by decide +kernel) (by first|exact .inl (by decide +kernel)|exact .inr (by decide +kernel)) (by rw[isSubtype_type];kernel_rfl)
theorem sF:entryFor table "set_iterator.__next__" = some Builtin.«set_iterator.__next__»:=entryFor_of_tree (by kernel_rfl)
theorem Oo:Slot "set_iterator" "__iter__" "set_iterator.__iter__" :=.of (owner:= "set_iterator") (n:= "__iter__") (by rw[typeLookup_type,builtinLookup_eq_fast];kernel_rfl) (by decide +kernel) (by decide +kernel) (by decide +kernel) (by first|exact .inl (by decide +kernel)|exact .inr (by decide +kernel)) (by rw[isSubtype_type];kernel_rfl)
theorem SN:entryFor table "set_iterator.__iter__" = some Builtin.«dict_keyiterator.__iter__»:=entryFor_alias (id':= "dict_keyiterator.__iter__") (by kernel_rfl) (by first|rfl|decide +kernel) (by decide +kernel) (by kernel_rfl)
theorem SM:entryFor table "set.__iter__" = some Builtin.«frozenset.__iter__»:=entryFor_alias (id':= "frozenset.__iter__") (by kernel_rfl) (by first|rfl|decide +kernel) (by decide +kernel) (by kernel_rfl)
theorem LR:Manifest.owners.lookup (String.ofList ['r','o','t','a','r','e','t','i','_','t','e','s'].reverse)=some Manifest.sig_set_iterator:=by kernel_rfl
abbrev g9 (h:Heap) (it:Addr) (f0:Value) (i:Nat) (a:Addr) (n ep:Nat):Prop:=
 h.get? it=some {cls:=.type "set_iterator", dict:=none,data:=.fields #[f0,rawInt i,.ref a,rawInt n,rawInt ep],slots:=#[]}
section
variable {prog:Program} {w:World} {A:Around} {E:Value->Shared->Prop} {s:Shared} {it a:Addr} {i n ep:Nat} {es:Array (Int × Value)} {t:SetTable} {o:Obj} {x:Value}
theorem rY (v:Value):argsOk "set_iterator.__next__" ⟨[v],[]⟩:=by
 unfold argsOk;rw[signature?_of (id:= "set_iterator.__next__") (n:=['_','_','t','x','e','n','_','_']) (o:=['r','o','t','a','r','e','t','i','_','t','e','s']) (by kernel_rfl) LR]
 kernel_rfl
theorem Q6 (v:Value):argsOk "set_iterator.__iter__" ⟨[v],[]⟩:=by
 unfold argsOk;rw[signature?_of (id:= "set_iterator.__iter__") (n:=['_','_','r','e','t','i','_','_']) (o:=['r','o','t','a','r','e','t','i','_','t','e','s']) (by kernel_rfl) LR]
 kernel_rfl
theorem Ol{sl nx:Nat}{Q:Option Value->Shared->Prop}(hit:g9 s.heap it (rawInt sl) i a es.size ep)(ho:s.heap.get? a=some o)(hd:o.data = .set es ep t)(hf:t.fits es.size=true)(hn:∀{A':Around} {E':Value->Shared->Prop} {Q':Option (Value × Nat)->Shared->Prop},Q' (some (x,nx)) s->wpAny (model prog w) A' (setNext a sl i ep) Q' E' s)
  (hQ:∀h',g9 h' it (rawInt nx) (i+1) a es.size ep->Heap.SameBut it s.heap h'->Q (some x) {s with heap:=h'}):wpAny (model prog w) A (pyNext (.ref it)) Q E s:=by
 have hT:s.TypeIs (.ref it) "set_iterator" :=⟨_,hit,rfl⟩;unfold pyNext;refine ae (jf (jg (name:=Str.ofString "__next__") hT il (fN il hT sF ?_ (rY _))));show wpAny _ _ (fieldsOf (.ref it)>>=_) _ _ s;refine ae (ph hit rfl ?_);show wpAny _ _ (setEntries a>>=_) _ _ s;refine ae (rT ho hd hf ?_);dsimp only;rw[if_neg (by simp)];show wpAny _ _ (setNext a (sl:Int).toNat (i:Int).toNat (ep:Int).toNat>>=_) _ _ s;rw[ck,ck,ck];refine ae (hn ?_);dsimp only;refine ae (gY hit (by simp) λh1 hit1 e1=>ae (gY (s:={s with heap:=h1}) hit1 (by simp) λh2 hit2 e2=>?_));exact ak ⟨x,rfl,ak (hQ h2 hit2 (e1.trans e2))⟩
theorem Oz {B:Around} {Q:Fin->Shared->Prop} {E':Value->Shared->Prop} (hh:B.handled=none) (h:∀h' e,(∀b o,s.heap.get? b=some o->h'.get? b=some o)->(∃o,h'.get? e=some o/\o.cls = .type "StopIteration")->E' (.ref e) {s with heap:=h'}) :
  wpAny (model prog w) B (do let x <- newExc (.type "StopIteration") [];raiseNew x) Q E' s:=by
 refine ae ?_;simp only[newExc,newTuple];refine ae (ji ?_ (by size_fits));refine ae (m:=firstArgMember _ _) (xG (a:=Value.none) (by first|rfl | (simp only[firstArgMember];rfl)) ?_);refine ji ?_ (by size_fits);simp only[raiseNew];refine ae (wpAny_handled ?_);rw[hh];refine ae (ak (wpAny_throw ?_));exact h _ _ (λb o e=>aI _ (aI _ e)) ⟨_,bf _ rfl,rfl⟩
theorem Oj{sl:Nat}{Q:Option Value->Shared->Prop}(hh:A.handled=none)(hit:g9 s.heap it (rawInt sl) i a es.size ep)(ho:s.heap.get? a=some o)(hd:o.data = .set es ep t)(hf:t.fits es.size=true)(hn:∀{A':Around} {E':Value->Shared->Prop} {Q':Option (Value × Nat)->Shared->Prop},Q' none s->wpAny (model prog w) A' (setNext a sl i ep) Q' E' s)
  (hQ:∀h',(∀b o,b≠it->s.heap.get? b=some o->h'.get? b=some o)->Q none {s with heap:=h'}):wpAny (model prog w) A (pyNext (.ref it)) Q E s:=by
 have hT:s.TypeIs (.ref it) "set_iterator" :=⟨_,hit,rfl⟩;unfold pyNext;refine ae (jf (jg (name:=Str.ofString "__next__") hT il (fN il hT sF ?_ (rY _))));show wpAny _ _ (fieldsOf (.ref it)>>=_) _ _ s;refine ae (ph hit rfl ?_);show wpAny _ _ (setEntries a>>=_) _ _ s;refine ae (rT ho hd hf ?_);dsimp only;rw[if_neg (by simp)];show wpAny _ _ (setNext a (sl:Int).toNat (i:Int).toNat (ep:Int).toNat>>=_) _ _ s;rw[ck,ck,ck];refine ae (hn ?_);dsimp only;refine ae (gY hit (by simp) λh1 _ e1=>Oz (s:={s with heap:=h1}) (by first|exact hh | (show A.handled=none;exact hh)) λh2 e k2 he=>?_);obtain⟨oe,hoe,hce⟩:=he;refine ae (rR (T:= "StopIteration") (b:=true) ⟨oe,hoe,hce⟩ xC (ak (hQ h2 λb o hb e'=>k2 b o (e1.extBut b o hb e'))))
end
theorem yD{α:Type}:∀(l:List α) (i:Nat) (h:i<l.length),(l[i]::l.eraseIdx i).Perm l
 |x::l,0,_=>.refl _
 |x::l,i+1,h=>by
  rw[List.eraseIdx_cons_succ,List.getElem_cons_succ];exact(List.Perm.swap _ _ _).trans ((yD l i (by simpa using h)).cons x)
theorem Mj{α:Type}(f:Nat->Nat):∀(fuel k:Nat) (left:List α) (out:Array α),left.length<=fuel->(pickOrder.go f fuel k left out).toList.Perm (out.toList++left)
 |0,k,left,out,h=>by
  have:left = []:=Qo (by omega);subst this;unfold pickOrder.go;rw[j8]
 |fuel+1,k,left,out,h=>by
  unfold pickOrder.go;cases left with
  |nil=>simp
  |cons y r =>
   have hi:f k % (y::r).length<(y::r).length:=Nat.mod_lt _ (by simp);rw[aq hi];dsimp only;refine(Mj f fuel (k+1) _ _ (by rw[Qs hi];omega)).trans ?_;rw[oG,List.append_assoc];refine List.Perm.append_left _ ?_;exact yD _ _ hi
theorem Bq{α:Type}(f:Nat->Nat)(xs:Array α):(pickOrder f xs).toList.Perm xs.toList:=by
 unfold pickOrder;have:=Mj f xs.size 0 xs.toList #[] (by simp);simpa using this
section
variable {prog:Program} {w:World} {A:Around} {E:Value->Shared->Prop} {s:Shared} {it a:Addr} {i n ep:Nat} {es:Array (Int × Value)} {t:SetTable} {o:Obj} {x:Value}
theorem r9 {Q:Bool->Shared->Prop} (h:Q (w.params.followText "set-order") s):wpAny (model prog w) A setsByText Q E s:=by
 unfold setsByText;exact ae (FW (ak h))
theorem KQ {sl:Nat} {Q:Option (Value × Nat)->Shared->Prop} (ho:s.heap.get? a=some o) (hd:o.data = .set es ep t) (hf:t.fits es.size=true) (hT:w.params.followText "set-order" = false) (hp:(!t.plain&&decide (es.size > 1))=false) (hl:t.led=true)
  (h:Q (match es[SetTable.below t.place sl]?,t.place[SetTable.below t.place sl]? with|some (_,x),some j=>some (x,j+1)|_,_=>none) s):wpAny (model prog w) A (setNext a sl i ep) Q E s:=by
 unfold setNext;refine ae (pq ho hd hf (ae (r9 ?_)));rw[hT];show wpAny _ _ (if(!t.plain&&decide (es.size > 1))=true then _ else _) _ _ _;rw[hp];show wpAny _ _ ((if(!t.led&&!es.isEmpty)=true then unsupported _ else pure ())>>=_) _ _ _;rw[hl];exact ae (ak (ak h))
theorem KR {sl:Nat} {Q:Option (Value × Nat)->Shared->Prop} (ho:s.heap.get? a=some o) (hd:o.data = .set es ep t) (hf:t.fits es.size=true) (hT:w.params.followText "set-order" = true)
  (h:Q (((pickOrder (w.params.setOrder a ep) es)[i]?).map λe=>(e.2,sl)) s):wpAny (model prog w) A (setNext a sl i ep) Q E s:=by
 unfold setNext;refine ae (pq ho hd hf (ae (r9 ?_)));rw[hT];rw[if_pos rfl];dsimp only;rw[if_neg (by simp)];refine ae ?_;unfold setWalk;refine ae (pq ho hd hf (ae (r9 ?_)));rw[hT];show wpAny _ _ (do let y <- ask;pure (pickOrder (y.params.setOrder a ep) es)) _ _ _;exact ae (FW (ak (ak h)))
theorem Q5{src:Source}{k:Nat}{Q:Nat->Shared->Prop}(hk:k≠0)(h:∀j d',j<k->Q j {s with drawn:=d'}):wpAny (model prog w) A (choose src k) Q E s:=λΓ p _=>by
 unfold choose;rw[Sem.wp_choose];exact⟨hk,h _ _ (Nat.mod_lt _ (gU hk))⟩
theorem Hj{α:Type}:∀(k:Nat) (xs:List α) (s:Shared) (Q:List α->Shared->Prop),k=xs.length->(∀ys d',ys.Perm xs->Q ys {s with drawn:=d'})->wpAny (model prog w) A (drawOrder k xs) Q E s
 |0,xs,s,Q,hk,h=>by
  have:xs = []:=Qo hk.symm;subst this;unfold drawOrder;have:=h [] s.drawn (.refl _);exact ak this
 |k+1,[],s,Q,hk,h=>by cases hk
 |k+1,y::r,s,Q,hk,h=>by
  unfold drawOrder;refine ae (Q5 (by simp) λj d' hj=>?_);rw[aq hj];dsimp only;refine ae (Hj k _ _ _ (by rw[Qs hj,<- hk];rfl) λys d2 hp=>?_);exact ak (h _ d2 ((hp.cons _).trans (yD _ _ hj)))
theorem Z3 {T:Addr} {items:Array Value} {p:Nat} {hx:Int} {Q:Option Value->Shared->Prop} (hit:g9 s.heap it (.ref T) i a es.size ep) (hT':s.heap.get? T=some {cls:=.type "tuple", data:=.seq items}) (ho:s.heap.get? a=some o) (hd:o.data = .set es ep t) (hf:t.fits es.size=true) (h1:items[i]?=some (rawInt p)) (h2:es[p]?=some (hx,x))
  (hQ:∀h',g9 h' it (.ref T) (i+1) a es.size ep->Heap.SameBut it s.heap h'->Q (some x) {s with heap:=h'}):wpAny (model prog w) A (pyNext (.ref it)) Q E s:=by
 have hT:s.TypeIs (.ref it) "set_iterator" :=⟨_,hit,rfl⟩;unfold pyNext;refine ae (jf (jg (name:=Str.ofString "__next__") hT il (fN il hT sF ?_ (rY _))));show wpAny _ _ (fieldsOf (.ref it)>>=_) _ _ s;refine ae (ph hit rfl ?_);show wpAny _ _ (setEntries a>>=_) _ _ s;refine ae (rT ho hd hf ?_);dsimp only;rw[if_neg (by simp)];show wpAny _ _ (seqItems? (.ref T)>>=_) _ _ s;refine ae (jm hT' rfl ?_);dsimp only;rw[ck,h1];show wpAny _ _ (setNextDrawn a (p:Int).toNat (ep:Int).toNat>>=_) _ _ s;rw[ck,ck];refine ae ?_;unfold setNextDrawn;refine ae (pq ho hd hf ?_);dsimp only;rw[if_neg (by simp),h2];refine ak (ae (gY hit (by simp) λh1 hit1 e1=>?_));exact ak ⟨x,rfl,ak (hQ h1 hit1 e1)⟩
theorem Z2 {T:Addr} {items:Array Value} {Q:Option Value->Shared->Prop} (hh:A.handled=none) (hit:g9 s.heap it (.ref T) i a es.size ep) (hT':s.heap.get? T=some {cls:=.type "tuple", data:=.seq items}) (ho:s.heap.get? a=some o) (hd:o.data = .set es ep t) (hf:t.fits es.size=true) (h1:items[i]?=none)
  (hQ:∀h',(∀b o,b≠it->s.heap.get? b=some o->h'.get? b=some o)->Q none {s with heap:=h'}):wpAny (model prog w) A (pyNext (.ref it)) Q E s:=by
 have hT:s.TypeIs (.ref it) "set_iterator" :=⟨_,hit,rfl⟩;unfold pyNext;refine ae (jf (jg (name:=Str.ofString "__next__") hT il (fN il hT sF ?_ (rY _))));show wpAny _ _ (fieldsOf (.ref it)>>=_) _ _ s;refine ae (ph hit rfl ?_);show wpAny _ _ (setEntries a>>=_) _ _ s;refine ae (rT ho hd hf ?_);dsimp only;rw[if_neg (by simp)];show wpAny _ _ (seqItems? (.ref T)>>=_) _ _ s;refine ae (jm hT' rfl ?_);dsimp only;rw[ck,h1];refine ae (gY hit (by simp) λg1 hit1 e1=>ae (gY (s:={s with heap:=g1}) hit1 (by simp) λg2 _ e2=>Oz (s:={s with heap:=g2}) (by first|exact hh | (show A.handled=none;exact hh)) λg3 e k3 he=>?_));obtain⟨oe,hoe,hce⟩:=he;refine ae (rR (T:= "StopIteration") (b:=true) ⟨oe,hoe,hce⟩ xC (ak (hQ g3 λb o hb e'=>k3 b o (e2.extBut b o hb (e1.extBut b o hb e')))))
end
inductive ka where
 |tab
 |text
 |draw (T:Addr) (ps:List Nat)
noncomputable def slotAt(ps:Array Nat):Nat->Nat
 |0=>0
 |i+1=>ps.getD i 0+1
noncomputable def xN(m:ka)(it a:Addr)(o:Obj)(es:Array (Int × Value))(ep:Nat)(t:SetTable)(i:Nat)(h:Heap):Prop:=h.get? a=some o/\match m with
 |.tab=>g9 h it (rawInt (slotAt t.place i)) i a es.size ep
 |.text=>g9 h it (rawInt (0:Nat)) i a es.size ep
 |.draw T ps=>g9 h it (.ref T) i a es.size ep/\h.get? T=some {cls:=.type "tuple", data:=.seq (ps.map λp:Nat=>rawInt p).toArray}
noncomputable def rV(w:World)(m:ka)(a:Addr)(es:Array (Int × Value))(ep:Nat):List Value:=match m with
 |.tab=>es.toList.map (·.2)
 |.text=>(pickOrder (w.params.setOrder a ep) es).toList.map (·.2)
 |.draw _ ps=>ps.map λp=>(es.getD p (0,.none)).2
noncomputable def rU(w:World)(m:ka)(es:Array (Int × Value))(t:SetTable):Prop:=match m with
 |.tab=>w.params.followText "set-order" = false/\(!t.plain&&decide (es.size > 1))=false/\t.led=true/\fP t.place
 |.text=>w.params.followText "set-order" = true
 |.draw _ ps=>ps.Perm (List.range es.size)
noncomputable def f6(m:ka)(it a:Addr):List Addr:=match m with
 |.draw T _=>[it,a,T]
 |_=>[it,a]
theorem Wy{es:Array (Int × Value)}:(List.range es.size).map (λp=>(es.getD p (0,Value.none)).2)=es.toList.map (·.2):=by
 apply gw
 ·simp
 ·intro i h1 h2
  have hi:i<es.size:=by simpa using h1
  simp[Array.getD,hi]
theorem O6{w:World}{m:ka}{a:Addr}{es:Array (Int × Value)}{ep:Nat}{t:SetTable}(h:rU w m es t):(rV w m a es ep).Perm (es.toList.map (·.2)):=by
 cases m with
 |tab=>exact .refl _
 |text=>exact(Bq _ es).map _
 |draw T ps =>
  have:=List.Perm.map (λp=>(es.getD p (0,Value.none)).2) h;rw[Wy]at this;exact this
theorem aal{w:World}{m:ka}{a:Addr}{es:Array (Int × Value)}{ep:Nat}{t:SetTable}(h:rU w m es t):(rV w m a es ep).length=es.size:=by
 rw[(O6 h).length_eq,ao,eY]
section
variable {prog:Program} {w:World} {A:Around} {m:ka} {it a:Addr} {ep:Nat} {es:Array (Int × Value)} {t:SetTable} {o:Obj}
theorem Om(hr:fP t.place){i:Nat}(hi:i<=t.place.size):SetTable.below t.place (slotAt t.place i)=i:=by
 cases i with
 |zero=>exact Rb hr
 |succ i=>exact Ra hr (by omega)
theorem ZZ(hh:A.handled=none)(hd:o.data = .set es ep t)(hf:t.fits es.size=true)(ok:rU w m es t)(hne:it≠a)(hT:∀T ps,m = .draw T ps->T≠it):Walks prog w A it (f6 m it a) [it] es.size (λi v=>(rV w m a es ep)[i]?=some v) (xN m it a o es ep t) where
 sub:=λb hb=>by
  have:b=it:=gT.mp hb;subst this;cases m<;>simp[f6]
 frame:=λi h h' st k=>by
  obtain⟨h1,h2⟩:=st;cases m with
  |tab=>exact⟨k a (by simp[f6]) _ h1,k it (by simp[f6]) _ h2⟩
  |text=>exact⟨k a (by simp[f6]) _ h1,k it (by simp[f6]) _ h2⟩
  |draw T ps=>exact⟨k a (by simp[f6]) _ h1,k it (by simp[f6]) _ h2.1,k T (by simp[f6]) _ h2.2⟩
 item:=λi s Q E hi st hQ=>by
  have hps:t.place.size=es.size:=by
   unfold SetTable.fits at hf;rw[bw,gH]at hf;exact hf.1
  obtain⟨h1,h2⟩:=st;have other:∀h',Heap.SameBut it s.heap h'->∀b o,b ∉ [it]->s.heap.get? b=some o->h'.get? b=some o:=λh' e b o hb q=>e.extBut b o (λz=>hb (by rw[z];simp)) q;have same:s = {s with toks:=s.toks}:=by cases s;rfl
  cases m with
  |tab =>
   obtain⟨o1,o2,o3,o4⟩:=ok;have eb:=Om o4 (i:=i) (by omega);refine Ol (x:=es[i].2) (nx:=t.place.getD i 0+1) h2 h1 hd hf (λ{A' E' Q'} q=>KQ h1 hd hf o1 o2 o3 ?_) λh' hit e=>hQ es[i].2 h' s.toks ?_ ⟨other h' e a _ (by simpa using λz=>hne z.symm) h1,hit⟩ (other h' e)
   ·rw[eb,iV hi,iV (by omega)]
    have e2:t.place.getD i 0=t.place[i]'(by omega):=by simp[Array.getD,show i<t.place.size by omega]
    rw[e2]at q;exact q
   ·show(es.toList.map (·.2))[i]?=_
    rw[bC,oF,iV hi];rfl
  |text =>
   have hl:i<(pickOrder (w.params.setOrder a ep) es).size:=by
    have:=(Bq (w.params.setOrder a ep) es).length_eq;rw[eY,eY]at this;omega
   refine Ol (x:=((pickOrder (w.params.setOrder a ep) es)[i]).2) (nx:=0) h2 h1 hd hf (λ{A' E' Q'} q=>KR h1 hd hf ok ?_) λh' hit e=>hQ _ h' s.toks ?_ ⟨other h' e a _ (by simpa using λz=>hne z.symm) h1,hit⟩ (other h' e)
   ·rw[iV hl]
    exact q
   ·show((pickOrder (w.params.setOrder a ep) es).toList.map (·.2))[i]?=_
    rw[bC,oF,iV hl];rfl
  |draw T ps =>
   have hpl:ps.length=es.size:=by rw[List.Perm.length_eq ok,d4]
   have hp:ps[i]<es.size:=bD.mp (List.Perm.mem_iff ok |>.mp (gB (by omega)));refine Z3 (p:=ps[i]) (hx:=es[ps[i]].1) (x:=es[ps[i]].2) h2.1 h2.2 h1 hd hf ?_ ?_ λh' hit e=>hQ _ h' s.toks ?_ ⟨other h' e a _ (by simpa using λz=>hne z.symm) h1,hit,other h' e T _ (by simpa using hT T ps rfl) h2.2⟩ (other h' e)
   ·simp[show i<ps.length by omega]
   ·rw[iV hp]
   ·show(ps.map λp=>(es.getD p (0,Value.none)).2)[i]?=_
    rw[bC,aq (by omega)];simp[Array.getD,hp]
 done:=λs Q E st hQ=>by
  have hps:t.place.size=es.size:=by
   unfold SetTable.fits at hf;rw[bw,gH]at hf;exact hf.1
  obtain⟨h1,h2⟩:=st;have fin:∀h',(∀b o,b≠it->s.heap.get? b=some o->h'.get? b=some o)->Q none {s with heap:=h'}:=λh' k=>hQ h' s.toks λb o hb q=>k b o (λz=>hb (by rw[z];simp)) q;cases m with
  |tab =>
   obtain⟨o1,o2,o3,o4⟩:=ok;have eb:=Om o4 (i:=es.size) (by omega);refine Oj hh h2 h1 hd hf (λ{A' E' Q'} q=>KQ h1 hd hf o1 o2 o3 ?_) fin;rw[eb,wa (aH _)];exact q
  |text =>
   refine Oj hh h2 h1 hd hf (λ{A' E' Q'} q=>KR h1 hd hf ok ?_) fin;have:=(Bq (w.params.setOrder a ep) es).length_eq;rw[eY,eY]at this;rw[wa (by omega)];exact q
  |draw T ps =>
   have hpl:ps.length=es.size:=by rw[List.Perm.length_eq ok,d4]
   refine Z2 hh h2.1 h2.2 h1 hd hf ?_ fin;simp[hpl]
 self:=λi s Q E st hQ=>by
  have hit:∃f0,g9 s.heap it f0 i a es.size ep:=by
   obtain⟨_,h2⟩:=st;cases m with
   |tab=>exact⟨_,h2⟩
   |text=>exact⟨_,h2⟩
   |draw T ps=>exact⟨_,h2.1⟩
  obtain⟨f0,hit⟩:=hit;have hT:s.TypeIs (.ref it) "set_iterator" :=⟨_,hit,rfl⟩;exact Gb hT Oo (fN Oo hT SN (show wpAny _ _ (ret (.ref it)) _ _ s from ak ⟨_,rfl,"set_iterator", _,hT,il.lookup,hQ⟩) (Q6 _))
end
section
variable {prog:Program} {w:World} {A:Around} {E:Value->Shared->Prop} {s:Shared} {a:Addr} {ep:Nat} {es:Array (Int × Value)} {t:SetTable} {o:Obj} {ks:List Int}
theorem VH{Q:Value->Shared->Prop}(ho:s.heap.get? a=some o)(hx:o.ExactSet)(hd:o.data = .set es ep t)(H:fq prog w es t ks)(hz:es.size<=1000)
  (hQ:∀(m:ka) (it:Addr) (h':Heap) d',rU w m es t->xN m it a o es ep t 0 h'->it≠a->(∀T ps,m = .draw T ps->T≠it)->s.heap.objs.size<=it->(∀T ps,m = .draw T ps->s.heap.objs.size<=T)->(∀b o,s.heap.get? b=some o->h'.get? b=some o)->Q (.ref it) {s with heap:=h',drawn:=d'}) :
  wpAny (model prog w) A (pyIter (.ref a)) Q E s:=by
 have hT:s.TypeIs (.ref a) "set" :=⟨o,ho,hx.1⟩;refine Gb hT F.slot_set_iter (fN F.slot_set_iter hT SM ?_ (F.args_set_iter_1 _));unfold Builtin.«frozenset.__iter__»;have hsz:∀{s1:Shared} {f0:Value} {Q1:Fin->Shared->Prop},s1.heap.get? a=some o->(Q1 (.done (.ret (.ref s1.heap.objs.size))) {s1 with heap:=s1.heap.push {cls:=.type "set_iterator", data:=.fields #[f0,rawInt (0:Nat),.ref a,rawInt es.size,rawInt ep]}})->wpAny (model prog w) A.in1 (do let e <- setEpoch a;let v <- newFields "set_iterator" [f0,rawInt 0,.ref a,rawInt es.size,rawInt e];ret v) Q1 E s1:=λ{s1 f0 Q1} h1 q=>by
  refine ae (wpAny_setEpoch_of h1 hd H.fits (ae ?_));simp only[newFields];refine ji ?_ (by size_fits);exact ak q
 show wpAny _ _ (Builtin.Frozenset.sizeOf a>>=_) _ _ s;unfold Builtin.Frozenset.sizeOf;refine ae (ae (rT ho hd H.fits (ak ?_)));refine ae ?_;unfold setDrawn;refine ae (pq ho hd H.fits (ae (r9 (ak ?_))));show wpAny _ _ (if(!w.params.followText "set-order" && (!t.plain&&decide (es.size > 1)))=true then _ else _) _ _ s;have hlt:a<s.heap.objs.size:=aP ho;have same:s = {s with drawn:=s.drawn}:=by cases s;rfl
 have Ja:∀(f0:Value),g9 (s.heap.push {cls:=.type "set_iterator", data:=.fields #[f0,rawInt (0:Nat),.ref a,rawInt es.size,rawInt ep]}) s.heap.objs.size f0 0 a es.size ep:=λf0=>bf _ rfl
 by_cases hc:(!w.params.followText "set-order" && (!t.plain&&decide (es.size > 1)))=true
 ·rw[if_pos hc]
  have hsl:∀k,k<=1000->k<=sizeLine:=λk hk=>fL (qS hk);refine ae (Hj es.size (List.range es.size) s _ (by simp) λps d' hp=>ae (rS ?_ (by rw[ao,hp.length_eq,d4];exact hsl _ hz)));refine hsz (s1:={s with drawn:=d',heap:=s.heap.push {cls:=.type "tuple", data:=.seq (ps.map λi:Nat=>rawInt i).toArray}}) (f0:=.ref s.heap.objs.size) (aI _ ho) ?_;refine⟨_,rfl,"set_iterator", _,⟨_,bf _ rfl,rfl⟩,il.lookup,?_⟩;have e1:(s.heap.push {cls:=.type "tuple", data:=.seq (ps.map λi:Nat=>rawInt i).toArray}).objs.size=s.heap.objs.size+1:=eK ..;refine hQ (.draw s.heap.objs.size ps) _ _ d' hp ⟨aI _ (aI _ ho),bf _ rfl,aI _ (bf _ rfl)⟩ ?_ (λT ps' z=>?_) ?_ (λT ps' z=>?_) λb o' e=>aI _ (aI _ e)
  ·show(s.heap.push _).objs.size≠a
   rw[e1];exact gF (rE hlt)
  ·cases z
   show s.heap.objs.size≠(s.heap.push _).objs.size;rw[e1];exact a_ (oX _)
  ·show s.heap.objs.size<=(s.heap.push _).objs.size
   rw[e1];exact rD _
  ·cases z
   exact aH _
 ·rw[if_neg hc]
  refine ae (ak (hsz ho ?_));refine⟨_,rfl,"set_iterator", _,⟨_,bf _ rfl,rfl⟩,il.lookup,?_⟩;have keep:∀b o',s.heap.get? b=some o'->(s.heap.push {cls:=.type "set_iterator", data:=.fields #[rawInt (0:Nat),rawInt (0:Nat),.ref a,rawInt es.size,rawInt ep]}).get? b=some o':=λb o' e=>aI _ e
  by_cases hT2:w.params.followText "set-order" = true
  ·exact hQ .text _ _ s.drawn hT2 ⟨keep a o ho,Ja _⟩ (gF hlt) (λT ps z=>nomatch z) (aH _) (λT ps z=>nomatch z) keep
  ·have hT2:w.params.followText "set-order" = false:=by simpa using hT2
   rw[hT2]at hc;have hc:(!t.plain&&decide (es.size > 1))=false:=by simpa using hc
   have hps:t.place.size=es.size:=by
    have:=H.fits;unfold SetTable.fits at this;rw[bw,gH]at this;exact this.1
   have hr:fP t.place:=by
    cases hp:t.plain with
    |true=>exact H.tab.rise hp
    |false =>
     rw[hp]at hc;have:¬ es.size > 1:=by simpa using hc
     intro i j hij hj;omega
   exact hQ .tab _ _ s.drawn ⟨hT2,hc,by rw[H.led,hT2];rfl,hr⟩ ⟨keep a o ho,Ja _⟩ (gF hlt) (λT ps z=>nomatch z) (aH _) (λT ps z=>nomatch z) keep
theorem Uz{Q:Bool->Shared->Prop}(ho:s.heap.get? a=some o)(hx:o.ExactSet)(h:Q false s):wpAny (model prog w) A (Builtin.List.listLengthHint (.ref a)) Q E s:=by
 have hT:s.TypeIs (.ref a) "set" :=⟨o,ho,hx.1⟩;unfold Builtin.List.listLengthHint;refine ae (Gd hT F.slot_set_len.lookup ?_);generalize hid:("set.__len__" : String)=id0
 wp_delta
 rw[show splitId id0=some ("set","__len__")from by subst hid;decide +kernel];subst hid;refine ae (rR (T:= "set") (b:=true) hT sub_set_self ?_);refine Ga (λhq=>absurd hq (by decide)) (λ_=>Ga (λ_=>?_) (λhq=>absurd (by decide +kernel) hq));exact ae (wpAny_typeOf hT (ak h))
theorem Jz:∀vs:List Value,(∀v∈vs,∃k t,v = .int k t)->IntsAre vs (vs.map uo)
 | [],_=>.nil
 |v::vs,h=>by
  obtain⟨k,t,rfl⟩:=h v bx;exact .cons k t (Jz vs λv hv=>h v (bu _ hv))
theorem RW{R:List Value->Shared->Prop}(hh:A.handled=none)(hG:dZ prog w s.heap a ks)(hz:ks.length<=1000)
  (h:∀vs ns h' d' tk,IntsAre vs ns->ns.Perm ks->(∀b o,s.heap.get? b=some o->h'.get? b=some o)->s.toks<=tk->R vs {s with heap:=h',drawn:=d',toks:=tk}):wpAny (model prog w) A (collect (.ref a)) R E s:=by
 obtain⟨o,es,ep,t,ho,hx,hd,H⟩:=hG;have hT:s.TypeIs (.ref a) "set" :=⟨o,ho,hx.1⟩;have hes:es.size<=1000:=by rw[H.size];exact hz
 have hlt:a<s.heap.objs.size:=aP ho;unfold collect;refine ae (xI (jd Fz ?_));show wpAny _ _ (newList []>>=λl=>again (.builtin "list.__iadd__" ⟨[l,.ref a],[]⟩)) _ _ s;have old:∀b o',s.heap.get? b=some o'->(s.heap.push (seqObj "list" #[] 0)).get? b=some o':=λb o' e=>aI _ e;have gL:(s.heap.push (seqObj "list" #[] 0)).get? s.heap.objs.size=some (seqObj "list" #[] 0):=bf _ rfl;have k8:(s.heap.push (seqObj "list" #[] 0)).objs.size=s.heap.objs.size+1:=eK ..;have haL:s.heap.objs.size≠a:=gF hlt;have add:codeAny (model prog w) A (.builtin "list.__iadd__" ⟨[.ref s.heap.objs.size,.ref a],[]⟩) (λr s'=>r = .ok (.ret (.ref s.heap.objs.size))/\∃h' d' tk acc c' ns,s' = {s with heap:=h',drawn:=d',toks:=tk}/\(∀b o,s.heap.get? b=some o->h'.get? b=some o) /\
   h'.get? s.heap.objs.size=some {cls:=.type "list", dict:=none,data:=.seq acc c',slots:=#[]}/\IntsAre acc.toList ns/\ns.Perm ks/\s.toks<=tk) {s with heap:=s.heap.push (seqObj "list" #[] 0)}:=by
  refine jd entry_list_iadd' ?_;show wpAny _ A.in1 (Builtin.List.listExtendWith (.ref s.heap.objs.size) (.ref a) (.ref s.heap.objs.size)) _ _ _;unfold Builtin.List.listExtendWith;refine ae (wpAny_typeOf (T:= "set") ⟨o,old a o ho,hx.1⟩ ?_);have q1:Builtin.List.listSameRef (.ref s.heap.objs.size) (.ref a)=false:=by simp[Builtin.List.listSameRef,haL]
  have q2:(Value.type "set" == Value.type "list")=false:=by decide
  have q3:(Value.type "set" == Value.type "tuple")=false:=by decide
  simp only[q1,q2,q3,Bool.or_false,e9,dQ];refine ae (VH (s:={s with heap:=s.heap.push (seqObj "list" #[] 0)}) (old a o ho) hx hd H hes λm it h1 d1 ok st UG hTi hge IV k1=>?_);refine ae (fk (Uz (s:={s with heap:=h1,drawn:=d1}) (k1 a o (old a o ho)) hx ?_));have hge:s.heap.objs.size+1<=it:=by rw[<- k8];exact hge
  have hLi:s.heap.objs.size≠it:=a_ hge;have hLf:s.heap.objs.size ∉ f6 m it a:=by
   cases m with
   |tab=>simp[f6,hLi,haL]
   |text=>simp[f6,hLi,haL]
   |draw T ps =>
    have:s.heap.objs.size+1<=T:=by rw[<- k8];exact IV T ps rfl
    have:s.heap.objs.size≠T:=a_ this;simp[f6,hLi,haL,this]
  have W:=(ZZ (prog:=prog) (A:=A.in1) (by first|exact hh | (show A.handled=none;exact hh)) hd H.fits ok UG hTi).toS;have key:∀(h2:Heap) (c:Nat),xN m it a o es ep t 0 h2->(∀b o,s.heap.get? b=some o->h2.get? b=some o)->h2.get? s.heap.objs.size=some {cls:=.type "list", data:=.seq #[] c} ->
    codeAny (model prog w) A (.builtin "list.extend.loop" ⟨[.ref s.heap.objs.size,.ref it,.ref s.heap.objs.size],[]⟩) (λr s'=>r = .ok (.ret (.ref s.heap.objs.size))/\∃h' d' tk acc c' ns,s' = {s with heap:=h',drawn:=d',toks:=tk}/\(∀b o,s.heap.get? b=some o->h'.get? b=some o) /\
     h'.get? s.heap.objs.size=some {cls:=.type "list", dict:=none,data:=.seq acc c',slots:=#[]}/\IntsAre acc.toList ns/\ns.Perm ks/\s.toks<=tk) {s with heap:=h2,drawn:=d1}:=λh2 c st2 k2 g2=>by
   refine codeAny_extend_loopS W (fL (qS hes)) s.heap.objs.size hLf (.ref s.heap.objs.size) es.size 0 _ #[] c rfl (bM _) st2 g2 (ItemsOf.nil _) λs' acc c' hm gS hacc=>?_;obtain⟨h',g',d',tk',os'⟩:=s';have eg:g'=s.gens:=hm.gens;have eo:os'=s.os:=hm.os;subst eg eo;have Hu:acc.toList=rV w m a es ep:=by
    apply List.ext_getElem?
    intro j;rw[oF]
    by_cases hj:j<acc.size
    ·have:=hacc.2 j acc[j] (iV hj)
     rw[this,iV hj]
    ·have hl:=aal (a:=a) (ep:=ep) ok
     have h0:=hacc.1;rw[wa (by omega),wG (by omega)]
   have hp:=O6 (a:=a) (ep:=ep) ok;refine⟨rfl,h',d',tk',acc,c',acc.toList.map uo,rfl,λb o' e=>?_,gS,Jz _ λv hv=>?_,?_,hm.toks⟩
   ·have hb:=aP e
    refine hm.heap b o' (λz=>?_) (k2 b o' e)
    rcases aY.mp z with z|z
    ·exact absurd z (a_ hb)
    ·exact absurd (gT.mp z) (a_ (dD (rE hb) hge))
   ·rw[Hu]at hv
    obtain⟨e,he,rfl⟩:=b9.mp (hp.mem_iff.mp hv);exact Hv H.el he
   ·rw[Hu]
    refine(hp.map uo).trans ?_;rw[bZ];exact H.perm
  have k1':∀b o',s.heap.get? b=some o'->h1.get? b=some o':=λb o' e=>k1 b o' (old b o' e);have g1:h1.get? s.heap.objs.size=some {cls:=.type "list", data:=.seq #[] 0}:=k1 _ _ gL;refine Ga (λ_=>?_) (λ_=>ak ⟨xD F.plain_extend_loop _,key h1 0 st k1' g1⟩);refine ae (jk (ae ?_));show wpAny _ _ (updateSeq s.heap.objs.size (·.push .none)>>=λ_=>updateSeq s.heap.objs.size (·.pop)) _ _ _;refine ae (wpAny_updateSeq g1 rfl ?_);have g2:=pe (Obj.mapSeq (·.push Value.none)) g1 rfl;refine wpAny_updateSeq (hz:=by seq_fits) g2 rfl ?_;have g3:=pe (Obj.mapSeq (·.pop)) g2 rfl;have oth:∀b o',b≠s.heap.objs.size->h1.get? b=some o'->((h1.update s.heap.objs.size (Obj.mapSeq (·.push Value.none))).update s.heap.objs.size (Obj.mapSeq (·.pop))).get? b=some o':=λb o' hb e=>(xr _ _ (b_ hb)).trans ((xr _ _ (b_ hb)).trans e);refine ak ⟨xD F.plain_extend_loop _,key _ _ ?_ (λb o' e=>oth b o' (a_ (aP e)) (k1' b o' e)) g3⟩;obtain⟨st1,st2⟩:=st;cases m with
  |tab=>exact⟨oth _ _ (b_ haL) st1,oth _ _ (b_ hLi) st2⟩
  |text=>exact⟨oth _ _ (b_ haL) st1,oth _ _ (b_ hLi) st2⟩
  |draw T ps =>
   have p4:s.heap.objs.size+1<=T:=by rw[<- k8];exact IV T ps rfl
   exact⟨oth _ _ (b_ haL) st1,oth _ _ (b_ hLi) st2.1,oth _ _ (gF p4) st2.2⟩
 refine ae (jh (ak ⟨xk _ (by decide +kernel),fM add λr s' hr=>?_⟩));obtain⟨rfl,h',d',tk,acc,c',ns,rfl,hk,hS,hi,hp,htk⟩:=hr;show wpAny _ A (load s.heap.objs.size>>=λo=>match o.data with | .seq xs _=>pure xs.toList|_=>unsupported "internal:collect") _ _ _;refine ae (wpAny_load hS ?_);exact ak (h _ ns h' d' tk hi hp hk htk)
end
section
open PySem.SeqAt
open PySem.AutoSeq1 (wpAny_loadPart')
open PySem.MeetsSeq PySem.MeetsSeq2 PySem.MeetsSeq3
end
section
variable {prog:Program} {w:World} {A:Around} {E:Value->Shared->Prop} {s:Shared}
variable {a₀:Array Keyed}
end
section
variable {X:Cx}
end
noncomputable def TJ:Bool->Keyed->Array Keyed->Nat->Nat->Nat->StateT SortSt Sem (Option Nat):=sortPriv% PySem.Builtin.gallop
noncomputable def WT:Array Keyed->Array Keyed->StateT SortSt Sem (Array Keyed):=sortPriv% PySem.Builtin.mergeLo
noncomputable def WR:Array Keyed->Array Keyed->StateT SortSt Sem (Array Keyed):=sortPriv% PySem.Builtin.mergeHi
section
variable {prog:Program} {w:World} {A:Around} {E:Value->Shared->Prop} {s:Shared} {κ:SortKind} {g:Keyed->Prop} {N:Nat} {pd:Array (Nat × Nat × Nat)}
structure Safe (κ:SortKind) (g:Keyed->Prop) (N:Nat) (pd:Array (Nat × Nat × Nat)) (st:SortSt):Prop where
 kind:kindOf st=κ
 failed:failedOf st=none
 size:(arrOf st).size=N
 all:∀p∈arrOf st,g p
 pend:pendingOf st=pd
noncomputable def iB(prog:Program)(w:World)(A:Around)(s:Shared)(κ:SortKind)(g:Keyed->Prop):Prop:=∀x y,g x->g y->∃b:Bool,∀{E:Value->Shared->Prop} (Q:Bool->Shared->Prop),Q b s->wpAny (model prog w) A (keyLt' κ x.1 y.1) Q E s
theorem lV{x y:Keyed}{st:SortSt}{Q:Option Bool->SortSt->Prop}(ok:iB prog w A s κ g)(S:Safe κ g N pd st)(gx:g x)(gy:g y)(h:∀b,Q (some b) st):wpS (model prog w) A E s ((sortPriv% PySem.Builtin.lt) x y) Q st:=by
 show wpS _ _ _ _ (lt' x y) _ _;obtain⟨b,hb⟩:=ok x y gx gy;rw[lt'_eq];refine av (gX ?_);rw[S.kind];refine av (wpS_lift (jf (hb _ ⟨rfl,?_⟩)));exact aK (h b)
theorem eX{arr:Array Keyed}{i:Nat}{st:SortSt}{Q:Keyed->SortSt->Prop}(ga:∀p∈arr,g p)(hi:i<arr.size)(h:∀p,g p->Q p st):wpS (model prog w) A E s ((sortPriv% PySem.Builtin.elem) arr i) Q st:=by
 show wpS _ _ _ _ (elem' arr i) _ _;rw[elem'_eq,tL arr i hi];exact aK (h _ (ga _ (wc hi)))
theorem iq{i j:Nat}{st:SortSt}{Q:Option Bool->SortSt->Prop}(ok:iB prog w A s κ g)(S:Safe κ g N pd st)(hi:i<N)(hj:j<N)(h:∀b,Q (some b) st):wpS (model prog w) A E s (ltAt' i j) Q st:=by
 rw[ltAt'_eq];refine av (gX ?_);show wpS _ _ _ _ (do let x <- elem' (arrOf st) i;let y <- elem' (arrOf st) j;lt' x y) Q st;exact av (eX S.all (by rw[S.size];exact hi) λx gx=>av (eX S.all (by rw[S.size];exact hj) λy gy=>lV ok S gx gy h))
theorem Safe.arr{st:SortSt}{xs:Array Keyed}(S:Safe κ g N pd st)(h:xs.Perm (arrOf st)):Safe κ g N pd (setArr st xs):=
 ⟨S.kind,S.failed,h.size_eq.trans S.size,λp hp=>S.all p (h.mem_iff.mp hp),S.pend⟩
theorem jV{i j:Nat}{st:SortSt}{Q:Unit->SortSt->Prop}(S:Safe κ g N pd st)(h:∀st',Safe κ g N pd st'->Q () st'):wpS (model prog w) A E s (reverseSlice' i j) Q st:=by
 rw[reverseSlice'_eq];exact jb (h _ (S.arr (mirror_perm _ _ _ _)))
theorem aa6{i j:Nat}{st:SortSt}{Q:Unit->SortSt->Prop}(S:Safe κ g N pd st)(h:∀st',Safe κ g N pd st'->Q () st'):wpS (model prog w) A E s (moveDown' i j) Q st:=by
 rw[moveDown'_eq];exact jb (h _ (S.arr (bubble_perm _ _ _)))
theorem lW{r:String}{st:SortSt}{Q:Unit->SortSt->Prop}(h:Q () st):wpS (model prog w) A E s (liftM (rule r):StateT SortSt Sem Unit) Q st:=wpS_lift (jk ⟨rfl,h⟩)
theorem iU{left:Bool}{key:Keyed}{arr:Array Keyed}{base n hint:Nat}{st:SortSt}{Q:Option Nat->SortSt->Prop}(ok:iB prog w A s κ g)(S:Safe κ g N pd st)(gk:g key)(ga:∀p∈arr,g p)(h1:hint<n)(h2:base+n<=arr.size)(h:∀k,k<=n->Q (some k) st):wpS (model prog w) A E s ((sortPriv% PySem.Builtin.gallop) left key arr base n hint) Q st:=by
 show wpS _ _ _ _ (TJ left key arr base n hint) _ _;have B:∀i (Q:Option Bool->SortSt->Prop),i<n->(∀b,Q (some b) st)->wpS (model prog w) A E s (do
   let x <- elem' arr (base+i)
   if left=true then lt' x key
   else do
    let y <- lt' key x
    pure (Option.map (λx=>!x) y)) Q st:=by
  intro i Q hi hq;refine av (eX ga (by omega) λx gx=>?_);cases left
  ·simp only[e9,dQ]
   exact av (lV ok S gk gx λb=>aK (hq _))
  ·simp only[jJ]
   exact lV ok S gx gk hq
 refine av (B _ _ h1 λright=>?_);dsimp only
 split
 ·refine av (c5 (cZ (I:=λ_ c st'=>st=st'/\∃l r,c=(none,l,r)) (Q:=λc st'=>st=st'/\∃l r,c=(none,l,r)) ?_ (λ_ _ z=>z) ⟨rfl,0,1,rfl⟩) ?_)
  ·rintro i c st' _ _ ⟨rfl,l,r,rfl⟩
   dsimp only
   split
   ·exact aK ⟨rfl,l,r,rfl⟩
   ·refine av (B _ _ (by omega) λb=>?_)
    dsimp only
    split
    ·exact aK ⟨rfl,_,_,rfl⟩
    ·exact aK ⟨rfl,_,_,rfl⟩
  ·rintro c st' ⟨rfl,l,r,rfl⟩
   try dsimp only
   refine av (c5 (cZ (I:=λ_ c st'=>st=st'/\∃l r,c=(none,l,r)/\r<=n) (Q:=λc st'=>st=st'/\∃l r,c=(none,l,r)/\r<=n) ?_ (λ_ _ z=>z) ⟨rfl,_,_,rfl,by omega⟩) ?_)
   ·rintro i c st' _ _ ⟨rfl,l,r,rfl,hr⟩
    dsimp only
    split
    ·exact aK ⟨rfl,l,r,rfl,hr⟩
    ·refine av (B _ _ (by omega) λb=>?_)
     dsimp only
     split
     ·exact aK ⟨rfl,_,_,rfl,hr⟩
     ·exact aK ⟨rfl,_,_,rfl,by omega⟩
   ·rintro c st' ⟨rfl,l,r,rfl,hr⟩
    exact aK (h r hr)
 ·refine av (c5 (cZ (I:=λ_ c st'=>st=st'/\∃l r,c=(none,l,r)) (Q:=λc st'=>st=st'/\∃l r,c=(none,l,r)) ?_ (λ_ _ z=>z) ⟨rfl,0,1,rfl⟩) ?_)
  ·rintro i c st' _ _ ⟨rfl,l,r,rfl⟩
   dsimp only
   split
   ·exact aK ⟨rfl,l,r,rfl⟩
   ·refine av (B _ _ (by omega) λb=>?_)
    dsimp only
    split
    ·exact aK ⟨rfl,_,_,rfl⟩
    ·exact aK ⟨rfl,_,_,rfl⟩
  ·rintro c st' ⟨rfl,l,r,rfl⟩
   try dsimp only
   refine av (c5 (cZ (I:=λ_ c st'=>st=st'/\∃l r,c=(none,l,r)/\r<=n) (Q:=λc st'=>st=st'/\∃l r,c=(none,l,r)/\r<=n) ?_ (λ_ _ z=>z) ⟨rfl,_,_,rfl,by omega⟩) ?_)
   ·rintro i c st' _ _ ⟨rfl,l,r,rfl,hr⟩
    dsimp only
    split
    ·exact aK ⟨rfl,l,r,rfl,hr⟩
    ·refine av (B _ _ (by omega) λb=>?_)
     dsimp only
     split
     ·exact aK ⟨rfl,_,_,rfl,hr⟩
     ·exact aK ⟨rfl,_,_,rfl,by omega⟩
   ·rintro c st' ⟨rfl,l,r,rfl,hr⟩
    exact aK (h r hr)
theorem aa3{lo nrem:Nat}{st:SortSt}{Q:Option Nat->SortSt->Prop}(ok:iB prog w A s κ g)(S:Safe κ g N pd st)(h1:1<=nrem)(h2:lo+nrem<=N)(h:∀k st',1<=k->k<=nrem->Safe κ g N pd st'->Q (some k) st'):wpS (model prog w) A E s (countRun' lo nrem) Q st:=by
 try dsimp only
 refine av (c5 (cZ (I:=λi c st'=>Safe κ g N pd st'/\∃m,c=(none,m)/\1<=m/\m<=i/\m<=nrem) (Q:=λc st'=>Safe κ g N pd st'/\∃m,c=(none,m)/\1<=m/\m<=nrem) ?_ (λ_ _ ⟨z,m,e,z1,_,z2⟩=>⟨z,m,e,z1,z2⟩) ⟨by assumption,_,rfl,by omega,by omega,by omega⟩) ?_)
 ·rintro i c st' _ hi ⟨S',m,rfl,z1,z2,z3⟩
  dsimp only;refine av (iq ok S' (by omega) (by omega) λb=>?_);dsimp only
  split
  ·exact aK ⟨S',_,rfl,z1,z3⟩
  ·exact aK ⟨S',_,rfl,by omega,by omega,by omega⟩
 rintro c st2 ⟨S2,m,rfl,z1,z2⟩;clear S;dsimp only
 split
 ·exact aK (h _ _ z1 z2 S2)
 ·rename_i hne
  have hne':m≠nrem:=λe=>hne (by simp[e])
  split
  ·refine av (iq ok S2 (by omega) (by omega) λb=>?_)
   dsimp only
   split
   ·exact aK (h _ _ z1 z2 S2)
   ·refine av (jV S2 λst3 S3=>?_)
    clear S2
    try dsimp only
    refine av (lW ?_);refine av (c5 (cZ (I:=λi c st'=>Safe κ g N pd st'/\∃m q,c=(none,m,q)/\1<=m/\m<=i/\m<=nrem) (Q:=λc st'=>Safe κ g N pd st'/\∃m q,c=(none,m,q)/\1<=m/\m<=nrem) ?_ (λ_ _ ⟨z,m,q,e,z1,_,z2⟩=>⟨z,m,q,e,z1,z2⟩) ⟨by assumption,_,_,rfl,by omega,by omega,by omega⟩) ?_)
    ·rintro i c st' _ hi ⟨S',m,q,rfl,z1,z2,z3⟩
     dsimp only;refine av (iq ok S' (by omega) (by omega) λb=>?_);dsimp only
     split
     ·split
      ·exact av (jV S' λqU S8=>aK ⟨S8,_,_,rfl,by omega,by omega,by omega⟩)
      ·exact aK ⟨S',_,_,rfl,by omega,by omega,by omega⟩
     ·refine av (iq ok S' (by omega) (by omega) λb2=>?_)
      dsimp only
      split
      ·exact aK ⟨S',_,_,rfl,by omega,by omega⟩
      ·exact aK ⟨S',_,_,rfl,by omega,by omega,by omega⟩
    ·rintro c st7 ⟨S7,m7,q7,rfl,x1,x2⟩
     dsimp only
     split
     ·refine av (jV S7 λst6 S6=>?_)
      clear S7
      try dsimp only
      refine av (jV (by assumption) λqU S8=>?_)
      try dsimp only
      refine av (c5 (cZ (I:=λi c st'=>Safe κ g N pd st'/\∃m,c=(none,m)/\1<=m/\m<=i/\m<=nrem) (Q:=λc st'=>Safe κ g N pd st'/\∃m,c=(none,m)/\1<=m/\m<=nrem) ?_ (λ_ _ ⟨z,m,e,z1,_,z2⟩=>⟨z,m,e,z1,z2⟩) ⟨by assumption,_,rfl,by omega,by omega,by omega⟩) ?_)
      ·rintro i c st' _ hi ⟨S',m,rfl,z1,z2,z3⟩
       dsimp only;refine av (iq ok S' (by omega) (by omega) λb=>?_);dsimp only
       split
       ·exact aK ⟨S',_,rfl,z1,z3⟩
       ·exact aK ⟨S',_,rfl,by omega,by omega,by omega⟩
      rintro c Dj ⟨S9,m9,rfl,y1,y2⟩;exact aK (h _ _ y1 y2 S9)
     ·try dsimp only
      refine av (jV (by assumption) λqU S8=>?_)
      try dsimp only
      refine av (c5 (cZ (I:=λi c st'=>Safe κ g N pd st'/\∃m,c=(none,m)/\1<=m/\m<=i/\m<=nrem) (Q:=λc st'=>Safe κ g N pd st'/\∃m,c=(none,m)/\1<=m/\m<=nrem) ?_ (λ_ _ ⟨z,m,e,z1,_,z2⟩=>⟨z,m,e,z1,z2⟩) ⟨by assumption,_,rfl,by omega,by omega,by omega⟩) ?_)
      ·rintro i c st' _ hi ⟨S',m,rfl,z1,z2,z3⟩
       dsimp only;refine av (iq ok S' (by omega) (by omega) λb=>?_);dsimp only
       split
       ·exact aK ⟨S',_,rfl,z1,z3⟩
       ·exact aK ⟨S',_,rfl,by omega,by omega,by omega⟩
      rintro c Dj ⟨S9,m9,rfl,y1,y2⟩;exact aK (h _ _ y1 y2 S9)
  ·try dsimp only
   refine av (lW ?_);refine av (c5 (cZ (I:=λi c st'=>Safe κ g N pd st'/\∃m q,c=(none,m,q)/\1<=m/\m<=i/\m<=nrem) (Q:=λc st'=>Safe κ g N pd st'/\∃m q,c=(none,m,q)/\1<=m/\m<=nrem) ?_ (λ_ _ ⟨z,m,q,e,z1,_,z2⟩=>⟨z,m,q,e,z1,z2⟩) ⟨by assumption,_,_,rfl,by omega,by omega,by omega⟩) ?_)
   ·rintro i c st' _ hi ⟨S',m,q,rfl,z1,z2,z3⟩
    dsimp only;refine av (iq ok S' (by omega) (by omega) λb=>?_);dsimp only
    split
    ·split
     ·exact av (jV S' λqU S8=>aK ⟨S8,_,_,rfl,by omega,by omega,by omega⟩)
     ·exact aK ⟨S',_,_,rfl,by omega,by omega,by omega⟩
    ·refine av (iq ok S' (by omega) (by omega) λb2=>?_)
     dsimp only
     split
     ·exact aK ⟨S',_,_,rfl,by omega,by omega⟩
     ·exact aK ⟨S',_,_,rfl,by omega,by omega,by omega⟩
   ·rintro c st7 ⟨S7,m7,q7,rfl,x1,x2⟩
    dsimp only
    split
    ·refine av (jV S7 λst6 S6=>?_)
     clear S7
     try dsimp only
     refine av (jV (by assumption) λqU S8=>?_)
     try dsimp only
     refine av (c5 (cZ (I:=λi c st'=>Safe κ g N pd st'/\∃m,c=(none,m)/\1<=m/\m<=i/\m<=nrem) (Q:=λc st'=>Safe κ g N pd st'/\∃m,c=(none,m)/\1<=m/\m<=nrem) ?_ (λ_ _ ⟨z,m,e,z1,_,z2⟩=>⟨z,m,e,z1,z2⟩) ⟨by assumption,_,rfl,by omega,by omega,by omega⟩) ?_)
     ·rintro i c st' _ hi ⟨S',m,rfl,z1,z2,z3⟩
      dsimp only;refine av (iq ok S' (by omega) (by omega) λb=>?_);dsimp only
      split
      ·exact aK ⟨S',_,rfl,z1,z3⟩
      ·exact aK ⟨S',_,rfl,by omega,by omega,by omega⟩
     rintro c Dj ⟨S9,m9,rfl,y1,y2⟩;exact aK (h _ _ y1 y2 S9)
    ·try dsimp only
     refine av (jV (by assumption) λqU S8=>?_)
     try dsimp only
     refine av (c5 (cZ (I:=λi c st'=>Safe κ g N pd st'/\∃m,c=(none,m)/\1<=m/\m<=i/\m<=nrem) (Q:=λc st'=>Safe κ g N pd st'/\∃m,c=(none,m)/\1<=m/\m<=nrem) ?_ (λ_ _ ⟨z,m,e,z1,_,z2⟩=>⟨z,m,e,z1,z2⟩) ⟨by assumption,_,rfl,by omega,by omega,by omega⟩) ?_)
     ·rintro i c st' _ hi ⟨S',m,rfl,z1,z2,z3⟩
      dsimp only;refine av (iq ok S' (by omega) (by omega) λb=>?_);dsimp only
      split
      ·exact aK ⟨S',_,rfl,z1,z3⟩
      ·exact aK ⟨S',_,rfl,by omega,by omega,by omega⟩
     rintro c Dj ⟨S9,m9,rfl,y1,y2⟩;exact aK (h _ _ y1 y2 S9)
theorem aa2{lo n k:Nat}{st:SortSt}{Q:Bool->SortSt->Prop}(ok:iB prog w A s κ g)(S:Safe κ g N pd st)(h2:lo+n<=N)(h:∀st',Safe κ g N pd st'->Q true st'):wpS (model prog w) A E s (binarySort' lo n k) Q st:=by
 refine av (c5 (cZ (I:=λ_ c st'=>Safe κ g N pd st'/\c=(none,())) (Q:=λc st'=>Safe κ g N pd st'/\c=(none,())) ?_ (λ_ _ z=>z) ⟨S,rfl⟩) ?_)
 ·rintro i c st' _ hi ⟨S',rfl⟩
  refine av (c5 (cZ (I:=λ_ c st'=>Safe κ g N pd st'/\∃l r,c=(none,l,r)/\r<=i) (Q:=λc st'=>Safe κ g N pd st'/\∃l r,c=(none,l,r)/\r<=i) ?_ (λ_ _ z=>z) ⟨S',_,_,rfl,aH _⟩) ?_)
  ·rintro i2 c st' _ _ ⟨S',l,r,rfl,hr⟩
   dsimp only
   split
   ·exact aK ⟨S',l,r,rfl,hr⟩
   ·refine av (iq ok S' (by omega) (by omega) λb=>?_)
    dsimp only
    split
    ·exact aK ⟨S',_,_,rfl,by omega⟩
    ·exact aK ⟨S',_,_,rfl,hr⟩
  ·rintro c st2 ⟨S2,l,r,rfl,hr⟩
   exact av (aa6 S2 λst3 S3=>aK ⟨S3,rfl⟩)
 ·rintro c st' ⟨S',rfl⟩
  exact aK (h _ S')
theorem eG{M:Model}{σ α:Type}{c:Prop}[Decidable c]{x y:StateT σ Sem α}{Q:α->σ->Prop}{st:σ}(h1:c->wpS M A E s x Q st)(h2:¬c->wpS M A E s y Q st):wpS M A E s (if c then x else y) Q st:=by
 by_cases h:c
 ·rw[if_pos h];exact h1 h
 ·rw[if_neg h];exact h2 h
theorem gP{M:Model}{σ α:Type}{i j:Nat}{x y:StateT σ Sem α}{Q:α->σ->Prop}{st:σ}(h1:i=j->wpS M A E s x Q st)(h2:i≠j->wpS M A E s y Q st):wpS M A E s (if(i==j)=true then x else y) Q st:=
 eG (λe=>h1 (by simpa using e)) λe=>h2 (by simpa using e)
noncomputable def GA(g:Keyed->Prop)(xs:Array Keyed):Prop:=∀p∈xs,g p
theorem GA.app{xs ys:Array Keyed}(h1:GA g xs)(h2:GA g ys):GA g (xs++ys):=λp hp=>(Array.mem_append.mp hp).elim (h1 p) (h2 p)
theorem GA.dR{xs:Array Keyed}{x:Keyed}(h1:GA g xs)(h2:g x):GA g (xs.push x):=λp hp=>(Array.mem_push.mp hp).elim (h1 p) λe=>e▸h2
theorem GA.ext{xs:Array Keyed}{i j:Nat}(h1:GA g xs):GA g (xs.extract i j):=λp hp=>h1 p (by
 obtain⟨k,hk,e⟩:=Qc.mp hp;rw[Array.getElem_extract]at e;exact e▸wc _)
theorem GA.rev{xs:Array Keyed}(h1:GA g xs):GA g xs.reverse:=λp hp=>h1 p (Array.mem_reverse.mp hp)
theorem GA.one{x:Keyed}(h:g x):GA g #[x]:=λp hp=>by
 rw[Array.mem_singleton]at hp;exact hp▸h
noncomputable def ZT:Nat->StateT SortSt Sem Unit:=sortPriv% PySem.Builtin.setMinGallop
theorem oE{k:Nat}{st:SortSt}{Q:Unit->SortSt->Prop}(S:Safe κ g N pd st)(h:∀st',Safe κ g N pd st'->Q () st'):wpS (model prog w) A E s ((sortPriv% PySem.Builtin.setMinGallop) k) Q st:=by
 show wpS _ _ _ _ (ZT k) _ _;exact jb (h _ ⟨S.kind,S.failed,S.size,S.all,S.pend⟩)
theorem aa5{a b:Array Keyed}{st:SortSt}{Q:Array Keyed->SortSt->Prop}(ok:iB prog w A s κ g)(S:Safe κ g N pd st)(ga:∀p∈a,g p)(gb:∀p∈b,g p)(h1:1<=a.size)(h2:1<=b.size)(h:∀out st',GA g out->Safe κ g N pd st'->Q out st'):wpS (model prog w) A E s (WT a b) Q st:=by
 have dF:GA g a:=ga;have dG:GA g b:=gb;refine av (lW ?_);refine av (eX gb (by omega) λp gp=>?_);dsimp only;refine gP (λq1=>?_) (λq1=>?_)
 ·exact aK (h _ _ (by(with_reducible repeat (first|assumption|exact GA.ext dF|exact GA.ext dG|exact GA.one (by assumption)|refine GA.app ?_ ?_|refine GA.dR ?_ ?_|refine GA.rev ?_))) S)
 ·refine gP (λq2=>?_) (λq2=>?_)
  ·exact aK (h _ _ (by(with_reducible repeat (first|assumption|exact GA.ext dF|exact GA.ext dG|exact GA.one (by assumption)|refine GA.app ?_ ?_|refine GA.dR ?_ ?_|refine GA.rev ?_))) S)
  ·refine av (gX ?_)
   refine av (c5 (cZ (I:=λi c st'=>Safe κ g N pd st'/\∃out ia ib r,c=(none,out,ia,ib,r)/\GA g out/\ia+1<a.size/\ib<b.size/\i+1<=ia+ib)
    (Q:=λc st'=>Safe κ g N pd st'/\∃r x,c=(some r,x)/\GA g r) ?_ ?_ ⟨S,_,_,_,_,rfl,by(with_reducible repeat (first|assumption|exact GA.ext dF|exact GA.ext dG|exact GA.one (by assumption)|refine GA.app ?_ ?_|refine GA.dR ?_ ?_|refine GA.rev ?_)),by omega,by omega,by omega⟩) ?_)
   ·rintro i c st1 _ hi ⟨S1,out,ia,ib,mg,rfl,go,z1,z2,z3⟩
    dsimp only;refine av (c5 (cZ (I:=λi c st'=>Safe κ g N pd st'/\∃out eP eQ r,c=(none,out,eP,eQ,r)/\GA g out/\eP+1<a.size/\eQ<b.size/\ia+ib+min i 1<=eP+eQ)
     (Q:=λc st'=>Safe κ g N pd st'/\((∃r x,c=(some r,x)/\GA g r)\/∃out eP eQ r,c=(none,out,eP,eQ,r)/\GA g out/\eP+1<a.size/\eQ<b.size/\ia+ib+1<=eP+eQ)) ?_ ?_ ⟨S1,_,_,_,_,rfl,go,z1,z2,by omega⟩) ?_)
    ·rintro i2 c st2 _ hi2 ⟨S2,jP,tW,tX,⟨ac,bc⟩,rfl,go2,y1,y2,y3⟩
     dsimp only
     repeat' (first
      |with_reducible refine gP (λ_=>?_) (λ_=>?_)
      |with_reducible refine eG (λ_=>?_) (λ_=>?_)
      |with_reducible refine av (eX ga (by omega) λ_ _=>?_)
      |with_reducible refine av (eX gb (by omega) λ_ _=>?_)
      |with_reducible refine av (lV ok (by assumption) (by assumption) (by assumption) λ_=>?_)
      |with_reducible refine av (oE (by assumption) λ_ _=>?_)
      |with_reducible refine av (iU ok (by assumption) (by assumption) ga (by omega) (by omega) λ_ _=>?_)
      |with_reducible refine av (iU ok (by assumption) (by assumption) gb (by omega) (by omega) λ_ _=>?_)
      |dsimp only
      | (refine aK ⟨by assumption,?_⟩;first
        |exact .inl ⟨_,_,rfl,by(with_reducible repeat (first|assumption|exact GA.ext dF|exact GA.ext dG|exact GA.one (by assumption)|refine GA.app ?_ ?_|refine GA.dR ?_ ?_|refine GA.rev ?_))⟩
        |exact .inr ⟨_,_,_,_,rfl,by(with_reducible repeat (first|assumption|exact GA.ext dF|exact GA.ext dG|exact GA.one (by assumption)|refine GA.app ?_ ?_|refine GA.dR ?_ ?_|refine GA.rev ?_)),by omega,by omega,by omega⟩
        |exact⟨_,_,_,_,rfl,by(with_reducible repeat (first|assumption|exact GA.ext dF|exact GA.ext dG|exact GA.one (by assumption)|refine GA.app ?_ ?_|refine GA.dR ?_ ?_|refine GA.rev ?_)),by omega,by omega,by omega⟩))
    ·rintro c st2 ⟨S2,jP,tW,tX,r,rfl,go2,y1,y2,y3⟩
     exact⟨S2,.inr ⟨_,_,_,_,rfl,go2,y1,y2,by omega⟩⟩
    ·rintro c st2 ⟨S2,⟨r,x,rfl,gr⟩|⟨jP,tW,tX,⟨ac,bc⟩,rfl,go2,y1,y2,y3⟩⟩
     ·exact aK ⟨S2,_,_,rfl,gr⟩
     ·dsimp only
      refine av (lW ?_);refine av (c5 (cZ (I:=λi c st'=>Safe κ g N pd st'/\∃out eP eQ r,c=(none,out,eP,eQ,r)/\GA g out/\eP+1<a.size/\eQ<b.size/\ia+ib+1<=eP+eQ)
       (Q:=λc st'=>Safe κ g N pd st'/\((∃r x,c=(some r,x)/\GA g r)\/∃out eP eQ r,c=(none,out,eP,eQ,r)/\GA g out/\eP+1<a.size/\eQ<b.size/\ia+ib+1<=eP+eQ)) ?_ ?_ ⟨S2,_,_,_,_,rfl,go2,y1,y2,y3⟩) ?_)
      ·rintro i3 c st3 _ IW ⟨S3,Bi,Vu,Vv,⟨Ar,xQ,xV⟩,rfl,pX,x1,x2,x3⟩
       dsimp only;clear S1 S2 S go go2
       repeat' (first
        |with_reducible refine gP (λ_=>?_) (λ_=>?_)
        |with_reducible refine eG (λ_=>?_) (λ_=>?_)
        |with_reducible refine av (eX ga (by omega) λ_ _=>?_)
        |with_reducible refine av (eX gb (by omega) λ_ _=>?_)
        |with_reducible refine av (lV ok (by assumption) (by assumption) (by assumption) λ_=>?_)
        |with_reducible refine av (oE (by assumption) λ_ _=>?_)
        |with_reducible refine av (iU ok (by assumption) (by assumption) ga (by omega) (by omega) λ_ _=>?_)
        |with_reducible refine av (iU ok (by assumption) (by assumption) gb (by omega) (by omega) λ_ _=>?_)
        |dsimp only
        | (refine aK ⟨by assumption,?_⟩;first
          |exact .inl ⟨_,_,rfl,by(with_reducible repeat (first|assumption|exact GA.ext dF|exact GA.ext dG|exact GA.one (by assumption)|refine GA.app ?_ ?_|refine GA.dR ?_ ?_|refine GA.rev ?_))⟩
          |exact .inr ⟨_,_,_,_,rfl,by(with_reducible repeat (first|assumption|exact GA.ext dF|exact GA.ext dG|exact GA.one (by assumption)|refine GA.app ?_ ?_|refine GA.dR ?_ ?_|refine GA.rev ?_)),by omega,by omega,by omega⟩
          |exact⟨_,_,_,_,rfl,by(with_reducible repeat (first|assumption|exact GA.ext dF|exact GA.ext dG|exact GA.one (by assumption)|refine GA.app ?_ ?_|refine GA.dR ?_ ?_|refine GA.rev ?_)),by omega,by omega,by omega⟩))
      ·rintro c st2 ⟨S2,jP,tW,tX,r,rfl,go2,y1,y2,y3⟩
       exact⟨S2,.inr ⟨_,_,_,_,rfl,go2,y1,y2,by omega⟩⟩
      ·rintro c st3 ⟨S3,⟨r,x,rfl,gr⟩|⟨Bi,Vu,Vv,⟨Ar,xQ,xV⟩,rfl,pX,x1,x2,x3⟩⟩
       ·exact aK ⟨S3,_,_,rfl,gr⟩
       ·dsimp only
        exact av (oE S3 λcR S4=>aK ⟨S4,_,_,_,_,rfl,pX,x1,x2,by omega⟩)
   ·rintro c st2 ⟨S2,jP,tW,tX,r,rfl,go2,y1,y2,y3⟩
    exfalso
    omega
   ·rintro c st2 ⟨S2,r,x,rfl,gr⟩
    exact aK (h _ _ gr S2)
theorem P5{M:Model}{σ α:Type}{i:Nat}{x y:StateT σ Sem α}{Q:α->σ->Prop}{st:σ}(h1:i=0->wpS M A E s x Q st)(h2:1<=i->wpS M A E s y Q st):wpS M A E s (if(i==0)=true then x else y) Q st:=
 gP h1 λe=>h2 (by omega)
theorem P6{M:Model}{σ α:Type}{i:Nat}{x y:StateT σ Sem α}{Q:α->σ->Prop}{st:σ}(h0:1<=i)(h1:i=1->wpS M A E s x Q st)(h2:2<=i->wpS M A E s y Q st):wpS M A E s (if(i==1)=true then x else y) Q st:=
 gP h1 λe=>h2 (by omega)
theorem P7{M:Model}{σ α:Type}{i j:Nat}{x y:StateT σ Sem α}{Q:α->σ->Prop}{st:σ}(h1:j<i->wpS M A E s x Q st)(h2:i<=j->wpS M A E s y Q st):wpS M A E s (if i - j > 0 then x else y) Q st:=
 eG (λe=>h1 (by omega)) λe=>h2 (by omega)
theorem aa4{a b:Array Keyed}{st:SortSt}{Q:Array Keyed->SortSt->Prop}(ok:iB prog w A s κ g)(S:Safe κ g N pd st)(ga:∀p∈a,g p)(gb:∀p∈b,g p)(h1:1<=a.size)(h2:1<=b.size)(h:∀out st',GA g out->Safe κ g N pd st'->Q out st'):wpS (model prog w) A E s (WR a b) Q st:=by
 have dF:GA g a:=ga;have dG:GA g b:=gb;refine av (lW ?_);refine av (eX ga (by omega) λp gp=>?_);dsimp only;refine gP (λq1=>?_) (λq1=>?_)
 ·exact aK (h _ _ (by(with_reducible repeat (first|assumption|exact GA.ext dF|exact GA.ext dG|exact GA.one (by assumption)|refine GA.app ?_ ?_|refine GA.dR ?_ ?_|refine GA.rev ?_))) S)
 ·refine gP (λq2=>?_) (λq2=>?_)
  ·exact aK (h _ _ (by(with_reducible repeat (first|assumption|exact GA.ext dF|exact GA.ext dG|exact GA.one (by assumption)|refine GA.app ?_ ?_|refine GA.dR ?_ ?_|refine GA.rev ?_))) S)
  ·refine av (gX ?_)
   try dsimp only
   refine av (c5 (cZ (I:=λi c st'=>Safe κ g N pd st'/\∃cJ cK out r,c=(none,cJ,cK,out,r)/\GA g out/\1<=cJ/\2<=cK/\cJ<=a.size/\cK<=b.size/\cJ+cK+i+1<=a.size+b.size)
    (Q:=λc st'=>Safe κ g N pd st'/\∃r x,c=(some r,x)/\GA g r) ?_ ?_ ⟨S,_,_,_,_,rfl,by(with_reducible repeat (first|assumption|exact GA.ext dF|exact GA.ext dG|exact GA.one (by assumption)|refine GA.app ?_ ?_|refine GA.dR ?_ ?_|refine GA.rev ?_)),by omega,by omega,by omega,by omega,by omega⟩) ?_)
   ·rintro i c st1 _ hi ⟨S1,na,nb,out,mg,rfl,go,z1,z2,z3,z4,z5⟩
    dsimp only;refine av (c5 (cZ (I:=λi c st'=>Safe κ g N pd st'/\∃cJ cK out r,c=(none,cJ,cK,out,r)/\GA g out/\1<=cJ/\2<=cK/\cJ<=a.size/\cK<=b.size/\cJ+cK+min i 1<=na+nb)
     (Q:=λc st'=>Safe κ g N pd st'/\((∃r x,c=(some r,x)/\GA g r)\/∃cJ cK out r,c=(none,cJ,cK,out,r)/\GA g out/\1<=cJ/\2<=cK/\cJ<=a.size/\cK<=b.size/\cJ+cK+1<=na+nb)) ?_ ?_ ⟨S1,_,_,_,_,rfl,go,z1,z2,z3,z4,by omega⟩) ?_)
    ·rintro i2 c st2 _ hi2 ⟨S2,lE,lF,jP,⟨ac,bc⟩,rfl,go2,y1,y2,y3,y4,y5⟩
     dsimp only;clear S S1 go h1 h2 q1 q2 z1 z2 z3 z4 z5 hi hi2;obtain⟨lE,rfl⟩:∃k,lE=k+1:=⟨lE - 1,by omega⟩;obtain⟨lF,rfl⟩:∃k,lF=k+1+1:=⟨lF - 2,by omega⟩;simp only[Fm];clear y1 y2
     repeat' (first
      |with_reducible refine P5 (λ_=>?_) (λ_=>?_)
      |with_reducible refine P6 (by omega) (λ_=>?_) (λ_=>?_)
      |with_reducible refine gP (λ_=>?_) (λ_=>?_)
      |with_reducible refine P7 (λ_=>?_) (λ_=>?_)
      |with_reducible refine eG (λ_=>?_) (λ_=>?_)
      |with_reducible refine av (eX ga (by omega) λ_ _=>?_)
      |with_reducible refine av (eX gb (by omega) λ_ _=>?_)
      |with_reducible refine av (lV ok (by assumption) (by assumption) (by assumption) λ_=>?_)
      |with_reducible refine av (oE (by assumption) λ_ _=>?_)
      |with_reducible refine av (iU ok (by assumption) (by assumption) ga (by omega) (by omega) λ_ _=>?_)
      |with_reducible refine av (iU ok (by assumption) (by assumption) gb (by omega) (by omega) λ_ _=>?_)
      |dsimp only
      | (refine aK ⟨by assumption,?_⟩;first
        |exact .inl ⟨_,_,rfl,by(with_reducible repeat (first|assumption|exact GA.ext dF|exact GA.ext dG|exact GA.one (by assumption)|refine GA.app ?_ ?_|refine GA.dR ?_ ?_|refine GA.rev ?_))⟩
        |exact⟨_,_,_,_,rfl,by(with_reducible repeat (first|assumption|exact GA.ext dF|exact GA.ext dG|exact GA.one (by assumption)|refine GA.app ?_ ?_|refine GA.dR ?_ ?_|refine GA.rev ?_)),by omega,by omega,by omega,by omega,by omega⟩
        |exact .inr ⟨_,_,_,_,rfl,by(with_reducible repeat (first|assumption|exact GA.ext dF|exact GA.ext dG|exact GA.one (by assumption)|refine GA.app ?_ ?_|refine GA.dR ?_ ?_|refine GA.rev ?_)),by omega,by omega,by omega,by omega,by omega⟩))
    ·rintro c st2 ⟨S2,lE,lF,jP,r,rfl,go2,y1,y2,y3,y4,y5⟩
     exact⟨S2,.inr ⟨_,_,_,_,rfl,go2,y1,y2,y3,y4,by omega⟩⟩
    ·rintro c st2 ⟨S2,⟨r,x,rfl,gr⟩|⟨lE,lF,jP,⟨ac,bc⟩,rfl,go2,y1,y2,y3,y4,y5⟩⟩
     ·exact aK ⟨S2,_,_,rfl,gr⟩
     ·dsimp only
      refine av (lW ?_);refine av (c5 (cZ (I:=λi c st'=>Safe κ g N pd st'/\∃cJ cK out r,c=(none,cJ,cK,out,r)/\GA g out/\1<=cJ/\2<=cK/\cJ<=a.size/\cK<=b.size/\cJ+cK+1<=na+nb)
       (Q:=λc st'=>Safe κ g N pd st'/\((∃r x,c=(some r,x)/\GA g r)\/∃cJ cK out r,c=(none,cJ,cK,out,r)/\GA g out/\1<=cJ/\2<=cK/\cJ<=a.size/\cK<=b.size/\cJ+cK+1<=na+nb)) ?_ ?_ ⟨S2,_,_,_,_,rfl,go2,y1,y2,y3,y4,y5⟩) ?_)
      ·rintro i3 c st3 _ IW ⟨S3,uh,ui,Bi,⟨Ar,xQ,xV⟩,rfl,pX,x1,x2,x3,x4,x5⟩
       dsimp only;clear S1 S2 S go go2 h1 h2 q1 q2 z1 z2 z3 z4 z5 y1 y2 y3 y4 y5 hi IW;obtain⟨uh,rfl⟩:∃k,uh=k+1:=⟨uh - 1,by omega⟩;obtain⟨ui,rfl⟩:∃k,ui=k+1+1:=⟨ui - 2,by omega⟩;simp only[Fm];clear x1 x2
       repeat' (first
        |with_reducible refine P5 (λ_=>?_) (λ_=>?_)
        |with_reducible refine P6 (by omega) (λ_=>?_) (λ_=>?_)
        |with_reducible refine gP (λ_=>?_) (λ_=>?_)
        |with_reducible refine P7 (λ_=>?_) (λ_=>?_)
        |with_reducible refine eG (λ_=>?_) (λ_=>?_)
        |with_reducible refine av (eX ga (by omega) λ_ _=>?_)
        |with_reducible refine av (eX gb (by omega) λ_ _=>?_)
        |with_reducible refine av (lV ok (by assumption) (by assumption) (by assumption) λ_=>?_)
        |with_reducible refine av (oE (by assumption) λ_ _=>?_)
        |with_reducible refine av (iU ok (by assumption) (by assumption) ga (by omega) (by omega) λ_ _=>?_)
        |with_reducible refine av (iU ok (by assumption) (by assumption) gb (by omega) (by omega) λ_ _=>?_)
        |dsimp only
        | (refine aK ⟨by assumption,?_⟩;first
          |exact .inl ⟨_,_,rfl,by(with_reducible repeat (first|assumption|exact GA.ext dF|exact GA.ext dG|exact GA.one (by assumption)|refine GA.app ?_ ?_|refine GA.dR ?_ ?_|refine GA.rev ?_))⟩
          |exact⟨_,_,_,_,rfl,by(with_reducible repeat (first|assumption|exact GA.ext dF|exact GA.ext dG|exact GA.one (by assumption)|refine GA.app ?_ ?_|refine GA.dR ?_ ?_|refine GA.rev ?_)),by omega,by omega,by omega,by omega,by omega⟩
          |exact .inr ⟨_,_,_,_,rfl,by(with_reducible repeat (first|assumption|exact GA.ext dF|exact GA.ext dG|exact GA.one (by assumption)|refine GA.app ?_ ?_|refine GA.dR ?_ ?_|refine GA.rev ?_)),by omega,by omega,by omega,by omega,by omega⟩))
      ·rintro c st2 ⟨S2,lE,lF,jP,r,rfl,go2,y1,y2,y3,y4,y5⟩
       exact⟨S2,.inr ⟨_,_,_,_,rfl,go2,y1,y2,y3,y4,by omega⟩⟩
      ·rintro c st3 ⟨S3,⟨r,x,rfl,gr⟩|⟨uh,ui,Bi,⟨Ar,xQ,xV⟩,rfl,pX,x1,x2,x3,x4,x5⟩⟩
       ·exact aK ⟨S3,_,_,rfl,gr⟩
       ·dsimp only
        exact av (oE S3 λcR S4=>aK ⟨S4,_,_,_,_,rfl,pX,x1,x2,x3,x4,by omega⟩)
   ·rintro c st2 ⟨S2,lE,lF,jP,r,rfl,go2,y1,y2,y3,y4,y5⟩
    exfalso
    omega
   ·rintro c st2 ⟨S2,r,x,rfl,gr⟩
    exact aK (h _ _ gr S2)
end
noncomputable def Runs:List (Nat × Nat × Nat)->Nat->Nat->Prop
 | [],a,b=>a=b
 | (s,n,_)::r,a,b=>s=a/\1<=n/\Runs r (a+n) b
theorem Runs.le:∀{l:List (Nat × Nat × Nat)} {a b:Nat},Runs l a b->a<=b
 | [],_,_,h=>oV h
 | (_,n,_)::r,a,b,h=>by
  have:=Runs.le h.2.2;omega
theorem Runs.app{s n p:Nat}:∀{l:List (Nat × Nat × Nat)} {a b:Nat},Runs l a b->1<=n->Runs (l++[(b,n,p)]) a (b+n)
 | [],_,_,rfl,hn=>⟨rfl,hn,rfl⟩
 | (_,_,_)::r,a,b,h,hn=>⟨h.1,h.2.1,Runs.app (s:=s) h.2.2 hn⟩
theorem Runs.at:∀{l:List (Nat × Nat × Nat)} {a b i s n p s2 n2 p2:Nat},Runs l a b->l[i]?=some (s,n,p)->l[i+1]?=some (s2,n2,p2)->s2=s+n/\1<=n/\1<=n2/\s2+n2<=b/\Runs ((l.set i (s,n+n2,p)).eraseIdx (i+1)) a b
 | [],_,_,i,_,_,_,_,_,_,_,h1,_=>by simp at h1
 | (s0,n0,p0)::r,a,b,0,s,n,p,s2,n2,p2,h,h1,h2=>by
  simp only[Qq,w_,Prod.mk.injEq]at h1;obtain⟨rfl,rfl,rfl⟩:=h1;cases r with
  |nil=>simp at h2
  |cons q r =>
   simp at h2;subst h2;obtain⟨e1,e2,e3,e4,e5⟩:=h;have:=e5.le;refine⟨by omega,e2,e4,by omega,?_⟩;refine⟨e1,by omega,?_⟩;rw[show a+(n0+n2)=a+n0+n2 by omega];exact e5
 | (s0,n0,p0)::r,a,b,i+1,s,n,p,s2,n2,p2,h,h1,h2=>by
  obtain⟨e1,e2,e3⟩:=h;have:=Runs.at (i:=i) e3 (by simpa using h1) (by simpa using h2);exact⟨this.1,this.2.1,this.2.2.1,this.2.2.2.1,e1,e2,this.2.2.2.2⟩
theorem Runs.mod(f:Nat × Nat × Nat->Nat × Nat × Nat)(hf:∀x,(f x).1=x.1/\(f x).2.1=x.2.1):∀{l:List (Nat × Nat × Nat)} {a b i:Nat},Runs l a b->Runs (l.modify i f) a b
 | [],_,_,i,h=>by simpa using h
 | (s0,n0,p0)::r,a,b,0,h=>by
  have:=hf (s0,n0,p0);rw[List.modify_zero_cons];generalize f (s0,n0,p0)=y at this;obtain⟨y1,y2,y3⟩:=y;obtain⟨rfl,rfl⟩:=this;exact h
 | (s0,n0,p0)::r,a,b,i+1,h=>⟨h.1,h.2.1,Runs.mod f hf h.2.2⟩
section
variable {prog:Program} {w:World} {A:Around} {E:Value->Shared->Prop} {s:Shared} {κ:SortKind} {g:Keyed->Prop} {N:Nat} {pd:Array (Nat × Nat × Nat)}
theorem aa7{M:Model}{σ:Type}{st':σ}{Q:PUnit->σ->Prop}{st:σ}(h:Q ⟨⟩ st'):wpS M A E s (set st':StateT σ Sem PUnit) Q st:=by
 unfold wpS;rw[StateT.run_set];exact ak ⟨rfl,h⟩
theorem GA.setB{xs:Array Keyed}{x:Keyed}{i:Nat}(h1:GA g xs)(h2:g x):GA g (xs.setIfInBounds i x):=λp hp=>by
 obtain⟨k,hk,e⟩:=Qc.mp hp;rw[Array.getElem_setIfInBounds]at e
 ·split at e
  ·exact e▸h2
  ·exact e▸h1 _ (wc _)
 ·simpa using hk
theorem GA.fold{sa:Nat}:∀{l:List (Keyed × Nat)} {xs:Array Keyed},GA g xs->(∀p∈l,g p.1)->GA g (l.foldl (λa x=>a.setIfInBounds (sa+x.2) x.1) xs)/\(l.foldl (λa x=>a.setIfInBounds (sa+x.2) x.1) xs).size=xs.size
 | [],xs,h,_=>⟨h,rfl⟩
 |p::l,xs,h,hl=>by
  have:=GA.fold (sa:=sa) (h.setB (i:=sa+p.2) (hl p (bx ..))) (λq hq=>hl q (bu _ hq));exact⟨this.1,this.2.trans (Array.size_setIfInBounds ..)⟩
theorem D_{i lo:Nat}{st:SortSt}{Q:Bool->SortSt->Prop}(ok:iB prog w A s κ g)(S:Safe κ g N pd st)(hR:Runs pd.toList 0 lo)(hlo:lo<=N)(hi:i+1<pd.size)(h:∀Bl st',Safe κ g N Bl st'->Runs Bl.toList 0 lo->1<=Bl.size->Q true st'):wpS (model prog w) A E s (mergeAt' i) Q st:=by
 refine av (gX ?_);dsimp only;obtain⟨⟨sa,na,pw⟩,e1⟩:∃x,pd[i]?=some x:=⟨_,tL pd i (by omega)⟩;obtain⟨⟨sb,nb,pw2⟩,e2⟩:∃x,pd[i+1]?=some x:=⟨_,tL pd (i+1) (by omega)⟩;obtain⟨rfl,n1,n2,z1,R2⟩:=hR.at (i:=i) (by simpa using e1) (by simpa using e2);have hp:(sortPriv% PySem.Builtin.SortState.pending) st=pd:=S.pend;rw[hp,e1,e2];dsimp only;refine av (aa7 ?_);have S2:∀st':SortSt,kindOf st'=kindOf st->failedOf st'=none->GA g (arrOf st')->(arrOf st').size=N->pendingOf st'=(pd.setIfInBounds i (sa,na+nb,pw)).eraseIdxIfInBounds (i+1)->Safe κ g N ((pd.setIfInBounds i (sa,na+nb,pw)).eraseIdxIfInBounds (i+1)) st':=
  λst' a1 a2 a3 a4 a5=>⟨a1.trans S.kind,a2,a4,a3,a5⟩
 have R3:Runs ((pd.setIfInBounds i (sa,na+nb,pw)).eraseIdxIfInBounds (i+1)).toList 0 lo:=by
  have:((pd.setIfInBounds i (sa,na+nb,pw)).eraseIdxIfInBounds (i+1)).toList=(pd.toList.set i (sa,na+nb,pw)).eraseIdx (i+1):=by simp
  rw[this];exact R2
 have sz:1<=((pd.setIfInBounds i (sa,na+nb,pw)).eraseIdxIfInBounds (i+1)).size:=by
  rw[<- eY];generalize ((pd.setIfInBounds i (sa,na+nb,pw)).eraseIdxIfInBounds (i+1)).toList=l at R3;cases l with
  |nil =>
   have:0=lo:=R3;omega
  |cons=>simp
 have S3:=S2 (SortSt.mk' (kindOf st) (arrOf st) ((pd.setIfInBounds i (sa,na+nb,pw)).eraseIdxIfInBounds (i+1)) (gallopOf st) (failedOf st)) rfl S.failed S.all S.size rfl;have T:∀(k:Nat) (M:Array Keyed) (cR:SortSt),GA g M->Safe κ g N ((pd.setIfInBounds i (sa,na+nb,pw)).eraseIdxIfInBounds (i+1)) cR->wpS (model prog w) A E s (do
   modify λs=>setArr s (List.foldl (λa x=>a.setIfInBounds (sa+k+x.2) x.1) (arrOf s) M.toList.zipIdx)
   let y <- get
   pure (failedOf y).isNone) Q cR:=by
  intro k M cR gM S4;refine av (jb (av (gX (aK ?_))));have q:=GA.fold (sa:=sa+k) (l:=M.toList.zipIdx) (xs:=arrOf cR) S4.all (λp hp=>gM _ (by
   have:=List.mem_zipIdx hp;rw[this.2.2];simp))
  rw[show failedOf (setArr cR _)=none from S4.failed];exact h _ _ ⟨S4.kind,S4.failed,q.2.trans S4.size,q.1,S4.pend⟩ R3 sz
 have hs:(arrOf st).size=N:=S.size;have hs':((sortPriv% PySem.Builtin.SortState.a) st).size=N:=S.size;refine av (eX S.all (by omega) λp gp=>?_);refine av (iU ok S3 gp S.all (by omega) (by omega) λk hk=>?_);dsimp only;refine gP (λq1=>?_) (λq1=>?_)
 ·exact aK (h _ _ S3 R3 sz)
 ·refine av (eX S.all (by omega) λp2 T3=>?_)
  refine av (iU ok S3 T3 S.all (by omega) (by omega) λk2 hk2=>?_);dsimp only;refine gP (λq2=>?_) (λq2=>?_)
  ·exact aK (h _ _ S3 R3 sz)
  ·have e3:((arrOf st).extract (sa+k) (sa+na)).size=na - k:=by
    rw[Array.size_extract];omega
   have e4:((arrOf st).extract (sa+na) (sa+na+k2)).size=k2:=by
    rw[Array.size_extract];omega
   have e3':(((sortPriv% PySem.Builtin.SortState.a) st).extract (sa+k) (sa+na)).size=na - k:=e3;have e4':(((sortPriv% PySem.Builtin.SortState.a) st).extract (sa+na) (sa+na+k2)).size=k2:=e4;have g3:GA g ((arrOf st).extract (sa+k) (sa+na)):=GA.ext S.all;have g4:GA g ((arrOf st).extract (sa+na) (sa+na+k2)):=GA.ext S.all;refine eG (λ_=>?_) (λ_=>?_)
   ·exact av (aa5 ok S3 g3 g4 (by rw[e3];omega) (by rw[e4];omega) λM cR gM S4=>T k M cR gM S4)
   ·exact av (aa4 ok S3 g3 g4 (by rw[e3];omega) (by rw[e4];omega) λM cR gM S4=>T k M cR gM S4)
theorem aa8{st:SortSt}{Q:Unit->SortSt->Prop}(ok:iB prog w A s κ g)(S:Safe κ g N #[] st)(h:∀pd st',Safe κ g N pd st'->Q () st'):wpS (model prog w) A E s sortRuns' Q st:=by
 refine av (gX ?_);have hs:((sortPriv% PySem.Builtin.SortState.a) st).size=N:=S.size;dsimp only;rw[hs];generalize (sortPriv% PySem.Builtin.minRun) N N 0=mr;refine av (c5 (cZ (I:=λx c st'=>∃lo pd,c=(none,lo)/\Safe κ g N pd st'/\Runs pd.toList 0 lo/\lo<=N/\x<=lo) (Q:=λc st'=>∃lo pd,c=(none,lo)/\Safe κ g N pd st'/\Runs pd.toList 0 lo/\lo<=N) ?step (λc st' ⟨lo,pd,e,z1,z2,z3,_⟩=>⟨lo,pd,e,z1,z2,z3⟩) ⟨0,#[],rfl,S,rfl,bM _,aH _⟩) ?post)
 case step =>
  rintro x c st1 _ hx ⟨lo,pd,rfl,S1,R1,hlo,hxl⟩;dsimp only;refine eG (λq=>?_) (λq=>?_)
  ·exact aK ⟨lo,pd,rfl,S1,R1,hlo⟩
  ·refine av (aa3 ok S1 (by omega) (by omega) λn st3 hn1 hn2 S3=>?_)
   dsimp only;refine eG (λq2=>?_) (λq2=>?_)
   ·refine av (lW ?_)
    refine av (aa2 ok S3 (by omega) λst3 S3=>?_);refine eG (λe=>by simp at e) (λ_=>?_);have nS:1<=min (N - lo) mr:=by omega
    have nT:lo+min (N - lo) mr<=N:=by omega
    generalize min (N - lo) mr=n at nS nT;refine av (gX ?_);cases hb:((sortPriv% PySem.Builtin.SortState.pending) st3).back? with
    |none =>
     dsimp only;refine av (jb (aK ⟨_,_,rfl,⟨S3.kind,S3.failed,S3.size,S3.all,rfl⟩,?_,nT,by omega⟩));show Runs ((pendingOf st3).push (lo,n,0)).toList 0 (lo+n);rw[S3.pend,oG];exact R1.app (s:=0) nS
    |some y =>
     obtain⟨s1,n1,p1⟩:=y;dsimp only;refine av (c5 (cZ (I:=λ_ c st'=>∃pd,c=(none,())/\Safe κ g N pd st'/\Runs pd.toList 0 lo) (Q:=λc st'=>∃pd,c=(none,())/\Safe κ g N pd st'/\Runs pd.toList 0 lo) ?_ (λ_ _ z=>z) ⟨pd,rfl,S3,R1⟩) ?_)
     ·rintro _ c cR _ _ ⟨dH,rfl,S4,R4⟩
      refine av (gX ?_);have p6:(sortPriv% PySem.Builtin.SortState.pending) cR=dH:=S4.pend
      try dsimp only
      rw[p6]
      by_cases q4:dH.size > 1
      ·rw[if_pos q4]
       obtain⟨⟨y1,y2,y3⟩,ey⟩:∃y,dH[dH.size - 2]?=some y:=⟨_,tL _ _ (by omega)⟩;rw[ey];dsimp only;refine eG (λ_=>aK ⟨dH,rfl,S4,R4⟩) (λ_=>?_);refine av (D_ ok S4 R4 hlo (by omega) λqt iT S5 R5 _=>?_);refine eG (λe=>by simp at e) λ_=>aK ⟨qt,rfl,S5,R5⟩
      ·rw[if_neg q4]
       exact aK ⟨dH,rfl,S4,R4⟩
     ·rintro c cR ⟨dH,rfl,S4,R4⟩
      dsimp only;refine av (jb (av (jb (aK ⟨_,_,rfl,⟨S4.kind,S4.failed,S4.size,S4.all,rfl⟩,?_,nT,by omega⟩))));show Runs (((pendingOf cR).modify ((pendingOf cR).size - 1) _).push (lo,n,0)).toList 0 (lo+n);rw[S4.pend,oG,Array.toList_modify];refine Runs.app (s:=0) ?_ nS;refine Runs.mod _ ?_ R4;exact λx=>⟨rfl,rfl⟩
   ·have nS:1<=n:=hn1
    have nT:lo+n<=N:=by omega
    refine av (gX ?_);cases hb:((sortPriv% PySem.Builtin.SortState.pending) st3).back? with
    |none =>
     dsimp only;refine av (jb (aK ⟨_,_,rfl,⟨S3.kind,S3.failed,S3.size,S3.all,rfl⟩,?_,nT,by omega⟩));show Runs ((pendingOf st3).push (lo,n,0)).toList 0 (lo+n);rw[S3.pend,oG];exact R1.app (s:=0) nS
    |some y =>
     obtain⟨s1,n1,p1⟩:=y;dsimp only;refine av (c5 (cZ (I:=λ_ c st'=>∃pd,c=(none,())/\Safe κ g N pd st'/\Runs pd.toList 0 lo) (Q:=λc st'=>∃pd,c=(none,())/\Safe κ g N pd st'/\Runs pd.toList 0 lo) ?_ (λ_ _ z=>z) ⟨pd,rfl,S3,R1⟩) ?_)
     ·rintro _ c cR _ _ ⟨dH,rfl,S4,R4⟩
      refine av (gX ?_);have p6:(sortPriv% PySem.Builtin.SortState.pending) cR=dH:=S4.pend
      try dsimp only
      rw[p6]
      by_cases q4:dH.size > 1
      ·rw[if_pos q4]
       obtain⟨⟨y1,y2,y3⟩,ey⟩:∃y,dH[dH.size - 2]?=some y:=⟨_,tL _ _ (by omega)⟩;rw[ey];dsimp only;refine eG (λ_=>aK ⟨dH,rfl,S4,R4⟩) (λ_=>?_);refine av (D_ ok S4 R4 hlo (by omega) λqt iT S5 R5 _=>?_);refine eG (λe=>by simp at e) λ_=>aK ⟨qt,rfl,S5,R5⟩
      ·rw[if_neg q4]
       exact aK ⟨dH,rfl,S4,R4⟩
     ·rintro c cR ⟨dH,rfl,S4,R4⟩
      dsimp only;refine av (jb (av (jb (aK ⟨_,_,rfl,⟨S4.kind,S4.failed,S4.size,S4.all,rfl⟩,?_,nT,by omega⟩))));show Runs (((pendingOf cR).modify ((pendingOf cR).size - 1) _).push (lo,n,0)).toList 0 (lo+n);rw[S4.pend,oG,Array.toList_modify];refine Runs.app (s:=0) ?_ nS;refine Runs.mod _ ?_ R4;exact λx=>⟨rfl,rfl⟩
 case post =>
  rintro c st2 ⟨lo,pd,rfl,S2,R2,hlo⟩;dsimp only;refine av (c5 (cZ (I:=λ_ c st'=>∃pd,c=(none,())/\Safe κ g N pd st'/\Runs pd.toList 0 lo) (Q:=λc st'=>∃pd,c=(none,())/\Safe κ g N pd st'/\Runs pd.toList 0 lo) ?_ (λ_ _ z=>z) ⟨pd,rfl,S2,R2⟩) ?_)
  ·rintro _ c cR _ _ ⟨dH,rfl,S4,R4⟩
   refine av (gX ?_);have p6:(sortPriv% PySem.Builtin.SortState.pending) cR=dH:=S4.pend
   try dsimp only
   rw[p6];refine eG (λ_=>aK ⟨dH,rfl,S4,R4⟩) (λq4=>?_);refine av (D_ ok S4 R4 hlo ?_ λqt iT S5 R5 _=>?_)
   ·(repeat' split)<;>omega
   ·refine eG (λe=>by simp at e) λ_=>aK ⟨qt,rfl,S5,R5⟩
  ·rintro c cR ⟨dH,rfl,S4,R4⟩
   exact aK (h _ _ S4)
theorem Wr:iB prog w A s oneType' λp=>(∃n t,p.1 = .int n t)/\∃n t,p.2 = .int n t:=by
 rintro⟨x1,x2⟩ ⟨y1,y2⟩ ⟨⟨n,t,rfl⟩,_⟩ ⟨⟨m,u,rfl⟩,_⟩;exact⟨decide (n<m),λQ h=>oneLt_int h⟩
theorem Wn {a:Addr} {vs:List Value} {ns:List Int} {n:Nat} {P:PySem.Fin->Shared->Prop} (ho:s.heap.get? a=some (seqObj "list" vs.toArray n))
  (hI:IntsAre vs ns) (h2:2<=vs.length) (hz:vs.length<=2000)
  (h:∀(out:Array Value) (ns':List Int),IntsAre out.toList ns'->ns'.length=ns.length->P (.done (.ret .none)) {s with heap:=sortedHeap s.heap a vs out}) :
  wpAny (model prog w) A (Builtin.«list.sort» ⟨[.ref a],[]⟩) P E s:=by
 rw[list_sort_plain];have ha:a<s.heap.objs.size:=aP ho;refine ae (mJ ho rfl ?_);refine ae (mK ho rfl ?_);obtain⟨e1,ho1⟩:∃e1,(s.heap.update a (Obj.mapSeq λ_=>#[])).get? a=some (seqObj "list" #[] e1):=⟨_,o9 ho (λ_=>#[])⟩;refine ae (rM ho1 rfl ?_);refine ae (rS ?_);refine ae (jh ?_);refine fk ?_;have ho6:(((s.heap.update a (Obj.mapSeq λ_=>#[])).push (seqObj "tuple" vs.toArray 0)).push (seqObj "list" #[] 0)).get? a=some (seqObj "list" #[] e1):=
  aI _ (aI _ ho1)
 show wpAny (model prog w) A _ P E {s with heap:=((s.heap.update a (Obj.mapSeq λ_=>#[])).push (seqObj "tuple" vs.toArray 0)).push (seqObj "list" #[] 0)};dsimp only;have hsz:¬ vs.toArray.size<2:=by simp;omega
 rw[if_neg hsz,if_neg hsz];obtain⟨v₁,v₂,rest,rfl⟩:∃v₁ v₂ rest,vs=v₁::v₂::rest:=by
  match vs,h2 with
  |v₁::v₂::rest,_=>exact⟨v₁,v₂,rest,rfl⟩
 rw[keyKind_ints hI];refine ae (ak ?_);refine ae (fO (aa8 (N:=(v₁::v₂::rest).length) (st:=SortSt.mk' oneType' ((v₁::v₂::rest).toArray.zip (v₁::v₂::rest).toArray) #[] 7 none)
  (Q:=λ_ st'=>∃pd,Safe oneType' (λp=>(∃n t,p.1 = .int n t)/\∃n t,p.2 = .int n t) (v₁::v₂::rest).length pd st') Wr
  ⟨rfl,rfl,pairsOf_size _,λp hp=>?_,rfl⟩ λpd st' z=>⟨pd,z⟩) ?_ λ_ _ e=>e)
 ·have hp2:p∈pairsOf (v₁::v₂::rest):=hp
  have hp':p∈(pairsOf (v₁::v₂::rest)).toList:=Eb.mpr hp2;rw[pairsOf_toList]at hp';have:=mem_zip_self hp';exact⟨hI.all _ this.2,this.1▸hI.all _ this.2⟩
 ·rintro⟨⟨⟩,st'⟩ s' ⟨rfl,pd,S⟩
  dsimp only;refine ae (rM ho6 rfl ?_);refine ae (mK ho6 rfl ?_ (hsz2:=by refine cp (oV ((Ec ..).trans S.size)) ?_;rw[sizeLine_eq];omega));rw[S.failed];simp only[bne_self_eq_false,e9,dQ];have hall:=intsAre_map ((arrOf st').map (·.2)).toList (by
   intro v hv;simp only[Ed,b9]at hv;obtain⟨p,hp,rfl⟩:=hv;exact(S.all p (by simpa using hp)).2)
  refine ak (h _ _ hall ?_);rw[ao,eY,Ec,S.size,hI.length]
theorem Ko {a:Addr} {vs:List Value} {ns:List Int} {n:Nat} {P:PySem.Fin->Shared->Prop} (ho:s.heap.get? a=some (seqObj "list" vs.toArray n))
  (hI:IntsAre vs ns) (hz:vs.length<=2000)
  (h:∀(out:Array Value) (ns':List Int),IntsAre out.toList ns'->ns'.length=ns.length->(ns.length<64->ns'.Perm ns/\ns'.Pairwise (·<=·))->P (.done (.ret .none)) {s with heap:=sortedHeap s.heap a vs out}) :
  wpAny (model prog w) A (Builtin.«list.sort» ⟨[.ref a],[]⟩) P E s:=by
 have hl:=hI.length
 by_cases h64:vs.length<64
 ·exact list_sort_tree ho hI h64 λout ns' x1 x2 x3=>h out ns' x1 x2.length_eq λ_=>⟨x2,x3⟩
 ·exact Wn ho hI (by omega) hz λout ns' x1 x2=>h out ns' x1 x2 λz=>absurd z (by omega)
end
theorem Rj:bootBuiltins "set" = some (.type "set"):=by decide +kernel
theorem xZ:bootBuiltins "sorted" = some (.builtin "sorted"):=by decide +kernel
noncomputable def mP(P:Program)(w:World)(p:Addr)(ks:List Int):HO:=.ext λh=>dZ P w h p ks
theorem Z1{P:Program}{w:World}{H:Hp}{h:Heap}{p:Addr}{ks:List Int}(hG:dZ P w h p ks):a8 P w H h p (mP P w p ks):=
 ⟨hG,let⟨o,_,_,_,e,_⟩:=hG;⟨o,e⟩,λh1 h2 g k=>g.moved λo e=>k o e⟩
theorem YW{ks:List Int}{k x:Int}:x∈jQ ks k ↔ x∈ks\/x=k:=by
 unfold jQ
 split
 ·rename_i h
  exact⟨.inl,λz=>z.elim id λe=>e▸h⟩
 ·simp
theorem K7(val:Nat->Int){x:Int}:∀i,x∈numsTo val i ↔ ∃j,j<i/\val j=x
 |0=>by simp[numsTo]
 |i+1=>by
  rw[numsTo_succ,YW,K7 val i]
  constructor
  ·rintro(⟨j,h1,h2⟩|h)
   ·exact⟨j,by omega,h2⟩
   ·exact⟨i,by omega,h.symm⟩
  ·rintro⟨j,h1,h2⟩
   by_cases e:j=i
   ·exact .inr (by rw[<- h2,e])
   ·exact .inl ⟨j,by omega,h2⟩
section
variable {X:Cx} {K:W.Frag}
theorem Inv.Sg{pins:List (Addr × Obj)}{σ:St}{H:Hp}{s:Shared}{d':Drawn}(I:Inv X pins σ H s):Inv X pins σ H {s with drawn:=d'}:=
 ⟨I.ok,I.os,I.bare,I.base,I.loc,I.cell,I.free,I.eO,I.pin,I.hok,I.len⟩
noncomputable def Zg(X:Cx)(K:W.Frag):List V->Hp->VK->Prop:=λxs H Q=>∃(l:Addr) (ns:List Int),xs = [.ref l]/\ai K H l (ns.map V.int)/\ns.length<=1000/\∀p ks,H p=none->ks.Nodup->(∀k,k∈ks ↔ k∈ns)->Q (.ref p) (upd H p (mP X.prog X.w p ks))
theorem Rz (h:X.K=K) (hr:bj 0 X.A):cX X (.type "set") (Zg X K):=by
 subst h;intro pins s σ H vs us Q I rv h;obtain⟨l,ns,rfl,hl,hz,q⟩:=h;obtain⟨u,rfl,ru⟩:=rv.one;cases ru;obtain⟨its,r,pl,_⟩:=I.list hl;have hI:=nW r;have hlen:its.length=ns.length:=by rw[<- r.length,ao]
 refine ZX hr.hd pl.isList (by simpa using hI) (by rw[bG,hlen];show ns.length+1<4096;omega) λh' tk hG hk=>?_;have kept:∀b o,s.heap.get? b=some o->h'.get? b=some o:=λb o e=>hk b o (aP e) e;refine⟨.ref s.heap.objs.size,_,I.laid (o:=mP X.prog X.w s.heap.objs.size _) kept (aH _) (Z1 hG),rfl,q _ _ I.fresh ?_ λk=>?_⟩
 ·obtain⟨_,_,_,_,_,_,_,H⟩:=hG
  exact H.nd
 ·rw[K7,bG,hlen]
  constructor
  ·rintro⟨j,h1,h2⟩
   rw[<- h2,aL,aq h1];exact gB h1
  ·intro hk
   obtain⟨j,h1,h2⟩:=iX hk;exact⟨j,h1,by rw[aL,aq h1];exact h2⟩
noncomputable def Zi(X:Cx):List V->Hp->VK->Prop:=λxs H Q=>∃(a:Addr) (ks:List Int),xs = [.ref a]/\H a=some (mP X.prog X.w a ks)/\ks.length<=1000/\∀(p:Addr) (ms:List Int),H p=none->ms.length=ks.length->(ks.length<64->ms.Perm ks/\ms.Pairwise (·<=·))->Q (.ref p) (upd H p (.lst (ms.map V.int)))
theorem Ou {h:Heap} {a:Addr} {vs:List Value} {out:Array Value} {n:Nat} (e:h.get? a=some (seqObj "list" vs.toArray n)):(∃c,(sortedHeap h a vs out).get? a=some (seqObj "list" out c))/\∀b o,b≠a->h.get? b=some o->(sortedHeap h a vs out).get? b=some o:=by
 unfold sortedHeap;obtain⟨e1,h1⟩:∃e1,(h.update a (Obj.mapSeq λ_=>(#[]:Array Value))).get? a=some (seqObj "list" #[] e1):=⟨_,o9 e λ_=>#[]⟩;refine⟨⟨_,o9 (aI _ (aI _ h1)) λ_=>out⟩,λb o hb q=>?_⟩;rw[mM _ _ _ _ hb];refine aI _ (aI _ ?_);rw[mM _ _ _ _ hb];exact q
theorem RC (hr:bj 0 X.A):cX X (.builtin "sorted") (Zi X):=by
 intro pins s σ H vs us Q I rv h;obtain⟨a,ks,rfl,ha,hz,q⟩:=h;obtain⟨u,rfl,ru⟩:=rv.one;cases ru;have hG:dZ X.prog X.w s.heap a ks:=(show a8 X.prog X.w H s.heap a (mP X.prog X.w a ks)from I.hok a _ ha).1;refine xc kind_sorted plain_sorted entry_sorted (args_sorted1 (.ref a)) ?_;unfold Builtin.«sorted»;refine ae (m:=checkCount "sorted" 1 1 _) (ak (ae (RW (A:=X.A.in1) hr.hd hG (by omega) λvs ns h1 d1 tk hI hp k1 _=>ae (jh ?_ ?_))))
 ·have I1:Inv X pins σ H {s with heap:=h1,drawn:=d1,toks:=tk}:=(I.kept (t':=tk) k1).Sg
  have ea:(h1.push {cls:=.type "list", data:=.seq vs.toArray}).get? h1.objs.size=some (seqObj "list" vs.toArray 0):=bf _ rfl;refine ae (fk (xi xh ⟨_,ea,rfl⟩ xg ?_ (args_list_sort _)));show wpAny (model X.prog X.w) X.A.in1.in1 (Builtin.«list.sort» ⟨[.ref h1.objs.size],[]⟩) _ _ _;have hvl:vs.length<=1000:=by rw[hI.length,hp.length_eq];exact hz
  refine Ko (s:={s with heap:=h1.push {cls:=.type "list", data:=.seq vs.toArray},drawn:=d1,toks:=tk}) (vs:=vs) (n:=0) ea hI (cp hvl (by decide)) λout ns' hI' hp' hs'=>?_;obtain⟨⟨c,g1⟩,g2⟩:=Ou (out:=out) ea;have hol:out.toList.length<=sizeLine:=by rw[hI'.length,hp',<- hI.length];exact fL (qS (by omega))
  have I5:Inv X pins σ (upd H h1.objs.size (.lst (ns'.map V.int))) {s with heap:=sortedHeap (h1.push {cls:=.type "list", data:=.seq vs.toArray}) h1.objs.size vs out,drawn:=d1,toks:=tk}:=by
   refine I1.laid (t':=tk) (λb o e=>?_) (aH _) ⟨by rw[ao,<- hI'.length];exact hol,out.toList,c,vU hI',by simpa using g1⟩;exact g2 b o (a_ (aP e)) (aI _ e)
  exact⟨_,rfl,ak ⟨_,rfl,.ref h1.objs.size,_,I5,rfl,q _ ns' I1.fresh (hp'.trans hp.length_eq) λz=>⟨(hs' (by rw[hp.length_eq];exact z)).1.trans hp,(hs' (by rw[hp.length_eq];exact z)).2⟩⟩⟩
 ·rw[hI.length,hp.length_eq]
  exact fL (qS (by omega))
end
noncomputable def Zh(K:W.Frag):List V->Hp->VK->Prop:=λxs H Q=>∃(l:Addr) (ns:List Int),xs = [.ref l]/\ai K H l (ns.map V.int)/\ns.length<=2000/\∀(p:Addr) (ms:List Int),H p=none->ms.length=ns.length->(ns.length<64->ms.Perm ns/\ms.Pairwise (·<=·))->Q (.ref p) (upd H p (.lst (ms.map V.int)))
theorem GP {X:Cx} {K:W.Frag} (h:X.K=K) (hr:bj 0 X.A):cX X (.builtin "sorted") (Zh K):=by
 subst h;intro pins s σ H vs us Q I rv h;obtain⟨l,ns,rfl,hl,hz,q⟩:=h;obtain⟨u,rfl,ru⟩:=rv.one;refine xc kind_sorted plain_sorted entry_sorted (args_sorted1 u) ?_;unfold Builtin.«sorted»;refine ae (m:=checkCount "sorted" 1 1 _) (ak (ae (G6 (A:=X.A.in1) hr.hd I ru (.inr ⟨l,rfl,hl⟩) (by rw[ao];omega) λits s1 rt I1=>ae (jh ?_ ?_))))
 ·have hI:=nW rt
  have ea:(s1.heap.push {cls:=.type "list", data:=.seq its.toArray}).get? s1.heap.objs.size=some (seqObj "list" its.toArray 0):=bf _ rfl;refine ae (fk (xi xh ⟨_,ea,rfl⟩ xg ?_ (args_list_sort _)));show wpAny (model X.prog X.w) X.A.in1.in1 (Builtin.«list.sort» ⟨[.ref s1.heap.objs.size],[]⟩) _ _ _;have hvl:its.length<=2000:=by rw[hI.length];exact hz
  refine Ko (s:={s1 with heap:=s1.heap.push {cls:=.type "list", data:=.seq its.toArray}}) (vs:=its) (n:=0) ea hI hvl λout ns' hI' hp' hs'=>?_;obtain⟨⟨c,g1⟩,g2⟩:=Ou (out:=out) ea;have hol:out.toList.length<=sizeLine:=by rw[hI'.length,hp',<- hI.length];exact fL (oW (by omega:_<=2000) (by decide))
  have I5:Inv X pins σ (upd H s1.heap.objs.size (.lst (ns'.map V.int))) {s1 with heap:=sortedHeap (s1.heap.push {cls:=.type "list", data:=.seq its.toArray}) s1.heap.objs.size its out,toks:=s1.toks}:=by
   refine I1.laid (t':=s1.toks) (λb o e=>?_) (aH _) ⟨by rw[ao,<- hI'.length];exact hol,out.toList,c,vU hI',by simpa using g1⟩;exact g2 b o (a_ (aP e)) (aI _ e)
  exact⟨_,rfl,ak ⟨_,rfl,.ref s1.heap.objs.size,_,I5,rfl,q _ ns' I1.fresh hp' hs'⟩⟩
 ·rw[<- rt.length,ao]
  exact fL (oW (by omega:_<=2000) (by decide))
end L2
namespace My
open PySem PySem.Spec PyProof.Rows L2
theorem fW{M:List Nat}{a:Nat}(h:a<M.length):(M.map nV)[a]?=some (nV (M.getD a 0)):=by
 rw[bC,aq h,aL,aq h];rfl
theorem Same.qk{H H':Hp}{a:Addr}(s:Same H H')(h:H' a = .none):H a = .none:=by
 cases e:H a with
 |none=>rfl
 |some o=>rw[s a o e]at h;cases h
theorem aae{K:W.Frag}{a:Addr}{xs:List V}{ρ:L2.St}{H1:Hp}(h:ai K H1 a xs):gG (mq K a xs.length) (bq 0) (none::ρ) H1 xs.length (λi=>some (xs.getD (xs.length - 1 - i) .non)::ρ) where
 go:=λi H hi hs=>⟨hi,xs,xs[xs.length - 1 - i],hs.seq h,aq (by omega)⟩
 stop:=λH hs=>rfl
 step:=λi H x H' K hi hs hy hk=>by
  obtain⟨rfl,hx⟩:=hy;have e:=hx xs (hs.seq h);have e2:xs.getD (xs.length - 1 - i) .non=x:=by rw[aL,e];rfl
  refine⟨Wk.set (Wk.refl _) rfl,?_⟩;have:=hk _ (Same.refl _);rw[e2]at this;exact this
theorem MP{β:Type}(r:List Nat)(p:Nat->Bool)(g:Nat->β):((List.range r.length).filter λi=>p (r.getD i 0)).map (λi=>g (r.getD i 0))=(r.filter p).map g:=by
 have e:r=(List.range r.length).map λi=>r.getD i 0:=by
  apply gw
  ·simp
  ·intro i h1 h2
   simp[aL,aq h1]
 conv=>rhs;rw[e]
 rw[rg,bZ];rfl
theorem rev_getD(l:List Nat){i:Nat}(h:i<l.length):l.reverse.getD i 0=l.getD (l.length - 1 - i) 0:=by
 rw[aL,aL,List.getElem?_reverse h]
noncomputable def cH(l:List Nat)(i j:Nat):Bool:=decide (l.getD j 0 % l.getD i 0=0)
theorem c6{l:List Nat}{i j:Nat}:cH l i j=true ↔ l.getD i 0 ∣ l.getD j 0:=by
 unfold cH;rw[cw];exact⟨wO,wY⟩
theorem zD{n:Nat}{l:List Nat}(A:Dv.All n l)(h0:0<n):Good l.length (cH l):=by
 have g:∀i,i<l.length->l.getD i 0 ∣ n:=λi hi=>(A.mem _).mp (Ev.getD_mem hi);refine⟨λi hi=>c6.mpr (iC _),λi j hi hj h1 h2=>Ev.getD_inj A.nd hi hj (Fn (c6.mp h1) (c6.mp h2)),λi j hi hj=>?_,λi j hi hj=>?_⟩
 ·obtain⟨k,hk,e⟩:=Ev.zB ((A.mem (Nat.lcm (l.getD i 0) (l.getD j 0))).mpr (wV (g i hi) (g j hj)))
  refine⟨k,hk,λx hx=>?_⟩;rw[cE,bw,c6,c6,c6,e];exact⟨λh=>⟨dN (Nat.dvd_lcm_left _ _) h,dN (Nat.dvd_lcm_right _ _) h⟩,λh=>wV h.1 h.2⟩
 ·obtain⟨k,hk,e⟩:=Ev.zB ((A.mem (Nat.gcd (l.getD i 0) (l.getD j 0))).mpr (dN (kU _ _) (g i hi)))
  refine⟨k,hk,λx hx=>?_⟩;rw[cE,bw,c6,c6,c6,e];exact⟨λh=>⟨dN h (kU _ _),dN h (wU _ _)⟩,λh=>Nat.dvd_gcd h.1 h.2⟩
theorem Wh(n:Nat):((List.range 1000).filter λj=>decide ((1+j)*(1+j)<=n)&&decide (n % (1+j)=0)).map (λj=>nV (1+j))=(Dv.lesser n).map nV:=by
 unfold Dv.lesser;rw[List.range'_eq_map_range,rg,bZ];rfl
section
variable {P:Program} {w:World} {K:W.Frag} {mg:Str->Option Value} {base:Heap} {f:Addr} {fd:FuncData}
abbrev qN:Stmt:=top 32
theorem Nh:aU ["number","lesser","greater"] ["number"] (aB qN):=⟨rfl,rfl,rfl,by decide +kernel,rfl,by decide +kernel,by decide +kernel⟩
noncomputable def vf:Sp:=λvs H Q _=>∃n:Nat,vs = [.int (n:Int)]/\1<=n/\n<=1000000/\(Dv.divs n).length<=24/\∀L H',Same H H'->H L=none->H' L=some (.lst ((Dv.divs n).map nV))->Q (.ref L) H'
theorem Xj (F:aR K "dividers" "dividers" qN f fd) (T:Txt mg) (nA:mg "reversed" = none) (DN:∃t,mg "MOST_DIVIDED" = some (.int 1000000 t)) (DP:∃t,mg "ROOT_OF_MOST_DIVIDED" = some (.int 1000 t)) (eN:au P w K mg base "is_whole" ["value"] 1 lQ):aM P w K mg base aN 2 f fd ["number"] vf:=by
 refine F.ok Nh (λvs H Q E h=>?_) (λcdv A outer s H vs Q E hr h=>?_)
 ·obtain⟨n,rfl,_⟩:=h
  rfl
 ·obtain⟨n,rfl,h1,hn,d_,kk⟩:=h
  have nd:=Nh.nd;obtain⟨t24,yA⟩:=T.most;obtain⟨tM,eM⟩:=DN;obtain⟨tR,eR⟩:=DP;refine⟨_,(ay (cM (PW.pt (qH (iS (fJ (aQ eN hr rfl (ag (pv 0) ah)))) (qI (iS (Bs jO jO aD (pv 0) (ot (v:=.int 1000000) rfl eM ⟨_,rfl⟩)))))) (az lL) cU)
   (ay (qC (i:=1) nd rfl rfl (own:=["low"]) (fr:=[("number", 0)]) rfl (bQ (aB qN) ["number","lesser","greater"] rfl rfl (by decide +kernel)) (Bp rfl T.range (ag aD (ag (aO eh (ot (v:=.int 1000) rfl eR ⟨_,rfl⟩) aD) ah))) (λ_ _ _ _=>⟨(aZ (i:=0) (by decide +kernel:(["low","number"]:List Str).Nodup) rfl (Or.inl rfl)),(lK (PW.pt (qF (bW jO (aO eu (pv 0) (pv 0)) (pv 1) (bL _)) (qG (bW jN (aO dv (pv 1) (pv 0)) aD (bL _)))))),(pv 0)⟩))
   (ay (qC (i:=2) nd rfl rfl (own:=["low"]) (fr:=[("number", 0)]) rfl (bQ (aB qN) ["number","lesser","greater"] rfl rfl (by decide +kernel)) (Mh (K:=K) rfl rfl nA (ag (pv 1) ah)) (λ_ _ _ _=>⟨(aZ (i:=0) (by decide +kernel:(["low","number"]:List Str).Nodup) rfl (Or.inl rfl)),(lK (bW kB (aO eu (pv 0) (pv 0)) (pv 1) (bL _))),(aO lJ (pv 1) (pv 0))⟩))
   (ay (cM (bW qo (aO eh (cL (d7 (K:=K) rfl) rfl T.len eL (ag (pv 1) ah)) (cL (d7 (K:=K) rfl) rfl T.len eL (ag (pv 2) ah))) (ot (v:=.int 24) rfl yA ⟨_,rfl⟩) (bL _)) (az lL) cU)
   (az (aX (aO uw (pv 1) (pv 2)))))))),?_⟩
  refine⟨_,rfl,⟨(n:Int),rfl⟩,λv H1 s1 hv=>?_⟩;subst hv;refine⟨true,rfl,cI ?_⟩;refine⟨_,rfl,_,_,rfl,rfl,_,rfl,?_⟩;rw[if_pos (cC (by omega))];refine⟨_,_,rfl,rfl,_,rfl,?_⟩;rw[cC (show(n:Int)<=1000000 by omega)];refine cI ?_;dsimp only;show cV _ _ _ [some (.int (n:Int)),none,none] _;refine⟨_,_,rfl,rfl,_,_,rfl,⟨by decide,by decide,by decide,by decide⟩,λD hD=>ni (λj=>decide ((1+j)*(1+j)<=n)&&decide (n % (1+j)=0)) (λj=>nV (1+j)) src_range hD (by decide) (λj H3 Kt Kf hj hs hkt hkf=>?_) (λH2 s2 hl2=>?_)⟩
  ·have hj:j<1000:=hj
   have e1:(1:Int)+(j:Int)=((1+j:Nat):Int):=by push_cast;rfl
   refine⟨_,rfl,_,rfl,_,_,rfl,rfl,.inl ⟨by omega,by omega⟩,_,rfl,_,_,rfl,rfl,_,rfl,?_⟩;rw[e1];have ed:decide (((1+j:Nat):Int)*((1+j:Nat):Int)<=(n:Int))=decide ((1+j)*(1+j)<=n):=by
    congr 1
    apply propext
    rw[<- iW];exact Int.ofNat_le
   rw[ed];refine bO (λh=>?_) (λh=>?_)
   ·refine⟨_,rfl,_,rfl,_,_,rfl,rfl,by omega,rfl,_,rfl,?_⟩
    have em:decide (V.int ((n:Int) % ((1+j:Nat):Int))=V.int 0)=decide (n % (1+j)=0):=by
     rw[<- wt,cE,cw,cw];exact⟨λh=>by have:=V.int.inj h;omega,λh=>by rw[h];rfl⟩
    rw[em];refine bO (λh'=>?_) (λh'=>?_)
    ·exact⟨_,rfl,hkt _ (by rw[h,h'];rfl) (Same.refl _)⟩
    ·exact hkf _ (by rw[h,lZ];simpa using h') (Same.refl _)
   ·have h':decide ((1+j)*(1+j)<=n)=false:=by simpa using h
    exact cI (hkf _ (by rw[h',lY]) (Same.refl _))
  rw[show((1000+1:Int) - 1).toNat=1000 from rfl,Wh]at hl2;have hll:(Dv.lesser n).length<=24:=by unfold Dv.divs at d_;rw[de]at d_;omega
  have hlg:(Dv.greater n).length<=24:=by unfold Dv.divs at d_;rw[de]at d_;omega
  dsimp only[bq];show cV _ _ _ [some (.int (n:Int)),some (.ref D),none] _;refine⟨_,rfl,D,_,rfl,ai.of hl2,λD2 hD2=>ni (λi=>!decide ((Dv.lesser n).reverse.getD i 0*(Dv.lesser n).reverse.getD i 0=n)) (λi=>nV (n / (Dv.lesser n).reverse.getD i 0)) (aae (ai.of hl2)) hD2 (by rw[ao];exact cQ hll) (λi H3 Kt Kf hi hs hkt hkf=>?_) (λH3 s3 hl3=>?_)⟩
  ·rw[ao]at hi
   have hi2:(Dv.lesser n).length - 1 - i<(Dv.lesser n).length:=by omega
   have eg:((Dv.lesser n).map nV).getD (((Dv.lesser n).map nV).length - 1 - i) .non=nV ((Dv.lesser n).reverse.getD i 0):=by
    rw[ao,aL,fW hi2,rev_getD _ hi];rfl
   have hd:=(Dv.lD hn h1).mp (Ev.getD_mem hi2);rw[<- rev_getD _ hi]at hd;generalize (Dv.lesser n).reverse.getD i 0=d at eg hd hkt hkf;have hd0:0<d:=rJ hd.2 h1;have hd1:d<=1000000:=cp (oU h1 hd.2) hn;rw[eg];refine⟨_,rfl,_,rfl,_,_,rfl,rfl,.inl ⟨by omega,by omega⟩,_,rfl,rfl,_,rfl,?_⟩;have ed:(!decide (V.int ((d:Int)*(d:Int))=V.int (n:Int))) = !decide (d*d=n):=by
    congr 1
    rw[<- iW,cE,cw,cw];exact⟨λh=>by have:=V.int.inj h;exact Em.mp this,λh=>by rw[h]⟩
   rw[ed];refine bO (λh=>?_) (λh=>?_)
   ·refine⟨_,rfl,_,rfl,_,_,rfl,rfl,⟨by omega,by omega⟩,?_⟩
    dsimp only;rw[<- q9];exact hkt _ h (Same.refl _)
   ·exact hkf _ (by simpa using h) (Same.refl _)
  have eg:((List.range ((Dv.lesser n).map nV).length).filter λi=>!decide ((Dv.lesser n).reverse.getD i 0*(Dv.lesser n).reverse.getD i 0=n)).map (λi=>nV (n / (Dv.lesser n).reverse.getD i 0))=(Dv.greater n).map nV:=by
   rw[ao,<- List.length_reverse,MP (Dv.lesser n).reverse (λd=>!decide (d*d=n)) λd=>nV (n / d)];unfold Dv.greater;rw[bZ];rfl
  rw[eg]at hl3;dsimp only[bq];show cV _ _ _ [some (.int (n:Int)),some (.ref D),some (.ref D2)] _;have Jc:=s3 _ _ hl2;refine⟨_,rfl,D,_,rfl,.inl (ai.of Jc),_,rfl,D2,_,rfl,.inl (ai.of hl3),_,_,rfl,rfl,_,_,rfl,rfl,_,rfl,?_⟩;have hf:¬ ((24:Int)<((((Dv.lesser n).map nV).length:Nat):Int)+((((Dv.greater n).map nV).length:Nat):Int)):=by
   rw[ao,ao];unfold Dv.divs at d_;rw[de]at d_;omega
  rw[dr hf];refine cI ?_;refine⟨_,rfl,_,rfl,D,D2,_,_,rfl,rfl,Jc,hl3,by rw[ao,ao];exact fL (gO (by omega)),λp hp=>?_⟩;refine kk p _ ((s1.trans (s2.trans s3)).trans (Same.put hp)) (Same.qk (s1.trans (s2.trans s3)) hp) ?_;rw[aA,<- d5];rfl
abbrev uR:Stmt:=top 33
theorem Ni:aU ["number"] ["number"] (aB uR):=⟨rfl,rfl,rfl,by decide +kernel,rfl,by decide +kernel,by decide +kernel⟩
abbrev pR:Pos:=⟨139,38,139,73⟩
abbrev pS:Str:=("dividing" : Str) ++ ".<locals>." ++ "<lambda>"
noncomputable def Cw(C Pt:Addr):Sp:=λvs H Q _=>∃n:Nat,vs = [.int (n:Int)]/\1<=n/\n<=1000000/\(Dv.divs n).length<=24/\H Pt=some (.lam pR pS)/\∀z H',Same H H'->o6 C H' z (Dv.divs n).length (cH (Dv.divs n))->Q (.ref z) H'
theorem Xk {C c Pt:Addr} (F:aR K "dividing" "dividing" uR f fd) (hc:fd.code = .ref c) (tb:TabAt base mg c Pt) (T:Txt mg) (TC:dk K C) (mV:au P w K mg base "dividers" ["number"] 2 vf) (ng:mh P w K mg "order_by" ["things","is_at_most"] 7 1 2 (vE K C)):aM P w K mg base aN 8 f fd ["number"] (Cw C Pt):=by
 refine F.uq hc Ni (λvs H Q E h=>?_) (λA outer s H vs Q E hr h=>?_)
 ·obtain⟨n,rfl,_⟩:=h
  rfl
 ·obtain⟨n,rfl,h1,hn,d_,hP,kk⟩:=h
  have nd:=Ni.nd;obtain⟨A1,_⟩:=Dv.sC hn h1;refine⟨_,(az (aX (Yh (qs:=["one","other"]) (fr:=[]) ng tb rfl hr rfl ⟨bQ (aB uR) ["number"] rfl rfl (by decide +kernel),⟨rfl,rfl,rfl,by decide +kernel,by decide +kernel,by decide +kernel,by decide +kernel⟩,λ_ _ _ _ us hl=>match us,hl with | [_,_],_=>rfl,λ_ _ _ _ _ _ _ _ _=>oq jN (aO dv (pv 1) (pv 0)) aD (bL _)⟩ (λ_=>rfl) qq rfl (aQ mV hr rfl (ag (pv 0) ah))))),?_⟩;refine⟨_,rfl,n,rfl,h1,hn,d_,λlb H1 s1 U0 hlb=>?_⟩;refine⟨s1 _ _ hP,λq H2 s2 hq lh=>?_⟩;have dA:=s1.trans s2;have hpos:1<=(Dv.divs n).length:=List.length_pos_of_mem ((A1.mem 1).mpr (Nat.one_dvd n));refine⟨q,lh,lb,(Dv.divs n).map nV,cH (Dv.divs n),rfl,ai.of (s2 _ _ hlb),by rw[ao];exact hpos,by rw[ao];omega,⟨_,_,_,_,_,lh⟩,by rw[ao];exact zD A1 h1,λi j x y H' Q' hx hy s' hQ=>⟨lh.same s',?_⟩,λz H' s' pZ=>kk z H' (dA.trans s') (by rw[ao]at pZ;exact pZ)⟩;have hi:i<(Dv.divs n).length:=by have:=(bp.mp hx).1;rwa [ao]at this
  have hj:j<(Dv.divs n).length:=by have:=(bp.mp hy).1;rwa [ao]at this
  rw[fW hi]at hx;rw[fW hj]at hy;cases hx;cases hy;have gi:0<(Dv.divs n).getD i 0:=rJ ((A1.mem _).mp (Ev.getD_mem hi)) h1;refine⟨_,rfl,_,rfl,_,_,rfl,rfl,by omega,rfl,?_⟩;have em:decide (V.int ((((Dv.divs n).getD j 0:Nat):Int) % (((Dv.divs n).getD i 0:Nat):Int))=V.int 0)=cH (Dv.divs n) i j:=by
   unfold cH;rw[<- wt,cE,cw,cw];exact⟨λh=>by have:=V.int.inj h;omega,λh=>by rw[h];rfl⟩
  dsimp only;rw[em];exact hQ _ (Same.refl _)
end
noncomputable def ki(r k:Nat):Nat:=if r<=1 then 0 else r+(r - k)+1
theorem W5(f:List Nat)(c:Nat):(List.range (f.map nV).length).map (λj=>nV (f.getD j 0*c))=(f.map λx=>x*c).map nV:=by
 rw[ao,bZ];apply gw
 ·simp
 ·intro i h1 h2
  simp only[ao,d4]at h1;simp[aL,aq h1]
theorem Ct:∀{l m:List Int},l.Perm m->l.Pairwise (·<=·)->m.Pairwise (·<=·)->l=m
 | [],m,h,_,_=>by rw[List.nil_perm.mp h]
 |a::l,[],h,_,_=>by have:=h.length_eq;simp at this
 |a::l,b::m,h,h1,h2=>by
  have p1:=wL.mp h1;have p2:=wL.mp h2;have hab:a=b:=by
   have ha:a∈b::m:=h.mem_iff.mp bx;have hb:b∈a::l:=h.mem_iff.mpr bx
   rcases aY.mp ha with e|ha
   ·exact e
   ·rcases aY.mp hb with e|hb
    ·exact e.symm
    ·exact El (p1.1 b hb) (p2.1 a ha)
  subst hab;rw[Ct (List.perm_cons a |>.mp h) p1.2 p2.2]
theorem jT{t u:TS}{D:Ends}{σ:L2.St}{H:Hp}(C:L2.St->Hp->Prop)(main:∀D':Ends,D'.rt=D.rt->(∀σ' H',C σ' H'->D'.nx σ' H')->t D' σ H)(rest:∀σ' H',C σ' H'->u D σ' H'):cV t u D σ H:=
 main {D with nx:=λσ' H'=>u D σ' H'} rfl rest
section
variable {P:Program} {w:World} {K:W.Frag} {mg:Str->Option Value} {base:Heap} {f:Addr} {fd:FuncData}
abbrev uZ:Stmt:=top 57
theorem NP:aU ["_law_number","_law_found","_law_rest","_law_k","_law_power","_law_grown"] ["_law_number"] (aB uZ):=⟨rfl,rfl,rfl,by decide +kernel,rfl,by decide +kernel,by decide +kernel⟩
noncomputable def CT:Sp:=λvs H Q _=>∃n:Nat,vs = [.int (n:Int)]/\1<=n/\n<=1000000 /\
 ∀L ms H',Same H H'->H L=none->H' L=some (.lst (ms.map V.int))->ms.length=(Dv.divs n).length->((Dv.divs n).length<64->ms=(Dv.divs n).map λx:Nat=>(x:Int))->Q (.ref L) H'
theorem Xy (F:aR K "_law_dividers" "_law_dividers" uZ f fd) (T:Txt mg):aM P w K mg base aN 1 f fd ["_law_number"] CT:=by
 refine F.ok NP (λvs H Q E h=>?_) (λcdv A outer s H vs Q E hr h=>?_)
 ·obtain⟨n,rfl,_⟩:=h
  rfl
 ·obtain⟨n,rfl,h1,hn,kk⟩:=h
  have nd:=NP.nd;have hr0:=hr.mono (bM 0);refine⟨_,(ay (aV (i:=1) nd rfl (Or.inl rfl) (ic (ag aD ah)))
   (ay (aV (i:=2) nd rfl (Or.inl rfl) (pv 0))
   (ay (aV (i:=3) nd rfl (Or.inl rfl) aD)
   (ay (qE bT (bW qo (pv 2) aD (bL _))
   (ay (cM (bW qo (aO eu (pv 3) (pv 3)) (pv 2) (bL _)) (az (aV (i:=3) nd rfl (Or.inl rfl) (pv 2))) cU)
   (ay (aV (i:=4) nd rfl (Or.inr rfl) aD)
   (ay (aV (i:=5) nd rfl (Or.inl rfl) (eA (GL (K:=K) rfl) rfl T.list r6 (ag (pv 1) ah)))
   (ay (qE bT (bW jN (aO dv (pv 2) (pv 3)) aD (bL _))
   (ay (aV (i:=2) nd rfl (Or.inl rfl) (aO lJ (pv 2) (pv 3)))
   (ay (aV (i:=4) nd rfl (Or.inr rfl) (aO eu (pv 4) (pv 3)))
   (az (aV (i:=5) nd rfl (Or.inl rfl) (aO uw (pv 5) (dc (own:=["_law_one"]) (fr:=[("_law_power", 4)]) rfl (bQ (aB uZ) ["_law_number","_law_found","_law_rest","_law_k","_law_power","_law_grown"] rfl rfl (by decide +kernel)) (eB (K:=K) rfl (pv 1)) (λ_ _ _ _=>⟨(aZ (i:=0) (by decide +kernel:(["_law_one","_law_power"]:List Str).Nodup) rfl (Or.inl rfl)),dw,(aO eu (pv 0) (pv 1))⟩))))))))
   (ay (aV (i:=1) nd rfl (Or.inl rfl) (pv 5))
   (az (aV (i:=3) nd rfl (Or.inl rfl) (aO eh (pv 3) aD)))))))))
   (az (aX (cL (GP (K:=K) rfl hr0) rfl T.sorted xZ (ag (pv 1) ah)))))))),?_⟩
  refine⟨by show 1<=sizeLine;decide,λL hL=>?_⟩;refine⟨_,rfl,?_⟩;refine⟨λm σ H2=>∃(g:List Nat) (q r k:Nat) (Lf:Addr) (v4 v5:Option V),σ = [some (.int (n:Int)),some (.ref Lf),some (.int (r:Int)),some (.int (k:Int)),v4,v5]/\Same H H2/\H Lf=none/\H2 Lf=some (.lst (g.map nV))/\Dv.All q g/\q*r=n/\(∀d,d ∣ q->d ∣ r->d=1)/\Dv.g6 k r/\2<=k/\m=ki r k,
   ⟨_,[1],1,n,2,L,none,none,rfl,Same.put hL,hL,aA,Dv.All.one,rH n,λd h _=>Nat.dvd_one.mp h,λd h2 h3=>by omega,by decide,rfl⟩,?_⟩
  rintro m σ H2 ⟨g,q,r,k,Lf,v4,v5,rfl,s2,abj,hLf,hA,hqr,hco,lr,hk2,rfl⟩;have hq0:0<q:=gU λz=>by rw[z]at hqr;omega
  have nU:0<r:=gU λz=>by rw[z]at hqr;omega
  have hqn:q<=1000000:=by
   have:q*1<=q*r:=kW q nU;omega
  have hrn:r<=1000000:=by
   have:1*r<=q*r:=w4 r hq0;omega
  refine⟨_,rfl,_,_,rfl,rfl,_,rfl,bO (λh=>?_) (λh=>?_)⟩
  ·have hr1:1<r:=by have:=fX h;omega
   have zT:=lr.le hr1;refine⟨_,λσ' H' h=>h,?_⟩;show cV _ _ _ [some (.int (n:Int)),some (.ref Lf),some (.int (r:Int)),some (.int (k:Int)),v4,v5] _;refine jT (λσ H3=>H3=H2/\∃k':Nat,σ = [some (.int (n:Int)),some (.ref Lf),some (.int (r:Int)),some (.int (k':Int)),v4,v5]/\Dv.g6 k' r/\2<=k'/\k'<=r/\(k'=k\/k'=r)) (λD' hD' next=>?_) ?_
   ·refine⟨_,rfl,_,rfl,_,_,rfl,rfl,.inl ⟨by omega,by omega⟩,_,rfl,_,_,rfl,rfl,_,rfl,bO (λh=>?_) (λh=>next _ _ ⟨rfl,k,rfl,lr,hk2,zT,.inl rfl⟩)⟩
    have hkk:r<k*k:=by
     have:(r:Int)<(k:Int)*(k:Int):=fX h;rw[<- iW]at this;exact wu.mp this
    exact⟨_,rfl,next _ _ ⟨rfl,r,rfl,lr.big hk2 hkk hr1,hr1,aH r,.inr rfl⟩⟩
   rintro σ H3 ⟨rfl,k',rfl,iO,nQ,UW,hkc⟩;show cV _ _ _ [some (.int (n:Int)),some (.ref Lf),some (.int (r:Int)),some (.int (k':Int)),v4,v5] _;refine⟨_,rfl,Lf,_,rfl,.inl (ai.of hLf),λLg hLg=>?_⟩;have sg:=Same.put hLg (o:=.lst (g.map nV));have hg0:H Lg=none:=Same.qk s2 hLg;dsimp only[bq];show cV _ _ _ [some (.int (n:Int)),some (.ref Lf),some (.int (r:Int)),some (.int (k':Int)),some (.int 1),some (.ref Lg)] _;refine⟨λm σ H4=>∃(gr:List Nat) (j r':Nat) (Lr:Addr),σ = [some (.int (n:Int)),some (.ref Lf),some (.int (r':Int)),some (.int (k':Int)),some (.int ((k' ^ j:Nat):Int)),some (.ref Lr)]/\Same H3 H4/\H3 Lr=none/\H4 Lr=some (.lst (gr.map nV))/\Dv.All (q*k' ^ j) gr/\k' ^ j*r'=r/\m=r',
    ⟨r,g,0,r,Lg,rfl,sg,hLg,aA,by rw[w9,ja];exact hA,by rw[w9,rH],rfl⟩,?_⟩
   rintro m σ H4 ⟨gr,j,r',Lr,rfl,s4,Ug,Im,zF,nO,hmr⟩;subst m;have hp0:0<k' ^ j:=w8 (by omega);have tT:0<r':=gU λz=>by rw[z]at nO;omega
   have U9:r'<=r:=by
    have:1*r'<=k' ^ j*r':=w4 r' hp0;omega
   have fH:r' ∣ r:=⟨k' ^ j,by rw[<- nO,cB]⟩;have hpn:k' ^ j<=1000000:=by
    have:k' ^ j*1<=k' ^ j*r':=kW _ tT;omega
   refine⟨_,rfl,_,rfl,_,_,rfl,rfl,by omega,rfl,_,rfl,?_⟩;have em:decide (V.int ((r':Int) % (k':Int))=V.int 0)=decide (r' % k'=0):=by
    rw[<- wt,cE,cw,cw];exact⟨λh=>by have:=V.int.inj h;omega,λh=>by rw[h];rfl⟩
   rw[em];refine bO (λh=>?_) (λh=>?_)
   ·have hd:k' ∣ r':=wO (fX h)
    obtain⟨c,hc⟩:=hd;have hkd:k' ∣ r:=dN ⟨c,hc⟩ fH;have hpr:=iO.prime nQ hkd;have UT:¬ k' ∣ q:=λz=>by have:=hco k' z hkd;omega
    have zX:r' / k'=c:=by rw[hc,rF _ (by omega)]
    have hc0:0<c:=gU λz=>by rw[z]at hc;omega
    have hcl:c<r':=by
     rw[hc];have:1*c<k'*c:=rG (by omega) hc0;omega
    refine⟨_,λσ' H' h=>h,?_⟩;refine⟨_,rfl,_,rfl,_,_,rfl,rfl,⟨by omega,by omega⟩,?_⟩;have e1:(r':Int) / (k':Int)=(c:Int):=by rw[<- q9,zX]
    dsimp only[bq];rw[e1];show cV _ _ _ [some (.int (n:Int)),some (.ref Lf),some (.int (c:Int)),some (.int (k':Int)),some (.int ((k' ^ j:Nat):Int)),some (.ref Lr)] _;refine⟨_,rfl,_,rfl,_,_,rfl,rfl,.inl ⟨by omega,by omega⟩,?_⟩;have e2:((k' ^ j:Nat):Int)*(k':Int)=((k' ^ (j+1):Nat):Int):=by rw[<- iW,iD]
    dsimp only[bq];rw[e2];show qX _ _ _ [some (.int (n:Int)),some (.ref Lf),some (.int (c:Int)),some (.int (k':Int)),some (.int ((k' ^ (j+1):Nat):Int)),some (.ref Lr)] _;have Ik:=s4 _ _ hLf;have hgl:=hA.len hqn hq0;have U6:k' ^ (j+1)*c=r:=by rw[iD,dX,<- hc];exact nO
    have hpl:k' ^ (j+1)<=1000000:=by
     have:k' ^ (j+1)*1<=k' ^ (j+1)*c:=kW _ hc0;omega
    refine⟨_,rfl,_,rfl,Lf,rfl,⟨_,ai.of Ik⟩,λD hD=>fu (λi=>nV (g.getD i 0*k' ^ (j+1))) (src_list (ai.of Ik)) hD (by rw[ao];exact gO (by omega)) (λi H5 Kt hi hs kt=>?_) (λH5 s5 kx=>?_)⟩
    ·rw[ao]at hi
     refine⟨_,rfl,_,rfl,_,_,by rw[aL,fW hi];rfl,rfl,.inr ⟨by omega,by omega⟩,?_⟩;dsimp only;rw[<- iW];exact kt _ (Same.refl _)
    ·rw[W5]at kx
     have U7:q*k' ^ j<=1000000:=by
      have h3:q*k' ^ j*1<=q*k' ^ j*r':=kW _ tT;have e4:q*k' ^ j*r'=q*r:=by rw[dX,nO]
      omega
     have hgr:=zF.len U7 (w6 hq0 hp0);refine⟨Lr,D,_,_,rfl,rfl,s5 _ _ Im,kx,by rw[ao,ao,ao];exact fL (gO (by omega)),λp hp=>?_⟩;refine⟨c,by omega,gr++g.map λx=>x*k' ^ (j+1),j+1,c,p,rfl,(s4.trans s5).trans (Same.put hp),Same.qk (s4.trans s5) hp,?_,hA.grow zF nQ hpr UT hq0,U6,rfl⟩;rw[aA,d5]
   ·have hnd:¬ k' ∣ r':=λz=>h (cC (wY z))
    dsimp only[bq];refine⟨_,rfl,?_⟩;dsimp only[bq];refine⟨_,rfl,_,_,rfl,rfl,?_⟩;have e3:(k':Int)+1=((k'+1:Nat):Int):=by push_cast;rfl
    dsimp only;rw[e3];have hm':ki r' (k'+1)<ki r k:=by
     unfold ki;rw[if_neg (show ¬ r<=1 by omega)]
     by_cases h5:r'<=1
     ·rw[if_pos h5];omega
     ·rw[if_neg h5]
      rcases hkc with rfl|rfl
      ·have:k'+1<=r':=by
        apply i_
        intro z
        by_cases h6:r'=k'
        ·exact hnd (by rw[h6];exact iC _)
        ·exact iO r' (by omega) (by omega) fH
       omega
      ·exfalso
       by_cases h6:r'=k'
       ·exact hnd (by rw[h6];exact iC _)
       ·exact iO r' (by omega) (by omega) fH
    refine⟨_,hm',gr,q*k' ^ j,r',k'+1,Lr,_,_,rfl,s2.trans s4,Same.qk s2 Ug,Im,zF,by rw[dX,nO];exact hqr,λd h5 h6=>?_,λd h5 h6 h7=>?_,by omega,rfl⟩
    ·
     by_cases hj0:k' ∣ d
     ·exact absurd (dN hj0 h6) hnd
     ·by_cases UL:j=0
      ·subst UL
       rw[w9,ja]at h5;exact hco d h5 (dN h6 fH)
      ·have hkd:k' ∣ r:=⟨k' ^ (j - 1)*r',by
        rw[<- dX,<- nO]
        congr 1
        obtain⟨i,rfl⟩:∃i,j=i+1:=⟨j - 1,by omega⟩;rw[iD,Fm,cB]⟩
       have hpr:=iO.prime nQ hkd;have hcp:=(Nat.Coprime.symm ((Nat.Coprime.symm (Dv.sy hpr hj0)).pow_left j));exact hco d (hcp.dvd_of_dvd_mul_right h5) (dN h6 fH)
    ·by_cases h8:d=k'
     ·rw[h8]at h7;exact hnd h7
     ·exact iO d h5 (by omega) (dN h7 fH)
  ·have hr1:r=1:=by
    have:¬ ((1:Int)<(r:Int)):=λz=>h (cC z);omega
   subst hr1;rw[ja]at hqr;subst hqr;obtain⟨A1,asc⟩:=Dv.sC hn h1;have hpm:=hA.perm A1;refine⟨_,rfl,Lf,g.map (λx:Nat=>(x:Int)),rfl,ai.of (by rw[bZ];exact hLf),by rw[ao];exact hA.len hn h1,λp ms hp hml hms=>?_⟩;refine kk p ms _ (s2.trans (Same.put hp)) (Same.qk s2 hp) aA (by rw[hml,ao,hpm.length_eq]) λh64=>?_;obtain⟨hmp,hmo⟩:=hms (by rw[ao,hpm.length_eq];exact h64);exact Ct (hmp.trans (hpm.map _)) hmo (fh.mpr (asc.imp λh=>by omega))
end
end My
namespace Dv
noncomputable def Pr(p:Nat):Prop:=2<=p/\∀d,d ∣ p->d=1\/d=p
noncomputable def pd:List Nat->Nat
 | []=>1
 |p::ps=>p*pd ps
structure PL (x:Nat) (ps:List Nat):Prop where
 pr:∀p∈ps,Pr p
 eq:pd ps=x
theorem Pr.mul{p a b:Nat}(hp:Pr p)(h:p ∣ a*b):p ∣ a\/p ∣ b:=by
 by_cases ha:p ∣ a
 ·exact .inl ha
 ·exact .inr (Nat.Coprime.dvd_of_dvd_mul_left (sy hp.2 ha).symm h)
theorem Pr.mem{p:Nat}(hp:Pr p):∀{ps:List Nat},(∀q∈ps,Pr q)->p ∣ pd ps->p∈ps
 | [],_,h=>by
  have:p=1:=Nat.dvd_one.mp h;have:=hp.1;omega
 |q::ps,hq,h=>by
  rcases hp.mul h with h|h
  ·rcases(hq q (bx ..)).2 p h with e|e
   ·have:=hp.1
    omega
   ·exact e▸bx ..
  ·exact bu _ (hp.mem (λq h=>hq q (bu _ h)) h)
theorem Bm{p:Nat}:∀{ps:List Nat},p∈ps->p*pd (ps.erase p)=pd ps
 | [],h=>nomatch h
 |q::ps,h=>by
  by_cases e:q=p
  ·subst e
   rw[List.erase_cons_head];rfl
  ·rw[List.erase_cons_tail (by simpa using e)]
   have hm:p∈ps:=by
    rcases aY.mp h with z|z
    ·exact absurd z.symm e
    ·exact z
   show p*(q*pd (ps.erase p))=q*pd ps;rw[<- Bm hm];rw[w5]
theorem L9:∀{ps:List Nat},(∀p∈ps,Pr p)->0<pd ps
 | [],_=>Nat.one_pos
 |p::ps,h=>w6 (dD (by decide) (h p (bx ..)).1) (L9 λq hq=>h q (bu _ hq))
theorem Bn:∀{ps:List Nat},(∀p∈ps,Pr p)->2 ^ ps.length<=pd ps
 | [],_=>aH _
 |p::ps,h=>by
  rw[dW,iD,cB];exact oZ (h p (bx ..)).1 (Bn λq hq=>h q (bu _ hq))
noncomputable def c7:List Nat->Nat
 | []=>1
 |p::ps=>c7 ps*(ps.count p+1)
noncomputable def fct:Nat->Nat
 |0=>1
 |n+1=>(n+1)*fct n
theorem tE:∀ps:List Nat,0<c7 ps
 | []=>Nat.one_pos
 |_::ps=>w6 (tE ps) (Fu _)
theorem HF{ps qs:List Nat}(h:ps.Perm qs):c7 ps=c7 qs:=by
 induction h with
 |nil=>rfl
 |cons p h ih =>
  show c7 _*_=c7 _*_;rw[ih,h.count_eq]
 |swap p q l =>
  show c7 l*(l.count p+1)*((p::l).count q+1)=c7 l*(l.count q+1)*((q::l).count p+1)
  by_cases e:p=q
  ·subst e;rfl
  ·rw[wz e,wz (b_ e),dX,cB (l.count p+1),<- dX]
 |trans _ _ h1 h2=>exact h1.trans h2
theorem Tc{p:Nat}{ps:List Nat}(h:p∈ps):c7 ps=c7 (ps.erase p)*ps.count p:=by
 have hp:=List.perm_cons_erase h;rw[HF hp,hp.count_eq,Eu];rfl
theorem G_{p:Nat}:∀{D:List Nat},D.Nodup->p∈D->D.count p=1
 |q::D,hn,h=>by
  obtain⟨h1,h2⟩:=fe.mp hn
  by_cases e:q=p
  ·subst e
   rw[Eu,List.count_eq_zero_of_not_mem h1]
  ·rw[wz e]
   rcases aY.mp h with z|z
   ·exact absurd z.symm e
   ·exact G_ h2 z
theorem sum_add{α:Type}(f g:α->Nat):∀l:List α,(l.map λx=>f x+g x).sum=(l.map f).sum+(l.map g).sum
 | []=>rfl
 |x::l=>by
  rw[bA,bA,bA,iA,iA,iA,sum_add f g l];omega
theorem O2(p:Nat):∀D:List Nat,(D.map λq=>if p=q then 1 else 0).sum=D.count p
 | []=>rfl
 |q::D=>by
  rw[bA,iA,O2 p D]
  by_cases e:p=q
  ·subst e
   rw[if_pos rfl,Eu];omega
  ·rw[if_neg e,wz (b_ e)]
   omega
theorem Ha{D:List Nat}(hn:D.Nodup):∀{ps:List Nat},(∀p∈ps,p∈D)->(D.map λp=>ps.count p).sum=ps.length
 | [],_=>by
  rw[show(D.map λp=>([]:List Nat).count p)=D.map λ_=>0 from rfl]
  induction D with
  |nil=>rfl
  |cons d D ih=>rw[bA,iA,ih (fe.mp hn).2 (λ_ z=>nomatch z)];rfl
 |p::ps,h=>by
  have e:(D.map λq=>(p::ps).count q)=D.map λq=>ps.count q+if p=q then 1 else 0:=by
   refine fc λq _=>?_;rw[List.count_cons]
   congr 1
   by_cases e:p=q
   ·subst e;simp
   ·simp[e]
  rw[e,sum_add,Ha hn λz hz=>h z (bu _ hz),O2,G_ hn (h p (bx ..)),dW]
theorem Dq(c:Nat){α:Type}(f:α->Nat):∀l:List α,(l.map f).sum*c=(l.map λx=>f x*c).sum
 | []=>Nat.zero_mul _
 |x::l=>by
  rw[bA,iA,Nat.add_mul,Dq c f l];rfl
theorem W'{f n W:Nat}{p:Nat}{ps:List Nat}(h:f*c7 ps=fct n)(hW:W*c7 (ps++[p])=fct (n+1)):f*(n+1) / (ps.count p+1)=W:=by
 have hp:(ps++[p]).Perm (p::ps):=Fe p ps;have e:W*(ps.count p+1)=f*(n+1):=by
  refine wQ (tE ps) ?_;have h1:c7 ps*(W*(ps.count p+1))=fct (n+1):=by
   rw[<- hW,HF hp];show _=W*(c7 ps*(ps.count p+1));rw[w5]
  rw[h1];show(n+1)*fct n=_;rw[<- h,cB f (n+1),w5,w5 (c7 ps) (n+1) f,cB f,dX]
 rw[<- e,wZ _ (Fu _)]
theorem Td{a b:Nat}(h:a<=b):fct a<=fct b:=by
 induction b with
 |zero=>rw[Nat.le_zero.mp h];exact aH _
 |succ b ih =>
  rcases wW a (b+1)with q|q
  ·exact cp (ih (by omega)) (Nat.le_mul_of_pos_left _ (Fu _))
  ·rw[show a=b+1 by omega];exact aH _
end Dv
namespace L2
open PySem PySem.Spec PyProof.Rows
section
variable {X:Cx} {k v:Expr} {tk tv:TE} {pos:Pos}
end
noncomputable def fb(h:Heap)(d:Addr)(ks:List Value)(ep:Nat):Prop:=∃o es,h.get? d=some o/\o.ExactDict/\o.data = .dict es ep/\es.toList.map (·.key)=ks
theorem fb.mv{h h':Heap}{d:Addr}{ks:List Value}{ep:Nat}(x:fb h d ks ep)(e:∀o,h.get? d=some o->h'.get? d=some o):fb h' d ks ep:=let⟨o,es,ho,r⟩:=x;⟨o,es,e _ ho,r⟩
theorem fb.lt{h:Heap}{d:Addr}{ks:List Value}{ep:Nat}(x:fb h d ks ep):d<h.objs.size:=let⟨_,_,ho,_⟩:=x;aP ho
theorem fb.ty {s:Shared} {d:Addr} {ks:List Value} {ep:Nat} (x:fb s.heap d ks ep):s.TypeIs (.ref d) "dict" :=let⟨o,_,ho,hc,_⟩:=x;⟨o,ho,hc.1⟩
section
variable {prog:Program} {w:World} {A:Around} {E:Value->Shared->Prop} {s:Shared} {d it:Addr} {ks:List Value} {ep i:Nat}
theorem SF{Q:Value->Shared->Prop}(lo:(d==sysModules)=false)(x:fb s.heap d ks ep)
  (q:Q (.ref s.heap.objs.size) {s with heap:=s.heap.push {cls:=.type "dict_keyiterator", data:=.fields #[.ref d,.int 0 0,.int ks.length 0,.int ep 0]}}):wpAny (model prog w) A (pyIter (.ref d)) Q E s:=by
 have T:=x.ty;obtain⟨o,es,e1,e2,e3,rfl⟩:=x;have z:es.size=(es.toList.map (·.key)).length:=by simp
 refine Gb T F.slot_dict_iter (fN F.slot_dict_iter T F.entry_dict_iter (ae ?_) (F.args_dict_iter_1 _));unfold Builtin.Dict.dictSlotNone;refine ae (wpAny_notOrdered_dict T ?_);show wpAny (model prog w) A.in1 (pure (Value.ref d)) _ _ s;refine ak (show wpAny (model prog w) A.in1 (Builtin.Dict.showsAll d>>=_) _ _ s from ?_);unfold Builtin.Dict.showsAll;rw[if_neg (by simp[lo])];refine ae (ak (ae (FX e1 e3 (ae (FZ e1 e3 (ae (ji (ak ⟨_,rfl,"dict_keyiterator", _,⟨_,bf _ rfl,rfl⟩,rN.lookup,?_⟩))))))));rw[<- z]at q;exact q
theorem Sz{Q:Option Value->Shared->Prop}{key:Value}(hit:s.heap.IsKeyIter it d i ks.length ep)(x:fb s.heap d ks ep)(hx:ks[i]?=some key)
  (q:∀h',h'.IsKeyIter it d (i+1) ks.length ep->Heap.SameBut it s.heap h'->Q (some key) {s with heap:=h'}):wpAny (model prog w) A (pyNext (.ref it)) Q E s:=by
 have T:=hit.typeIs;obtain⟨o,ho,hc,hd⟩:=id hit;obtain⟨od,es,e1,e2,e3,rfl⟩:=x;have z:es.size=(es.toList.map (·.key)).length:=by simp
 have hi:i<es.size:=by have:=(bp.mp hx).1;omega
 have hkey:es[i].key=key:=by
  have:=(bp.mp hx).2;simpa using this
 have own:Builtin.Dict_items.ownsTuple "dict_keyiterator" = false:=by decide
 unfold pyNext;refine ae (jf (jg (name:=Str.ofString "__next__") T rN (fN rN T QH (ae (ak (ae (ae ?_)))) (QD _))));refine ae (xM T (ak (ae (ph ho hd ?_))));simp only[own,e9,dQ];show wpAny (model prog w) A.in1 (if(Value.ref d==Value.none)=true then _ else _) _ _ s;rw[if_neg (by exact Bool.false_ne_true)];refine ae (ak (ae (FX e1 e3 ?_)));rw[if_neg (by rw[z];simp)];refine ae (ak (ae (FZ e1 e3 ?_)));rw[if_neg (by simp)];refine ak ?_;simp only[show ¬ ((i:Int)<0)from by omega,dQ,ck,iV hi];refine ae (ae (xM T (ak (ae (wpAny_isOneOf_keyiter T ?_)))));show wpAny (model prog w) A.in1 (setField (.ref it) 1 (rawInt ((i:Int)+1))>>=_) _ _ s;refine ae (xJ ho hd (by simp) ?_);have h2:(s.heap.update it (Obj.mapFields (·.setIfInBounds 1 (rawInt ((i:Int)+1))))).IsKeyIter it d (i+1) (es.toList.map (·.key)).length ep:=
  ⟨_,pe _ ho (Obj.isFreed_of_fields (xt hd _)),(Obj.cls_mapFields ..).trans hc,by rw[xt hd];simp[rawInt]⟩
 refine ae (fk (ae (wpAny_isOneOf_keyiter (s:={s with heap:=s.heap.update it (Obj.mapFields (·.setIfInBounds 1 (rawInt ((i:Int)+1))))}) h2.typeIs ?_)));show wpAny (model prog w) A.in1 (pure es[i].key) _ _ _;rw[hkey];exact ak (ak ⟨_,rfl,ak (q _ h2 (o_ ..))⟩)
theorem Sy{Q:Option Value->Shared->Prop}(hh:A.handled=none)(hit:s.heap.IsKeyIter it d i ks.length ep)(x:fb s.heap d ks ep)(hx:ks.length<=i)
  (q:∀h',Heap.ExtBut it s.heap h'->Q none {s with heap:=h'}):wpAny (model prog w) A (pyNext (.ref it)) Q E s:=by
 have T:=hit.typeIs;obtain⟨o,ho,hc,hd⟩:=id hit;obtain⟨od,es,e1,e2,e3,rfl⟩:=x;have z:es.size=(es.toList.map (·.key)).length:=by simp
 have own:Builtin.Dict_items.ownsTuple "dict_keyiterator" = false:=by decide
 unfold pyNext;refine ae (jf (jg (name:=Str.ofString "__next__") T rN (fN rN T QH (ae (ak (ae (ae ?_)))) (QD _))));refine ae (xM T (ak (ae (ph ho hd ?_))));simp only[own,e9,dQ];show wpAny (model prog w) A.in1 (if(Value.ref d==Value.none)=true then _ else _) _ _ s;rw[if_neg (by exact Bool.false_ne_true)];refine ae (ak (ae (FX e1 e3 ?_)));rw[if_neg (by rw[z];simp)];refine ae (ak (ae (FZ e1 e3 ?_)));rw[if_neg (by simp)];refine ak ?_;simp only[show ¬ ((i:Int)<0)from by omega,dQ,ck,wa (show es.size<=i by omega)];refine ae (ae (xM T (ak ?_)));show wpAny (model prog w) A.in1 (setField (.ref it) 0 .none>>=_) _ _ s;refine ae (xJ ho hd (by simp) ?_);show wpAny (model prog w) A.in1 (newExc (.type "StopIteration") []>>=_) _ _ _;refine ae ?_;simp only[newExc,newTuple];refine ae (ji (ae (m:=firstArgMember _ _) (xG (a:=Value.none) (by first|rfl | (simp only[firstArgMember];rfl)) (ji ?_ (by size_fits)))) (by size_fits));simp only[raiseNew];refine ae (wpAny_handled ?_);rw[show A.in1.handled=none from hh];refine ae (ak (wpAny_throw ?_));refine ae (rR (T:= "StopIteration") (b:=true) ⟨_,bf _ rfl,rfl⟩ xC ?_);exact ak (q _ (((o_ ..).extBut.push _).push _))
end
theorem SJ{prog:Program}{w:World}{A:Around}(hh:A.handled=none)(I d:Addr)(hne:d≠I)(ks:List Value)(ep:Nat):Walks prog w A I [I,d] [I] ks.length (λi v=>ks[i]?=some v) (λi h=>h.IsKeyIter I d i ks.length ep/\fb h d ks ep) where
 sub:=λb hb=>by simp at hb;simp[hb]
 frame:=λ_ _ _ st hk=>⟨st.1.at λo e=>hk I (by simp) o e,st.2.mv λo e=>hk d (by simp) o e⟩
 item:=λi s Q E hi st hQ=>Sz st.1 st.2 (aq hi) λh' h1 h2=>hQ _ h' s.toks (aq hi) ⟨h1,st.2.mv λo e=>h2.extBut d o hne e⟩ λb o hb e=>h2.extBut b o (λz=>hb (by simp[z])) e
 done:=λs Q E st hQ=>Sy hh st.1 st.2 (aH _) λh' h1=>hQ h' s.toks λb o hb e=>h1 b o (λz=>hb (by simp[z])) e
 self:=λ_ _ _ _ st hQ=>wpAny_pyIter_keyiter st.1 hQ
theorem Hz {prog:Program} {w:World} {d:Addr} {ks:List Value} {ep:Nat} (lo:(d==sysModules)=false):W.KdlSrc prog w "dict" d d ks.length (λi v=>ks[i]?=some v) (λh=>fb h d ks ep) where
 type:=λ_ x=>x.ty
 there:=λ_ x=>⟨x.lt,x.lt⟩
 keep:=λ_ _ x hk=>x.mv λo e=>hk d (.inl rfl) o e
 notList:=by decide
 notTuple:=by decide
 hint:=λ_ _ _ _ x hq=>W.kdl_hint_dict x.ty hq
 iter:=λ_ _ hh x=>⟨_,_,(λ_ _ hq=>SF lo x hq),SJ hh _ d (a_ x.lt) ks ep,⟨⟨_,bf _ rfl,rfl,rfl⟩,x.mv λo e=>aI _ e⟩⟩
end L2
namespace L2
open PySem PySem.Spec PyProof.Rows PySem.Builtin PySem.Builtin.Str
abbrev tuples' (b:Bool):SortKind:=(sortPriv% PySem.Builtin.KeyKind.tuples) b
section
variable {prog:Program} {w:World} {A:Around} {E:Value->Shared->Prop} {s:Shared}
theorem XZ{b:Bool}{i j:Int}{t u:Tok}{Q:Bool->Shared->Prop}(h:Q (decide (i<j)) s):wpAny (model prog w) A (oneLt' b (.int i t) (.int j u)) Q E s:=by
 cases b with
 |true=>exact oneLt_int h
 |false =>
  rw[oneLt'_eq];simp only[e9,dQ];refine ae ?_;exact PyProof.Rows.lt_int (gZ h)
end
end L2
namespace L2
open PySem PySem.W PyProof.Rows
section
variable {α β:Type} {n:Nat} {rk:Nat->Int}
noncomputable def bY(n:Nat)(rk:Nat->Int):KasT α->(α->Prop)->Prop
 |.ret a,Q=>Q a
 |.ask i j k,Q=>i<n/\j<n/\bY n rk (k (decide (rk i<rk j))) Q
theorem bY.mono{Q Q':α->Prop}:∀{t:KasT α},bY n rk t Q->(∀a,Q a->Q' a)->bY n rk t Q'
 |.ret a,h,q=>q a h
 |.ask i j k,⟨h1,h2,h3⟩,q=>⟨h1,h2,bY.mono h3 q⟩
theorem bY.bind{f:α->KasT β}{Q:β->Prop}:∀{t:KasT α},bY n rk t (λa=>bY n rk (f a) Q)->bY n rk (t.bind f) Q
 |.ret a,h=>h
 |.ask i j k,⟨h1,h2,h3⟩=>⟨h1,h2,bY.bind h3⟩
theorem bY.wp{cmp:Nat->Nat->(Bool->Shared->Prop)->Shared->Prop}{s:Shared}{Q:α->Prop}(hc:∀i j C,i<n->j<n->C (decide (rk i<rk j)) s->cmp i j C s):∀{t:KasT α},bY n rk t Q->t.kasWp cmp (λa s'=>s'=s/\Q a) s
 |.ret a,h=>⟨rfl,h⟩
 |.ask i j k,⟨h1,h2,h3⟩=>hc i j _ h1 h2 (bY.wp hc h3)
end
noncomputable def Pm(n:Nat)(p:Array Nat):Prop:=p.Perm (List.range n).toArray
theorem Pm.size{n:Nat}{p:Array Nat}(h:Pm n p):p.size=n:=by
 have:=h.size_eq;simpa using this
theorem Pm.lt{n i:Nat}{p:Array Nat}(h:Pm n p)(hi:i<n):p.getD i 0<n:=by
 have hs:=h.size;have hi':i<p.size:=by omega
 have e:p.getD i 0=p[i]:=by simp[Array.getD,hi']
 have hm:p[i]∈(List.range n).toArray:=h.mem_iff.mp (wc hi');rw[e];simpa using hm
theorem Pm.ud{n i j d:Nat}{p:Array Nat}(h:Pm n p):Pm n (mirror p i j d):=(mirror_perm p i j d).trans h
theorem Pm.Rk{n i j:Nat}{p:Array Nat}(h:Pm n p):Pm n (bubble p i j):=(bubble_perm p i j).trans h
theorem lg(p:Array Nat)(i:Nat):p.getD i 0=p[i]?.getD 0:=by
 by_cases h:i<p.size
 ·simp[Array.getD,h]
 ·simp[Array.getD,h]
theorem zA{p:Array Nat}{i j:Nat}(hj:j<=p.size)(k:Nat):(kas_rev p i j).getD k 0=if i<=k/\k<j then p.getD (i+j - 1 - k) 0 else p.getD k 0:=by
 unfold kas_rev;rw[lg,getElem?_mirror_all hj,lg,lg]
 split<;>rfl
theorem Ig{p:Array Nat}{k l:Nat}(hk:k<p.size)(hl:l<=k)(i:Nat):(bubble p k (k - l)).getD i 0=if i=l then p.getD k 0 else if l<i/\i<=k then p.getD (i - 1) 0 else p.getD i 0:=by
 rw[lg,getElem?_bubble hk _ (Nat.sub_le _ _),lg,lg,lg];have e:k - (k - l)=l:=by omega
 rw[e]
 repeat' split
 all_goals rfl
section
variable {n:Nat} {rk:Nat->Int} {p:Array Nat}
noncomputable def Up(rk:Nat->Int)(p:Array Nat)(m:Nat):Prop:=∀i j,i<=j->j<m->rk (p.getD i 0)<=rk (p.getD j 0)
noncomputable def Dn(rk:Nat->Int)(p:Array Nat)(m:Nat):Prop:=∀i j,i<=j->j<m->rk (p.getD j 0)<=rk (p.getD i 0)
theorem Up.rev{m:Nat}(hm:m<=p.size)(h:Dn rk p m):Up rk (kas_rev p 0 m) m:=λi j h1 h2=>by
 rw[zA hm,zA hm,if_pos ⟨bM _,by omega⟩,if_pos ⟨bM _,h2⟩];exact h _ _ (by omega) (by omega)
theorem Bw{i j:Nat}(hj:j<=p.size)(heq:∀k,i<=k->k<j->rk (p.getD k 0)=rk (p.getD (j - 1) 0))(k:Nat):rk ((kas_rev p i j).getD k 0)=rk (p.getD k 0):=by
 rw[zA hj]
 split
 ·rw[heq (i+j - 1 - k) (by omega) (by omega),heq k (by omega) (by omega)]
 ·rfl
theorem xR(P:Pm n p):∀(f a:Nat),1<=a->a+f<=n->Up rk p a->bY n rk (kas_asc p f a) λm=>a<=m/\m<=a+f/\Up rk p m/\(m<a+f->rk (p.getD m 0)<rk (p.getD (m - 1) 0))
 |0,a,h1,h2,h3=>⟨aH _,aH _,h3,λz=>absurd z (gE _)⟩
 |f+1,a,h1,h2,h3=>by
  refine⟨P.lt (by omega),P.lt (by omega),?_⟩
  by_cases c:rk (p.getD a 0)<rk (p.getD (a - 1) 0)
  ·rw[cC c];dsimp only;rw[if_pos rfl]
   exact⟨aH _,by omega,h3,λ_=>c⟩
  ·rw[dr c];dsimp only;rw[if_neg Bool.false_ne_true]
   refine(xR P f (a+1) (by omega) (by omega) λi j hij hj=>?_).mono λm ⟨z1,z2,z3,z4⟩=>⟨by omega,by omega,z3,λz=>z4 (by omega)⟩
   by_cases hj2:j=a
   ·subst hj2
    by_cases hi:i=j
    ·rw[hi];exact j0 _
    ·exact q8 (h3 i (j - 1) (by omega) (by omega)) (q_.mp c)
   ·exact h3 i j hij (by omega)
theorem xS:∀(f:Nat) (p:Array Nat) (a q:Nat),Pm n p->q+1<=a->a+f<=n->Dn rk p a->(∀k,a - (q+1)<=k->k<a->rk (p.getD k 0)=rk (p.getD (a - 1) 0))->bY n rk (kas_desc f p a q) λr=>Pm n r.1/\a<=r.2.1/\r.2.1<=a+f/\r.2.2+1<=r.2.1/\Dn rk r.1 r.2.1/\∀k,r.2.1 - (r.2.2+1)<=k->k<r.2.1->rk (r.1.getD k 0)=rk (r.1.getD (r.2.1 - 1) 0)
 |0,p,a,q,P,h1,h2,h3,h4=>⟨P,aH _,aH _,h1,h3,h4⟩
 |f+1,p,a,q,P,h1,h2,h3,h4=>by
  have hs:=P.size;refine⟨P.lt (by omega),P.lt (by omega),?_⟩
  by_cases c:rk (p.getD a 0)<rk (p.getD (a - 1) 0)
  ·rw[cC c];dsimp only;rw[if_pos rfl]
   have go:∀p':Array Nat,Pm n p'->(∀k,rk (p'.getD k 0)=rk (p.getD k 0))->bY n rk (kas_desc f p' (a+1) 0) λr=>Pm n r.1/\a<=r.2.1/\r.2.1<=a+(f+1)/\r.2.2+1<=r.2.1/\Dn rk r.1 r.2.1/\∀k,r.2.1 - (r.2.2+1)<=k->k<r.2.1->rk (r.1.getD k 0)=rk (r.1.getD (r.2.1 - 1) 0):=by
    intro p' P' e;refine(xS f p' (a+1) 0 P' (by omega) (by omega) (λi j hij hj=>?_) λk k1 k2=>?_).mono λr ⟨z1,z2,z3,z4⟩=>⟨z1,by omega,by omega,z4⟩
    ·rw[e,e]
     by_cases hj2:j=a
     ·subst hj2
      by_cases hi:i=j
      ·rw[hi];exact j0 _
      ·exact q8 (wq c) (h3 i (j - 1) (by omega) (by omega))
     ·exact h3 i j hij (by omega)
    ·obtain rfl:k=a+1 - 1:=by omega
     rfl
   split
   ·exact go _ P.ud λk=>Bw (by omega) (λk k1 k2=>h4 k k1 k2) k
   ·exact go p P λ_=>rfl
  ·rw[dr c];dsimp only;rw[if_neg Bool.false_ne_true]
   refine⟨P.lt (by omega),P.lt (by omega),?_⟩
   by_cases d:rk (p.getD (a - 1) 0)<rk (p.getD a 0)
   ·rw[cC d];dsimp only;rw[if_pos rfl]
    exact⟨P,aH _,by show a<=a+(f+1);omega,h1,h3,h4⟩
   ·rw[dr d];dsimp only;rw[if_neg Bool.false_ne_true]
    have e:rk (p.getD a 0)=rk (p.getD (a - 1) 0):=El (q_.mp d) (q_.mp c);refine(xS f p (a+1) (q+1) P (by omega) (by omega) (λi j hij hj=>?_) λk k1 k2=>?_).mono λr ⟨z1,z2,z3,z4⟩=>⟨z1,by omega,by omega,z4⟩
    ·by_cases hj2:j=a
     ·subst hj2
      by_cases hi:i=j
      ·rw[hi];exact j0 _
      ·rw[e];exact h3 i (j - 1) (by omega) (by omega)
     ·exact h3 i j hij (by omega)
    ·rw[show a+1 - 1=a from rfl]
     by_cases hk:k=a
     ·rw[hk]
     ·rw[e];exact h4 k (by omega) (by omega)
noncomputable def wg(n:Nat)(rk:Nat->Int)(nrem:Nat)(r:Nat × Array Nat):Prop:=Pm n r.2/\1<=r.1/\r.1<=nrem/\Up rk r.2 r.1
theorem Gs{a nrem:Nat}(P:Pm n p)(h1:1<=a)(h2:a<=nrem)(h3:nrem<=n)(h4:Dn rk p a):bY n rk (kas_tail3 a nrem p) (wg n rk nrem):=by
 have hs:=P.size;have P':Pm n (kas_rev p 0 a):=P.ud;exact bY.bind ((xR P' (nrem - a) a h1 (by omega) (Up.rev (by omega) h4)).mono λm ⟨z1,z2,z3,_⟩=>⟨P',by omega,by show m<=nrem;omega,z3⟩)
theorem Gr{a nrem:Nat}(P:Pm n p)(h1:a+1<=nrem)(h3:nrem<=n)(h4:Dn rk p (a+1)):bY n rk (kas_descPart a nrem p) (wg n rk nrem):=by
 refine bY.bind ((xS (nrem - (a+1)) p (a+1) 0 P (by omega) (by omega) h4 λk k1 k2=>?_).mono λr ⟨z1,z2,z3,z4,z5,z6⟩=>?_)
 ·obtain rfl:k=a+1 - 1:=by omega
  rfl
 ·have hs:=z1.size
  split
  ·refine Gs z1.ud (by omega) (by omega) h3 λi j hij hj=>?_
   have q:=Bw (rk:=rk) (p:=r.1) (i:=r.2.1 - (r.2.2+1)) (j:=r.2.1) (by omega) z6;rw[q,q];exact z5 i j hij hj
  ·exact Gs z1 (by omega) (by omega) h3 z5
theorem QZ{nrem:Nat}(P:Pm n p)(h1:1<=nrem)(h3:nrem<=n):bY n rk (kas_count nrem p) (wg n rk nrem):=by
 have hs:=P.size;refine bY.bind ((xR P (nrem - 1) 1 (aH _) (by omega) λi j hij hj=>?_).mono λm ⟨z1,z2,z3,z4⟩=>?_)
 ·obtain rfl:i=j:=by omega
  exact j0 _
 ·split
  ·exact⟨P,z1,by show m<=nrem;omega,z3⟩
  ·rename_i ne
   have hm:m<nrem:=by
    have:m≠nrem:=λe=>ne (by simp[e]);omega
   have lt:=z4 (by omega)
   split
   ·refine⟨P.lt (by omega),P.lt (by omega),?_⟩
    by_cases c:rk (p.getD 0 0)<rk (p.getD (m - 1) 0)
    ·rw[cC c];dsimp only;rw[if_pos rfl]
     exact⟨P,z1,by show m<=nrem;omega,z3⟩
    ·rw[dr c];dsimp only;rw[if_neg Bool.false_ne_true]
     have all:∀k,k<m->rk (p.getD k 0)=rk (p.getD (m - 1) 0):=λk hk=>El (z3 k (m - 1) (by omega) (by omega)) (q8 (q_.mp c) (z3 0 k (by omega) hk));have q:=Bw (rk:=rk) (p:=p) (i:=0) (j:=m) (by omega) λk _ hk=>all k hk;refine Gr P.ud (by omega) h3 λi j hij hj=>?_;rw[q,q]
     by_cases hj2:j=m
     ·subst hj2
      by_cases hi:i=j
      ·rw[hi];exact j0 _
      ·rw[all i (by omega)];exact wq lt
     ·rw[all i (by omega),all j (by omega)];exact j0 _
   ·obtain rfl:m=1:=by omega
    refine Gr P (by omega) h3 λi j hij hj=>?_
    by_cases hj2:i=j
    ·rw[hj2];exact j0 _
    ·obtain rfl:i=0:=by omega
     obtain rfl:j=1:=by omega
     exact wq lt
theorem xT{k:Nat}(P:Pm n p)(hk:k<n)(hU:Up rk p k):∀(f l r:Nat),l<=r->r<=k->r - l<=f->(∀i,i<l->rk (p.getD i 0)<=rk (p.getD k 0))->(∀i,r<=i->i<k->rk (p.getD k 0)<=rk (p.getD i 0))->bY n rk (kas_place p k f l r) λm=>m<=k/\(∀i,i<m->rk (p.getD i 0)<=rk (p.getD k 0))/\∀i,m<=i->i<k->rk (p.getD k 0)<=rk (p.getD i 0)
 |0,l,r,h1,h2,h3,h4,h5=>by
  obtain rfl:l=r:=by omega
  exact⟨h2,h4,h5⟩
 |f+1,l,r,h1,h2,h3,h4,h5=>by
  unfold kas_place
  split
  ·obtain rfl:l=r:=by omega
   exact⟨h2,h4,h5⟩
  ·rename_i g
   refine⟨P.lt hk,P.lt (by omega),?_⟩
   by_cases c:rk (p.getD k 0)<rk (p.getD ((l+r) / 2) 0)
   ·rw[cC c];dsimp only;rw[if_pos rfl]
    refine xT P hk hU f l ((l+r) / 2) (by omega) (by omega) (by omega) h4 λi i1 i2=>?_;exact q8 (wq c) (hU _ _ i1 i2)
   ·rw[dr c];dsimp only;rw[if_neg Bool.false_ne_true]
    refine xT P hk hU f ((l+r) / 2+1) r (by omega) h2 (by omega) (λi i1=>?_) h5;exact q8 (hU i ((l+r) / 2) (by omega) (by omega)) (q_.mp c)
theorem Gq:∀(f:Nat) (p:Array Nat) (k:Nat),Pm n p->k+f<=n->Up rk p k->bY n rk (kas_bin f p k) λr=>Pm n r/\Up rk r (k+f)
 |0,p,k,P,h1,h2=>⟨P,h2⟩
 |f+1,p,k,P,h1,h2=>by
  have hs:=P.size;refine bY.bind ((xT P (by omega) h2 k 0 k (bM _) (aH _) (by omega) (λi hi=>by omega) (λi i1 i2=>by omega)).mono λl ⟨z1,z2,z3⟩=>?_);refine(Gq f (bubble p k (k - l)) (k+1) P.Rk (by omega) λi j hij hj=>?_).mono λr ⟨y1,y2⟩=>⟨y1,by rw[show k+(f+1)=k+1+f by omega];exact y2⟩
  ·rw[Ig (by omega) z1,Ig (by omega) z1]
   repeat' split
   all_goals first|exact j0 _ | (exfalso;omega)|exact h2 _ _ (by omega) (by omega)|exact z3 _ (by omega) (by omega)|exact z2 _ (by omega)
theorem Q0(h1:1<=n):bY n rk (kas_sort n) λr=>Pm n r/\Up rk r n:=by
 refine bY.bind ((QZ (nrem:=n) (Ea _) h1 (aH _)).mono λr ⟨z1,z2,z3,z4⟩=>?_)
 split
 ·have e:max r.1 1=r.1:=by omega
  rw[e];exact(Gq (n - r.1) r.2 r.1 z1 (by omega) z4).mono λq ⟨y1,y2⟩=>⟨y1,by rw[show r.1+(n - r.1)=n by omega]at y2;exact y2⟩
 ·obtain e:r.1=n:=by omega
  rw[e]at z4;exact⟨z1,z4⟩
end
end L2
namespace L2
open PySem PySem.Spec PyProof.Rows PySem.W
section
variable {prog:Program} {w:World} {A:Around} {E:Value->Shared->Prop} {s:Shared} {M:Model}
theorem mapM_some{α β:Type}{f:α->Sem β}{P:β->Prop}:∀(l:List α) {Q:List β->Shared->Prop},(∀v∈l,∃r,P r/\∀Q':β->Shared->Prop,Q' r s->wpAny M A (f v) Q' E s)->(∀rs:List β,rs.length=l.length->(∀r∈rs,P r)->Q rs s)->wpAny M A (l.mapM f) Q E s
 | [],Q,_,h=>by rw[List.mapM_nil];exact ak (h [] rfl λr z=>nomatch z)
 |x::l,Q,hf,h=>by
  rw[List.mapM_cons];obtain⟨r,pr,hr⟩:=hf x (.head _);refine ae (hr _ (ae (mapM_some (P:=P) l (λv hv=>hf v (.tail _ hv)) λrs hl hp=>ak (h (r::rs) (by simp[hl]) λq hq=>?_))))
  rcases aY.mp hq with rfl|hq
  ·exact pr
  ·exact hp q hq
theorem JB:∀(rs:List (Option Value)),(∀r∈rs,∃a t,r=some (Value.int a t))->∃ns,IntsAre (rs.filterMap id) ns/\ns.length=rs.length
 | [],_=>⟨[],.nil,rfl⟩
 |r::rs,h=>by
  obtain⟨a,t,rfl⟩:=h r (.head _);obtain⟨ns,h1,h2⟩:=JB rs λq hq=>h q (.tail _ hq);exact⟨a::ns,.cons a t h1,by simp[h2]⟩
theorem X2 {vs:List Value} {ns:List Int} (h:IntsAre vs ns) (hn:ns≠[]):oneTypeOnly' vs.toArray=pure (some (Value.type "int")):=by
 rw[oneTypeOnly'_eq,List.mapM_toArray,mapM_typeOf_ints h];simp only[map_pure,pure_bind];cases h with
 |nil=>exact absurd rfl hn
 |cons n t h=>simp
theorem V9 {keys:List Value} (h2:keys≠[]) (hk:∀v∈keys,∃(x:Addr) (o:Obj) (n:Nat) (its:Array Value) (a:Int) (t:Tok),v = .ref x/\s.heap.get? x=some o/\o.cls = .type "tuple" /\ o.data = .seq its n/\its[0]?=some (.int a t)) {Q:SortKind->Shared->Prop} (h:Q (tuples' true) s) :
  wpAny M A (keyKind' keys.toArray) Q E s:=by
 rw[keyKind'_eq,List.mapM_toArray,map_eq_pure_bind];refine ae (ae (mapM_some (P:=λr=>∃a t,r=some (Value.int a t)) _ (λv hv=>?_) λrs hl hr=>ak ?_))
 ·obtain⟨x,o,n,its,a,t,rfl,ho,hc,hd,hi⟩:=hk v hv
  refine⟨_,⟨a,t,rfl⟩,λQ' hq=>?_⟩;rw[kas_first_eq];refine ae (wpAny_typeOf_ref ho ?_);rw[hc,if_neg (by decide)];refine ae (mJ ho hd (ak ?_));rw[hi];exact hq
 ·obtain⟨ns,hI,hn⟩:=JB rs hr
  have all:(rs.toArray.all λx=>x.isSome)=true:=by
   rw[List.all_toArray,cn];intro r h;obtain⟨a,t,rfl⟩:=hr r h;rfl
  rw[if_pos all];refine ae (jk ?_);have e:(rs.toArray.filterMap id)=(rs.filterMap id).toArray:=by simp
  rw[e,X2 hI (λz=>h2 (by rw[z]at hn;exact wI.mp (by simpa[hl]using hn.symm)))];exact ae (ak (ak h))
section
variable {a kS:Addr} {e1:Nat} {keys its:List Value} {kz:List Int} {κ:SortKind}
theorem item_at(hl:keys.length=its.length){i:Nat}(hi:i<its.length):kas_item (keys.toArray.zip its.toArray) i=(keys.getD i Value.none,its.getD i Value.none):=by
 unfold kas_item;have h1:i<keys.length:=by omega
 have h2:i<min keys.length its.length:=by omega
 simp[Array.getD,h1,hi,h2]
theorem Z9{R:PySem.Fin->Shared->Prop}(hl:keys.length=its.length)(hz:kz.length=its.length)(h64:its.length<64)(hkind:2<=its.length->∀Q:SortKind->Shared->Prop,Q κ s->wpAny (model prog w) A (keyKind' keys.toArray) Q E s)(hcmp:∀i j,i<its.length->j<its.length->∀Q:Bool->Shared->Prop,Q (decide (kz.getD i 0<kz.getD j 0)) s->wpAny (model prog w) A (keyLt' κ (keys.getD i Value.none) (keys.getD j Value.none)) Q (λ_ _=>False) s)(h:∀st:SortSt,failedOf st=none->KskOut false kz its ((arrOf st).map (·.2)).toList->((arrOf st).map (·.2)).toList.length=its.length->wpAny (model prog w) A (ksk_tail a false e1 (.ref kS) st) R E s):wpAny (model prog w) A (ksk_end a false its.toArray e1 (.ref kS) keys.toArray) R E s:=by
 have zs:(keys.toArray.zip its.toArray).size=its.length:=by simp[hl]
 unfold ksk_end;simp only[e9,dQ]
 by_cases few:its.toArray.size<2
 ·simp only[if_pos few]
  refine ae (ak ?_);rw[StateT.run_pure];rw[bG]at few;have e:((keys.toArray.zip its.toArray).map (·.2)).toList=its:=by
   rw[Ed,ksk_zip];exact List.map_snd_zip (by simp[hl])
  refine ae (ak (h _ rfl ?_ ?_))
  ·show KskOut false kz its ((keys.toArray.zip its.toArray).map (·.2)).toList
   rw[e];refine⟨kz.zip its,.refl _,(List.map_snd_zip (by omega)).symm,?_⟩;have:(kz.zip its).length<=1:=by simp;omega
   generalize kz.zip its=l at this ⊢;cases l with
   |nil=>exact .nil
   |cons x r =>
    cases r with
    |nil=>exact List.pairwise_singleton _ _
    |cons y r=>exact absurd this (by simp)
  ·show((keys.toArray.zip its.toArray).map (·.2)).toList.length=its.length
   rw[e]
 ·simp only[if_neg few]
  rw[bG]at few;refine ae (hkind (by omega) _ ?_);have est:SortSt.mk' κ (keys.toArray.zip its.toArray) #[] 7 none=kas_st κ (keys.toArray.zip its.toArray) (List.toArray (List.range its.length)):=by
   have e:=kas_range (keys.toArray.zip its.toArray);rw[zs]at e;show SortSt.mk' κ (keys.toArray.zip its.toArray) #[] 7 none=SortSt.mk' κ ((List.toArray (List.range its.length)).map (kas_item (keys.toArray.zip its.toArray))) #[] 7 none;rw[e]
  have run:=kas_runs (prog:=prog) (w:=w) (A:=A) (E:=E) (κ:=κ) (it:=keys.toArray.zip its.toArray) (n:=its.length)
   (Q:=λ_ st' s'=>s'=s/\∃p:Array Nat,Pm its.length p/\Up (λi=>kz.getD i 0) p its.length/\arrOf st'=p.map (kas_item (keys.toArray.zip its.toArray))/\failedOf st'=none)
   (G:=λp s'=>s'=s/\Pm its.length p/\Up (λi=>kz.getD i 0) p its.length) (s:=s) (by omega) h64
   (λp' st' s' _ a2 a3 a4=>⟨a4.1,p',a4.2.1,a4.2.2,a2,a3⟩)
   (bY.wp (λi j C hi hj hC=>by
    unfold kas_cmp;rw[item_at hl hi,item_at hl hj];exact hcmp i j hi hj C hC) (Q0 (by omega)))
  rw[<- est]at run;refine ae (fO run ?_ λ_ _ z=>z);rintro⟨⟨⟩,st⟩ s' ⟨rfl,p,hp,hu,ha,hf⟩;have ps:=hp.size;have lt:∀i∈p.toList,i<its.length:=λi hi=>by
   have:=hp.mem_iff.mp (Eb.mp hi);simpa using this
  have eo:((arrOf st).map (·.2)).toList=p.toList.map λi=>its.getD i Value.none:=by
   rw[ha,Array.map_map,Ed];refine fc λi hi=>?_;show(kas_item (keys.toArray.zip its.toArray) i).2=_;rw[item_at hl (lt i hi)]
  refine h st hf ?_ ?_
  ·rw[eo]
   refine⟨p.toList.map λi=>(kz.getD i 0,its.getD i Value.none),?_,?_,?_⟩
   ·have e1:p.toList.Perm (List.range its.length):=by simpa using Array.perm_iff_toList_perm.mp hp
    refine(e1.map _).trans (.of_eq ?_);refine gw (by simp[hz]) λi h1 h2=>?_;have hi:i<its.length:=by simpa using h1
    have hi':i<kz.length:=by omega
    simp[hi,hi']
   ·rw[bZ]
    rfl
   ·rw[fh,rC]
    intro i j hi hj hij;have hj':j<p.size:=by simpa using hj
    have:=hu i j (fL hij) (by omega);have g:∀k (hk:k<p.size),p.getD k 0=p.toList[k]:=λk hk=>by simp[Array.getD,hk]
    rw[g i (by omega),g j hj']at this;exact this
  ·rw[eo,ao,eY,ps]
end
end
section
variable {X:Cx} {pins:List (Addr × Obj)} {σ:St} {H:Hp} {s:Shared} {qual x:Str} {params:Arguments} {body:Expr} {scope:Scope} {fr:List (Str × Nat)} {tb:TE} {p:Addr} {v:V} {u:Value} {xs:List V} {kz:List Int} {kw:List (List V)} {Q:VK} {E:Value->Shared->Prop}
structure rW (X:Cx) (H:Hp) (kw:List (List V)) (kz:List Int):Prop where
 head:∀ws∈kw,∃a:Int,ws[0]?=some (.int a)
 cmp:∀(i j:Nat) (H3:Hp) (A:Around) (s:Shared) (E:Value->Shared->Prop) (pins:List (Addr × Obj)) (σ:St) (r q:Addr) (ws vs:List V),A.units<=X.A.units+2->Same H H3->Inv X pins σ H3 s->kw[i]?=some ws->kw[j]?=some vs->H3 r=some (.tup ws)->H3 q=some (.tup vs) ->
  ∀Q:Bool->Shared->Prop,Q (decide (kz.getD i 0<kz.getD j 0)) s->wpAny (model X.prog X.w) A (keyLt' (tuples' true) (.ref r) (.ref q)) Q E s
theorem Z'{A:Around}{a:Addr}{its:List Value}{R:PySem.Fin->Shared->Prop}(hA:A.frames=X.A.frames)(hd:A.handled=none)(hr:A.depth<recursionLimit)(ko:A.guards=X.A.guards/\A.units<=X.A.units+2/\A.depth=X.A.depth)(KL:kQ X qual x params body scope fr tb)
  (I:Inv X pins σ H s) (fa:cq X pins H a) (ea:s.heap.get? a=some (seqObj "list" its.toArray 0)) (rv:Vals xs its) (L:cY H p qual params body scope (bE X.env.cells scope.names [])) (hl:kz.length=xs.length) (hw:kw.length=xs.length) (h64:xs.length<64)
  (TK:rW X H kw kz)
  (turn:∀(i:Nat) y ws,xs[i]?=some y->kw[i]?=some ws->∀H3,Same H H3->tb (some y::lamσ fr σ) H3 λz H4=>(∃r,z = .ref r/\H4 r=some (.tup ws))/\Same H3 H4)
  (q:∀ys H3 s',Same H H3->H3 a=some (.lst ys)->jn kz xs ys->Inv X pins σ H3 s'->R (.done (.ret .none)) s') :
  wpAny (model X.prog X.w) A (ksk_tree a (.ref p) false) R E s:=by
 have big:(64:Nat)<=sizeLine:=by decide +kernel
 have l1:=rv.length;have al:a<s.heap.objs.size:=aP ea;unfold ksk_tree;refine ae (mJ ea rfl (ae (mK ea rfl ?_ (by show(its.toArray).size<=sizeLine;rw[bG];omega) (bM _))));obtain⟨e1,jA⟩:∃e1,(s.heap.update a (Obj.mapSeq λ_=>(#[]:Array Value))).get? a=some (seqObj "list" #[] e1):=⟨_,o9 ea λ_=>#[]⟩;have I1:Inv X pins σ H {s with heap:=s.heap.update a (Obj.mapSeq λ_=>(#[]:Array Value)),toks:=s.toks}:=
  I.turned (λb o hb e=>by rw[mM _ _ _ _ hb];exact e) fa.1 fa.2.1 fa.2.2.2.1 fa.2.2.2.2.1 fa.2.2.2.2.2
 refine ae (rM jA rfl (ae (rS (ae (jh (fk ?_) (bM _))) (by show its.length<=sizeLine;omega))));have I2:Inv X pins σ H {s with heap:=(s.heap.update a (Obj.mapSeq λ_=>(#[]:Array Value))).push {cls:=.type "tuple", data:=.seq its.toArray},toks:=s.toks}:=I1.kept λb o e=>aI _ e;have I3:=I2.t_ (its:=[]) (ys:=[]) (t':=s.toks) .nil (bM _);have pU:((s.heap.update a (Obj.mapSeq λ_=>(#[]:Array Value))).push {cls:=.type "tuple", data:=.seq its.toArray}).get? a=some (seqObj "list" #[] e1):=aI _ jA;have nH:H ((s.heap.update a (Obj.mapSeq λ_=>(#[]:Array Value))).push {cls:=.type "tuple", data:=.seq its.toArray}).objs.size=none:=I2.fresh;have nk:a≠((s.heap.update a (Obj.mapSeq λ_=>(#[]:Array Value))).push {cls:=.type "tuple", data:=.seq its.toArray}).objs.size:=a_ (aP pU);generalize hkS:((s.heap.update a (Obj.mapSeq λ_=>(#[]:Array Value))).push {cls:=.type "tuple", data:=.seq its.toArray}).objs.size=kS at I3 nH nk;have zj:cq X pins (upd H kS (.lst [])) a:=⟨by rw[aG nk];exact fa.1,fa.2⟩;have I4:Inv X ((a,seqObj "list" #[] e1)::pins) σ (upd H kS (.lst [])) _:=I3.qz λq hq=>by
  rcases aY.mp hq with rfl|hq
  ·exact⟨aI _ pU,zj.1,fa.2.1,fa.2.2.1,λv z=>by cases z⟩
  ·exact I3.pin q (eI _ hq)
 have sm:Same H (upd H kS (.lst [])):=Same.put nH;refine sort_keys (Kp:=λi z G=>∀ws,kw[i]?=some ws->∃r,z = .ref r/\r≠kS/\G r=some (.tup ws)) hA hd hr ko KL (by omega) I4 aA (L.same sm) rv (λi z G G' hz sx ws e=>?_) (λi y hy H3 s3 hk3=>?_) (λkv G s' keys n hkv hK J hG sX ek rk=>?_)
 ·obtain⟨r,h1,h2,h3⟩:=hz ws e
  exact⟨r,h1,h2,sx r _ h2 h3⟩
 ·have hi:i<kw.length:=by rw[hw];exact(bp.mp hy).1
  have:=turn i y _ hy (aq hi) H3 (cG.of nH λb o hb e=>s3 b o hb (sm b o e));have e:(λ(z:V) (H4:Hp)=>(∃r,z = .ref r/\H4 r=some (.tup kw[i]))/\Same H3 H4)=λz H4=>(∀ws,kw[i]?=some ws->∃r,z = .ref r/\r≠kS/\H4 r=some (.tup ws))/\Same H3 H4:=by
   obtain⟨kv,hk3⟩:=hk3
   funext z H4
   refine propext ⟨λ⟨⟨r,h1,h2⟩,h3⟩=>⟨λws ek=>?_,h3⟩,λ⟨h1,h2⟩=>⟨?_,h2⟩⟩
   ·rw[aq hi]at ek;cases ek
    exact⟨r,h1,jL h2 (h3 _ _ hk3) (by intro z;cases z),h2⟩
   ·obtain⟨r,z1,_,z3⟩:=h1 _ (aq hi)
    exact⟨r,z1,z3⟩
  rw[e]at this;exact this
 ·have Oq:Same H G:=λb o e=>sX b o (cx e nH) (sm b o e)
  have hkl:keys.length=its.length:=by rw[<- rk.length];omega
  have key:∀i,i<its.length->∃(r:Addr) (ws:List V),kw[i]?=some ws/\keys.getD i Value.none = .ref r/\G r=some (.tup ws):=λi hi=>by
   have hi1:i<kw.length:=by omega
   have hi2:i<kv.length:=by omega
   obtain⟨r,h1,_,h3⟩:=hK i _ (aq hi2) _ (aq hi1);obtain⟨u,e1,e2⟩:=rk.get (aq hi2);rw[h1]at e2;exact⟨r,_,aq hi1,by rw[aL,e1];exact e2,h3⟩
  refine Z9 (κ:=tuples' true) (kz:=kz) hkl (by omega) (by omega) (λh2 Q hq=>V9 (λz=>by rw[z]at hkl;simp at hkl;omega) (λv hv=>?_) hq) (λi j hi hj Q hq=>?_) λst z1 z2 z3=>?_
  ·obtain⟨i,hi,rfl⟩:=iX hv
   obtain⟨r,ws,e1,e2,e3⟩:=key i (by omega);obtain⟨b,e4⟩:=TK.head ws (cu e1);obtain⟨_,its',rv',⟨o,ho,hc,m,hd'⟩,_⟩:=(show a8 X.prog X.w G s'.heap r (.tup ws)from J.hok r _ e3);obtain⟨u,e5,t,rfl⟩:=rv'.get e4;rw[aL,aq hi]at e2;exact⟨r,o,m,its'.toArray,b,t,e2,ho,hc,hd',by simpa using e5⟩
  ·obtain⟨r,ws,e1,e2,e3⟩:=key i hi
   obtain⟨r',ws',e1',e2',e3'⟩:=key j hj;rw[e2,e2'];exact TK.cmp i j G A s' _ _ _ r r' ws ws' ko.2.1 Oq J e1 e1' e3 e3' Q hq
  ·obtain⟨ys,hv,hs⟩:=Ov rv z2
   have fG:cq X pins G a:=⟨(J.pin (a,seqObj "list" #[] e1) (eI _ (bx ..))).2.1,fa.2⟩;refine Ot J hG ek (by omega) fG z1 rfl hv (by omega) λs2 J2=>q ys _ s2 (λb o e=>?_) aA hs J2;have b1:b≠kS:=cx e nH;have b2:b≠a:=cx e fa.1;rw[aG b2,aG b1];exact Oq b o e
end
section
variable {X:Cx} {x:Str} {params:Arguments} {body e:Expr} {scope:Scope} {fr:List (Str × Nat)} {tb ti:TE} {c P:Addr} {p0 bV kpos pos:Pos}
end
end L2
namespace L2
open PySem PySem.Spec PyProof.Rows PySem.Builtin PySem.Builtin.Str
section
variable {prog:Program} {w:World} {A:Around} {E:Value->Shared->Prop} {s:Shared}
theorem Kl:∀l:List Int,HT.lexLt l l=false
 | []=>rfl
 |x::l=>by rw[HT.Kj,if_pos rfl];exact Kl l
theorem X1{l b:Addr}{items items2:Array Value}{ns ms:List Int}{Q:Bool->Shared->Prop}(hl:IsTup s.heap l items)(hb:IsTup s.heap b items2)(hi:IntsAre items.toList ns)(hj:IntsAre items2.toList ms)(hu:A.units<cLine)(h:Q (HT.lexLt ns ms) s):wpAny (model prog w) A (oneLt' false (.ref l) (.ref b)) Q E s:=by
 rw[oneLt'_eq];simp only[e9,dQ];exact ae (HT.Ws hl hb hi hj hu (gZ h))
theorem JC:∀{vs:List Value} {ns ms:List Int},IntsAre vs ns->IntsAre vs ms->ns=ms
 | [],_,_,.nil,.nil=>rfl
 |_::_,_,_,.cons a t h,.cons _ _ h'=>by rw[JC h h']
noncomputable def n_(p q:Int)(ns ms:List Int):Bool:=if p=q then HT.lexLt ns ms else decide (p<q)
theorem V5{b:Bool}{x y tx ty:Addr}{n m:Nat}{o1 o2:Obj}{p q:Int}{t1 u1:Tok}{ix iy:Array Value}{ns ms:List Int}(hx:s.heap.get? x=some o1)(dx:o1.data = .seq #[.int p t1,.ref tx] n)(hy:s.heap.get? y=some o2)(dy:o2.data = .seq #[.int q u1,.ref ty] m)(hl:IsTup s.heap tx ix)(hb:IsTup s.heap ty iy)(hi:IntsAre ix.toList ns)(hj:IntsAre iy.toList ms)(hu:A.units<cLine){Q:Bool->Shared->Prop}(h:Q (n_ p q ns ms) s):wpAny (model prog w) A (keyLt' (tuples' b) (.ref x) (.ref y)) Q E s:=by
 show wpAny _ _ (do
  let xs <- Builtin.List.listItems (.ref x);let ys <- Builtin.List.listItems (.ref y)
  for ((p,q),i) in (xs.toList.zip ys.toList).zipIdx do
   if !(<- eqBool p q)then return <- oneLt' (b&&i==0) p q
  return xs.size<ys.size) _ _ _
 refine ae (mJ hx dx (ae (mJ hy dy ?_)));simp only[mE,List.zip_nil_right,Fh,Fi,rh,wF];unfold n_ at h;refine ae ?_;refine ae (ae (wpAny_eqBool_int ?_))
 by_cases e1:p=q
 ·rw[show(p==q)=true from gH.mpr e1]
  rw[if_pos e1]at h;simp only[Bool.not_true,e9,dQ];refine ak ?_;dsimp only;have zx:ix.size=ns.length:=by rw[<- hi.length];simp
  have zy:iy.size=ms.length:=by rw[<- hj.length];simp
  have eq:∃k:Bool,SeqAt.EqAt A s (.ref tx) (.ref ty) k/\(k=true->ns=ms):=by
   by_cases et:tx=ty
   ·subst et
    refine⟨true,rP _,λ_=>?_⟩;obtain⟨o,ho,hc,k,hd⟩:=hl;obtain⟨o',ho',hc',k',hd'⟩:=hb;rw[ho]at ho';cases ho';rw[hd]at hd';cases hd';exact JC hi hj
   ·refine⟨_,xx et (FK (e:=λj=>ns.getD j 0==ms.getD j 0) hl hb hu λj h1 h2=>?_),λhk=>?_⟩
    ·obtain⟨t,q1⟩:=hi.get j _ (aq (show j<ns.length by omega))
     obtain⟨u,q2⟩:=hj.get j _ (aq (show j<ms.length by omega));have g1:ix[j] = .int ns[j] t:=by have:=(bp.mp q1).2;simpa using this
     have g2:iy[j] = .int ms[j] u:=by have:=(bp.mp q2).2;simpa using this
     rw[g1,g2,aL,aL,aq (show j<ns.length by omega),aq (show j<ms.length by omega)];exact xv _ _ _ _
    ·rw[bw,gH,cn]at hk
     refine gw (by omega) λj h1 h2=>?_;have:=hk.1 j (bD.mpr (by omega));rw[aL,aL,aq h1,aq h2]at this;simpa using this
  obtain⟨k,he,hk⟩:=eq;refine ae (ae (he prog w _ _ ?_));cases k with
  |true =>
   rw[hk rfl,Kl]at h;simp only[Bool.not_true,e9,dQ];refine ak (ak ?_);dsimp only;exact ak h
  |false =>
   simp only[Bool.not_false,jJ];have:(b&&(0+1==0))=false:=by cases b<;>rfl
   rw[this];refine ae (X1 hl hb hi hj hu (ak (ak ?_)));dsimp only;exact ak h
 ·rw[show(p==q)=false from kf.mpr e1]
  rw[if_neg e1]at h;simp only[Bool.not_false,jJ];refine ae (XZ (ak (ak ?_)));dsimp only;exact ak h
end
section
variable {X:Cx} {pins:List (Addr × Obj)} {σ:St} {H:Hp} {s:Shared} {A:Around} {E:Value->Shared->Prop} {d:Addr} {kvs:List (List Key × V)}
theorem DR:∀(ts:List Addr),Vals (ts.map V.ref) (ts.map Value.ref)
 | []=>.nil
 |_::ts=>.cons rfl (DR ts)
theorem JK{acc:Array Value}{ks:List Value}(h:ItemsOf (λi v=>ks[i]?=some v) acc ks.length):acc.toList=ks:=by
 apply List.ext_getElem?
 intro i
 by_cases hi:i<acc.toList.length
 ·have h1:=h.2 i acc.toList[i] (by rw[<- oF];exact aq hi)
  rw[h1];exact aq hi
 ·rw[wG (by omega),wG (by have:=h.1;simp at hi;omega)]
end
end L2
namespace L2
open PySem PySem.Spec PyProof.Rows PySem.Builtin PySem.Builtin.Str PySem.W
section
variable {X:Cx} {pins:List (Addr × Obj)} {σ:St} {H:Hp} {s:Shared} {E:Value->Shared->Prop} {qual x:Str} {params:Arguments} {body:Expr} {scope:Scope} {fr:List (Str × Nat)} {tb:TE} {p d:Addr} {kvs:List (List Key × V)} {Q:VK}
end
section
variable {X:Cx} {x:Str} {params:Arguments} {body e:Expr} {scope:Scope} {fr:List (Str × Nat)} {tb ti:TE} {c P:Addr} {p0 bV kpos pos:Pos}
end
theorem V6{P:Program}{w:World}{H:Hp}{A:Around}{s:Shared}{E:Value->Shared->Prop}{r q t u:Addr}{p p':Int}{f g:List Int}(hu:A.units<cLine)(ok:bJ P w H s.heap)(h1:H r=some (.tup [.int p,.ref t]))(h2:H q=some (.tup [.int p',.ref u]))(ht:H t=some (.tup (f.map V.int)))(hu':H u=some (.tup (g.map V.int))){Q:Bool->Shared->Prop}(hq:Q (n_ p p' f g) s):wpAny (model P w) A (keyLt' (tuples' true) (.ref r) (.ref q)) Q E s:=by
 obtain⟨_,its,rv,⟨o,ho,_,n,hd⟩,_⟩:=(show a8 P w H s.heap r _ from ok r _ h1);obtain⟨_,its',rv',⟨o',ho',_,n',hd'⟩,_⟩:=(show a8 P w H s.heap q _ from ok q _ h2);obtain⟨_,jts,jv,jt,_⟩:=(show a8 P w H s.heap t _ from ok t _ ht);obtain⟨_,abm,VR,VP,_⟩:=(show a8 P w H s.heap u _ from ok u _ hu');cases rv with
 |cons a1 rv =>
  cases rv with
  |cons a2 rv =>
   cases rv;cases rv' with
   |cons b1 rv' =>
    cases rv' with
    |cons b2 rv' =>
     cases rv';obtain⟨k1,rfl⟩:=a1;obtain⟨k2,rfl⟩:=b1;cases a2;cases b2;exact V5 ho hd ho' hd' jt VP (by simpa using nW jv) (by simpa using nW VR) hu hq
theorem Bk{α β:Type}{R:α->β->Prop}{a:α}:∀{l:List α} {m:List β} {i:Nat},Paired R l m->l[i]?=some a->∃b,m[i]?=some b/\R a b
 |_,_,0,.cons h _,e=>by cases e;exact⟨_,rfl,h⟩
 |_,_,i+1,.cons _ r,e=>by
  obtain⟨b,h1,h2⟩:=Bk (i:=i) r (by simpa using e);exact⟨b,by simpa using h1,h2⟩
theorem aaM{X:Cx}{H:Hp}(hX:X.A.units+2<cLine){fs:List (List Int)}{ts:List Addr}{kz:List Int}(hl:Paired (λf t=>H t=some (.tup (f.map V.int))) fs ts)(hz:∀(i j:Nat) a b,fs[i]?=some a->fs[j]?=some b->n_ a.length b.length a b=decide (kz.getD i 0<kz.getD j 0)):rW X H ((fs.zip ts).map λq=>[.int (q.1.length:Int),.ref q.2]) kz where
 head:=λws h=>by
  obtain⟨k,_,rfl⟩:=b9.mp h;exact⟨_,rfl⟩
 cmp:=λi j H3 A s E pins σ r q ws vs hu sm I e1 e2 h1 h2 Q hq=>by
  rw[bC]at e1 e2;have get:∀{i:Nat} {ws:List V},((fs.zip ts)[i]?).map (λq:List Int × Addr=>[V.int (q.1.length:Int),.ref q.2])=some ws->∃a t,fs[i]?=some a/\H t=some (.tup (a.map V.int))/\ws = [.int (a.length:Int),.ref t]:=λ{i ws} e=>by
   cases z:(fs.zip ts)[i]? with
   |none=>rw[z]at e;cases e
   |some a =>
    rw[z]at e;obtain⟨z1,z2⟩:=Ey.mp z;obtain⟨t,z3,z4⟩:=Bk hl z1;rw[z2]at z3;cases z3;exact⟨a.1,a.2,z1,z4,by simpa using e.symm⟩
  obtain⟨a,t,f1,f2,rfl⟩:=get e1;obtain⟨b,u,g1,g2,rfl⟩:=get e2;rw[<- hz i j a b f1 g1]at hq;exact V6 (by omega) I.hok h1 h2 (sm _ _ f2) (sm _ _ g2) hq
end L2
namespace Fl
open L2
noncomputable def fw(f:List Nat)(r:Nat):List Nat:=(List.range 8).filter λx=>f.contains x||f.contains (x ^^^ r)
noncomputable def bh(fs:List (List Nat))(g:List Nat):List (List Nat):=if g∈fs then fs else fs++[g]
noncomputable def Ox(fs:List (List Nat))(r:Nat):List (List Nat):=(fs.map λf=>fw f r).foldl bh fs
noncomputable def c9(k:Nat):List (List Nat):=(List.range k).foldl (λfs i=>Ox fs (1+i)) [[0]]
noncomputable def found(w:Nat):List (List Nat):=c9 (2 ^ w - 1)
noncomputable def t8:List Nat->List Nat->Bool
 | [],[]=>false
 | [],_::_=>true
 |_::_,[]=>false
 |x::xs,y::ys=>if x=y then t8 xs ys else decide (x<y)
noncomputable def og(f g:List Nat):Bool:=if f.length=g.length then t8 f g else decide (f.length<g.length)
noncomputable def Jw(f:List Nat):List (List Nat)->List (List Nat)
 | []=>[f]
 |g::r=>if og f g then f::g::r else g::Jw f r
noncomputable def aJ(w:Nat):List (List Nat):=(found w).foldr Jw []
noncomputable def rk(w:Nat)(f:List Nat):Int:=(((aJ w).findIdx (· = f):Nat):Int)
noncomputable def rowsOf(w b:Nat):List Nat:=(List.range (2 ^ w)).filter λr=>b / 2 ^ r % 2=1
noncomputable def isF(f:List Nat):Bool:=f.all λx=>f.all λy=>f.contains (x ^^^ y)
noncomputable def Wc(w:Nat):List (List Nat):=((List.range (2 ^ 2 ^ w / 2)).map λi=>rowsOf w (1+2*i)).filter isF
end Fl
namespace My
open PySem PySem.Spec PyProof.Rows L2
theorem P8{x y:Nat}(hx:x<8)(hy:y<8):Builtin.bitXor (x:Int) (y:Int)=((x ^^^ y:Nat):Int):=by
 have h:∀x,x<8->∀y,y<8->((x ||| y:Nat):Int) - ((x&&& y:Nat):Int)=((x ^^^ y:Nat):Int):=by decide +kernel
 rw[<- h x hx y hy,<- X7,<- Gp];rfl
theorem Aw{M:List Nat}{a:Nat}(h:a<M.length):(M.map nV)[a]?=some (nV (M.getD a 0)):=by
 rw[bC,aq h,aL,aq h];rfl
theorem Same.noneF{H H':Hp}{a:Addr}(s:Same H H')(h:H' a = .none):H a = .none:=by
 cases e:H a with
 |none=>rfl
 |some o=>rw[s a o e]at h;cases h
noncomputable def grown(g:List Nat)(r:Nat):List Int:=(g.map λx=>((x ^^^ r:Nat):Int))++g.map λx=>((x:Nat):Int)
theorem T5(g:List Nat)(r:Nat):(List.range (g.map nV).length).map (λj=>nV (g.getD j 0 ^^^ r))++g.map nV=(grown g r).map V.int:=by
 unfold grown;rw[d5,bZ,bZ,ao]
 congr 1
 apply gw
 ·simp
 ·intro i h1 h2
  have:i<g.length:=by simpa using h2
  simp[aL,aq this]
theorem Xb{ks ns:List Int}(nd:ks.Nodup)(h:∀k∈ks,k∈ns):ks.length<=ns.length:=nd.length_le_of_subset h
theorem Gu:∀{l m:List Int},l.Pairwise (· < ·)->m.Pairwise (· < ·)->(∀x,x∈l ↔ x∈m)->l=m
 | [],[],_,_,_=>rfl
 | [],y::m,_,_,h=>absurd ((h y).mpr (bx ..)) (by simp)
 |x::l,[],_,_,h=>absurd ((h x).mp (bx ..)) (by simp)
 |x::l,y::m,hl,hm,h=>by
  obtain⟨h1,h2⟩:=wL.mp hl;obtain⟨h3,h4⟩:=wL.mp hm;have e:x=y:=by
   rcases aY.mp ((h x).mp (bx ..))with e|e
   ·exact e
   ·rcases aY.mp ((h y).mpr (bx ..))with e'|e'
    ·exact e'.symm
    ·have:=h1 _ e';have:=h3 _ e;omega
  subst e;rw[Gu h2 h4 λz=>?_]
  constructor
  ·intro hz
   rcases aY.mp ((h z).mp (bu _ hz))with e|e
   ·have:=h1 z hz;omega
   ·exact e
  ·intro hz
   rcases aY.mp ((h z).mpr (bu _ hz))with e|e
   ·have:=h3 z hz;omega
   ·exact e
theorem Tz{g:List Nat}{r:Nat}{ks ms:List Int}(h8:∀x∈g,x<8)(hr:r<8)(nd:ks.Nodup)(hk:∀k,k∈ks ↔ k∈grown g r)(hp:ms.Perm ks)(hs:ms.Pairwise (·<=·)):ms.map V.int=(Fl.fw g r).map nV:=by
 have e:ms=(Fl.fw g r).map λx=>((x:Nat):Int):=by
  refine Gu ?_ ?_ λx=>?_
  ·exact(hs.and (hp.symm.nodup nd)).imp λ⟨h1,h2⟩=>by omega
  ·refine fh.mpr (((wM).filter _).imp λh=>?_)
   omega
  ·have x8:∀x,x<8->∀r,r<8->x ^^^ r<8/\x ^^^ r ^^^ r=x:=by decide +kernel
   rw[hp.mem_iff,hk];unfold grown Fl.fw;rw[iz,b9,b9,b9]
   constructor
   ·rintro(⟨y,hy,rfl⟩|⟨y,hy,rfl⟩)
    ·obtain⟨h1,h2⟩:=x8 y (h8 y hy) r hr
     refine⟨y ^^^ r,dm.mpr ⟨bD.mpr h1,?_⟩,rfl⟩;rw[h2,gg];exact .inr (by simpa using hy)
    ·refine⟨y,dm.mpr ⟨bD.mpr (h8 y hy),?_⟩,rfl⟩
     rw[gg];exact .inl (by simpa using hy)
   ·rintro⟨y,hy,rfl⟩
    obtain⟨h1,h2⟩:=dm.mp hy;obtain⟨h3,h4⟩:=x8 y (bD.mp h1) r hr
    rcases gg _ _▸h2 with h|h
    ·exact .inr ⟨y,by simpa using h,rfl⟩
    ·exact .inl ⟨y ^^^ r,by simpa using h,by rw[h4]⟩
 rw[e,bZ];rfl
section
variable {P:Program} {w:World} {K:W.Frag} {mg:Str->Option Value} {base:Heap} {f:Addr} {fd:FuncData}
abbrev uV:Stmt:=top 34
theorem Np:aU ["field","row"] ["field","row"] (aB uV):=⟨rfl,rfl,rfl,by decide +kernel,rfl,by decide +kernel,by decide +kernel⟩
noncomputable def Cz:Sp:=λvs H Q _=>∃(t:Addr) (g:List Nat) (r:Nat),vs = [.ref t,.int (r:Int)]/\H t=some (.tup (g.map nV))/\g.length<=8/\(∀x∈g,x<8)/\r<8/\∀p H',Same H H'->H p=none->H' p=some (.tup ((Fl.fw g r).map nV))->Q (.ref p) H'
theorem Xn (F:aR K "field_with" "field_with" uV f fd) (T:Txt mg) (zu:mg "set" = none):aM P w K mg base aN 2 f fd ["field","row"] Cz:=by
 refine F.ok Np (λvs H Q E h=>?_) (λcdv A outer s H vs Q E hr h=>?_)
 ·obtain⟨t,g,r,rfl,_⟩:=h
  rfl
 ·obtain⟨t,g,r,rfl,ht,hl,h8,Jh,kk⟩:=h
  have nd:=Np.nd;have hr0:=hr.mono (bM _);refine⟨_,(az (aX (eA (iJ (K:=K) rfl) rfl T.tuple iI (ag (cL (RC hr0) rfl T.sorted xZ (ag (eA (Rz (K:=K) rfl hr0) rfl zu Rj (ag (aO uw (dc (own:=["known"]) (fr:=[("row", 1)]) rfl (bQ (aB uV) ["field","row"] rfl rfl (by decide +kernel)) (kF (K:=K) rfl (pv 0)) (λ_ _ _ _=>⟨(aZ (i:=0) (by decide +kernel:(["known","row"]:List Str).Nodup) rfl (Or.inl rfl)),dw,(aO LQ (pv 0) (pv 1))⟩)) (eA (GL (K:=K) rfl) rfl T.list r6 (ag (pv 0) ah))) ah)) ah)) ah)))),?_⟩;refine⟨_,rfl,t,rfl,⟨_,ax.of ht⟩,λD hD=>fu (λj=>nV (g.getD j 0 ^^^ r)) (oz (ax.of ht)) hD (cQ (by rw[ao];omega)) (λj H3 Kt hj hs hk=>?_) (λH3 hs3 hl3=>?_)⟩
  ·rw[ao]at hj
   have hx:g.getD j 0<8:=h8 _ (Ev.getD_mem hj);refine⟨_,rfl,_,rfl,_,_,by rw[aL,Aw hj];rfl,rfl,?_⟩;dsimp only;rw[P8 hx Jh];exact hk _ (Same.refl _)
  ·have h3:=hs3 _ _ ht
   refine⟨_,rfl,t,_,rfl,.inr (ax.of h3),λp1 hp1=>?_⟩;have s1:=Same.put (o:=.lst (g.map nV)) hp1;refine⟨D,p1,_,_,rfl,rfl,s1 _ _ hl3,aA,fL (gO (by simp;omega)),λp2 hp2=>?_⟩;rw[T5];have s2:=Same.put (o:=.lst ((grown g r).map V.int)) hp2;have gl:(grown g r).length<=16:=by unfold grown;simp;omega
   refine⟨p2,grown g r,rfl,ai.of aA,by omega,λq ks hq hnd hks=>?_⟩;have s3:=Same.put (o:=mP P w q ks) hq;have hkl:ks.length<=16:=cp (Xb hnd λk hk=>(hks k).mp hk) gl;refine⟨q,ks,rfl,aA,by omega,λm ms hm _ hms=>?_⟩;obtain⟨hp,hs⟩:=hms (by omega);have s4:=Same.put (o:=.lst (ms.map V.int)) hm;refine⟨m,_,rfl,.inl ⟨ai.of aA,λz hz=>?_⟩⟩;have sA:=((hs3.trans s1).trans (s2.trans s3)).trans s4;refine kk z _ (sA.trans (Same.put hz)) (Same.noneF sA hz) ?_;rw[aA,Tz h8 Jh hnd hks hp hs]
end
end My
namespace Fl
open L2 PySem
noncomputable def nI(f:List Nat):List Int:=f.map λx=>((x:Nat):Int)
theorem KD:∀{f g:List Nat},nI f=nI g->f=g
 | [],[],_=>rfl
 | [],_::_,h=>by cases h
 |_::_,[],h=>by cases h
 |x::f,y::g,h=>by
  unfold nI at h;rw[bA,bA,mB]at h;rw[Em.mp h.1,KD (f:=f) (g:=g) h.2]
theorem Au(f:List Nat):(nI f).length=f.length:=by unfold nI;simp
theorem Km:∀f g:List Nat,HT.lexLt (nI f) (nI g)=t8 f g
 | [],[]=>rfl
 | [],_::_=>rfl
 |_::_,[]=>rfl
 |x::f,y::g=>by
  show(if(x:Int)=(y:Int)then HT.lexLt (nI f) (nI g)else decide ((x:Int)<y))=if x=y then t8 f g else decide (x<y)
  rw[Km f g]
  by_cases h:x=y
  ·rw[if_pos h,if_pos (by omega)]
  ·rw[if_neg h,if_neg (by omega)]
   congr 1
   exact propext wu
theorem Wf(f g:List Nat):n_ (nI f).length (nI g).length (nI f) (nI g)=og f g:=by
 unfold n_ og;rw[Km,Au,Au]
 by_cases h:f.length=g.length
 ·rw[if_pos h,if_pos (by omega)]
 ·rw[if_neg h,if_neg (by omega)]
  congr 1
  exact propext wu
structure wm (w:Nat) (fs:List (List Nat)):Prop where
 perm:fs.Perm (aJ w)
 lt:∀f∈fs,∀g∈fs,og f g=decide (rk w f<rk w g)
noncomputable def pP(w:Nat):Bool:=decide ((found w).isPerm (aJ w)=true)&&decide ((Wc w).isPerm (aJ w)=true)&&(aJ w).all (λf=>(aJ w).all λg=>(og f g==decide (rk w f<rk w g))&&(decide (f=g)||decide (rk w f≠rk w g)))&&decide ((aJ w).Pairwise λf g=>rk w f<=rk w g)&&decide (1<=(aJ w).length)&&decide ((aJ w).length<=16)
theorem si:∀w,w<4->pP w=true:=by decide +kernel
section
variable {w:Nat} (hw:w<4)
include hw
theorem HR{f g:List Nat}(hf:f∈aJ w)(hg:g∈aJ w):og f g=decide (rk w f<rk w g)/\(rk w f=rk w g->f=g):=by
 have h:=si w hw;unfold pP at h;simp only[bw,cn,cw,gH,gg]at h;obtain⟨h1,h2⟩:=h.1.1.1.2 f hf g hg;exact⟨h1,λe=>h2.elim id λz=>absurd e z⟩
theorem Tn:(aJ w).Pairwise λf g=>rk w f<=rk w g:=by
 have h:=si w hw;unfold pP at h;simp only[bw,cn,cw]at h;exact h.1.1.2
theorem zo:1<=(aJ w).length/\(aJ w).length<=16:=by
 have h:=si w hw;unfold pP at h;simp only[bw,cn,cw]at h;exact⟨h.1.2,h.2⟩
theorem Tv:wm w (found w):=by
 have h:=si w hw;unfold pP at h;simp only[bw,cn,cw]at h;have p:(found w).Perm (aJ w):=List.isPerm_iff.mp h.1.1.1.1.1;exact⟨p,λf hf g hg=>(HR hw (p.mem_iff.mp hf) (p.mem_iff.mp hg)).1⟩
end
theorem Yv{α β:Type}{f:α->β}:∀{l:List α} {ps:List β},ps.Perm (l.map f)->∃m:List α,ps=m.map f/\m.Perm l:=by
 intro l ps h
 induction ps generalizing l with
 |nil =>
  have:l = []:=by simpa using h.symm.eq_nil
  exact⟨[],rfl,by rw[this]⟩
 |cons p ps ih =>
  obtain⟨x,hx,rfl⟩:=b9.mp (h.mem_iff.mp (bx ..));obtain⟨l1,l2,rfl⟩:=List.append_of_mem hx;have h2:(f x::ps).Perm (f x::(l1++l2).map f):=h.trans (by rw[d5,bA,d5];exact Ff);obtain⟨m,rfl,hm⟩:=ih (List.Perm.cons_inv h2);exact⟨x::m,rfl,(hm.cons x).trans Ff.symm⟩
theorem aac{w:Nat}(hw:w<4){F:List Nat->V->Prop}{fs:List (List Nat)}{us ys:List V}(hf:wm w fs)(hp:Paired F fs us)(h:jn (fs.map (rk w)) us ys):Paired F (aJ w) ys:=by
 obtain⟨ps,h1,rfl,h3⟩:=h;have e:(fs.map (rk w)).zip us=(fs.zip us).map λq=>(rk w q.1,q.2):=by
  have:=List.zip_map_left (f:=rk w) (l₁:=fs) (l₂:=us);rw[this];rfl
 rw[e]at h1;obtain⟨l,rfl,hl⟩:=Yv h1;have p1:(l.map Prod.fst).Perm (aJ w):=by
  have:=hl.map Prod.fst;rw[List.map_fst_zip (oV (dh hp))]at this;exact this.trans hf.perm
 have e2:l.map Prod.fst=aJ w:=by
  refine List.Perm.eq_of_pairwise (le:=λf g=>rk w f<=rk w g) (λa b ha hb h1 h2=>(HR hw (p1.mem_iff.mp ha) hb).2 (by omega)) ?_ (Tn hw) p1;rw[fh]at h3 ⊢;exact h3
 rw[<- e2,bZ];have all:∀q∈l,F q.1 q.2:=λq hq=>by
  have hq:=hl.mem_iff.mp hq;obtain⟨i,hi,e⟩:=iX hq;have hi1:i<fs.length:=by have:=hi;rw[Fc]at this;omega
  have hi2:i<us.length:=by have:=hi;rw[Fc]at this;omega
  rw[List.getElem_zip]at e;obtain⟨x,hx,hF⟩:=Bk hp (aq hi1);rw[aq hi2]at hx;cases hx;rw[<- e];exact hF
 clear hl h1 h3 e hp e2 p1
 induction l with
 |nil=>exact .nil
 |cons q l ih=>exact .cons (all q (bx ..)) (ih λq hq=>all q (bu _ hq))
end Fl
namespace L2
open PySem PySem.Spec PyProof.Rows
end L2
namespace L2
open PySem PySem.Spec PyProof.Rows PySem.W
section
variable {prog:Program} {w:World} {A:Around} {E:Value->Shared->Prop} {s:Shared}
end
noncomputable def kI(f:List Int):List Key:=f.map Sum.inl
noncomputable def fB(xs:List (List Int × Addr)):List (List Key × Addr × Value):=xs.map λq=>(kI q.1,q.2,Value.bool true)
noncomputable def gs(P:Program)(w:World)(h:Heap)(d:Addr)(xs:List (List Int × Addr)):Prop:=(d==sysModules)=false/\xs.length<=1000/\(xs.map (·.1)).Nodup /\
 ∃o es ep,h.get? d=some o/\o.ExactDict/\o.data = .dict es ep/\es.toList=(fB xs).map (entryOfKey (tupleKind (du P w)))
noncomputable def dC(P:Program)(w:World)(d:Addr)(xs:List (List Int × Addr)):HO:=.ext λh=>gs P w h d xs
theorem Hr{P:Program}{w:World}{H:Hp}{h:Heap}{d:Addr}{xs:List (List Int × Addr)}(g:gs P w h d xs):a8 P w H h d (dC P w d xs):=
 ⟨g,let⟨_,_,_,o,_,_,e,_⟩:=g;⟨o,e⟩,λh1 h2 g k=>let⟨a,b,c,o,es,ep,e,r⟩:=g;⟨a,b,c,o,es,ep,k _ e,r⟩⟩
noncomputable def dU(H:Hp)(xs:List (List Int × Addr)):Prop:=∀q∈xs,H q.2=some (.tup (q.1.map V.int))
theorem JN{f g:List Int}(h:kI f=kI g):f=g:=by
 induction f generalizing g with
 |nil=>cases g with|nil=>rfl|cons y g=>cases h
 |cons x f ih =>
  cases g with
  |nil=>cases h
  |cons y g =>
   unfold kI at h;rw[bA,bA,mB]at h;rw[Sum.inl.inj h.1,ih h.2]
theorem Ac(f:List Int):t5 (kI f) (f.map V.int):=by
 induction f with
 |nil=>exact .nil
 |cons x f ih=>exact .cons (.inl rfl) ih
section
variable {P:Program} {w:World} {H:Hp} {h:Heap} {d:Addr} {xs:List (List Int × Addr)}
theorem gs.toH(ok:bJ P w H h)(kt:dU H xs)(g:gs P w h d xs):h.DictOfH (tupleKind (du P w)) d (fB xs):=by
 obtain⟨lo,z,nd,o,es,ep,e1,e2,e3,e4⟩:=g;refine⟨o,es,ep,e1,e2,e3,e4,λx hx=>?_,?_⟩
 ·obtain⟨q,hq,rfl⟩:=b9.mp hx
  exact nZ ok ⟨_,Ac q.1,kt q hq⟩
 ·unfold fB
  rw[bZ];exact fh.mpr ((fh.mp nd).imp λhne e=>hne (JN e))
theorem gs.K8(lo:(d==sysModules)=false)(z:xs.length<=1000)(nd:(xs.map (·.1)).Nodup)(g:h.DictOfH (tupleKind (du P w)) d (fB xs)):gs P w h d xs:=by
 obtain⟨o,es,ep,e1,e2,e3,e4,_⟩:=g;exact⟨lo,z,nd,o,es,ep,e1,e2,e3,e4⟩
noncomputable def fZ(xs:List (List Int × Addr))(f:List Int)(b:Addr):List (List Int × Addr):=if f∈xs.map (·.1)then xs else xs++[(f,b)]
theorem YZ(f:List Int)(b:Addr)(nd:(xs.map (·.1)).Nodup):((fZ xs f b).map (·.1)).Nodup:=by
 unfold fZ
 split
 ·exact nd
 ·rename_i hn
  rw[d5];exact rA.mpr ⟨nd,by simp,λx hx y hy e=>by simp at hy;subst hy;subst e;exact hn hx⟩
theorem YX(f:List Int)(b:Addr):(fZ xs f b).length<=xs.length+1:=by
 unfold fZ
 split
 ·omega
 ·simp
theorem Gw(f:List Int):atKey (fB xs) (kI f)=none ↔ f ∉ xs.map (·.1):=by
 unfold atKey fB;rw[Option.map_eq_none_iff,List.find?_eq_none]
 constructor
 ·intro h hf
  obtain⟨q,hq,rfl⟩:=b9.mp hf;exact h _ (b9.mpr ⟨q,hq,rfl⟩) (by simp)
 ·intro h x hx
  obtain⟨q,hq,rfl⟩:=b9.mp hx;rw[cw];exact λe=>h (b9.mpr ⟨q,hq,JN e⟩)
theorem aah(f:List Int)(b:Addr):storedH (fB xs) (kI f) b (.bool true)=fB (fZ xs f b):=by
 by_cases hf:f∈xs.map (·.1)
 ·have:atKey (fB xs) (kI f)≠none:=λz=>(Gw f).mp z hf
  obtain⟨p,hp⟩:=Option.ne_none_iff_exists'.mp this;rw[storedH_old hp];unfold fZ;rw[if_pos hf];unfold fB;rw[bZ];refine fc λq _=>?_;show putAt (kI f) (.bool true) (kI q.1,q.2,Value.bool true)=_;unfold putAt
  split<;>simp_all
 ·rw[storedH_new ((Gw f).mpr hf)]
  unfold fZ fB;rw[if_neg hf,d5];rfl
end
section
variable {X:Cx} {pins:List (Addr × Obj)} {σ:St} {H:Hp} {s:Shared} {A:Around} {E:Value->Shared->Prop} {d:Addr} {xs:List (List Int × Addr)}
theorem Sj{b:Addr}{f:List Int}{u r:Value}{Q:Unit->Shared->Prop}(hu:A.units+1<cLine)(I:Inv X pins σ H s)(e:H d=some (dC X.prog X.w d xs))(kt:dU H xs)(eb:H b=some (.tup (f.map V.int)))(z:xs.length<1000)(ry:RelV (.ref b) u)(rv:RelV (.bl true) r)(h:∀s',Inv X pins σ (upd H d (dC X.prog X.w d (fZ xs f b))) s'->Q () s'):wpAny (model X.prog X.w) A (setItem (.ref d) u r) Q E s:=by
 obtain rfl:u = .ref b:=ry;obtain rfl:r = .bool true:=rv;have g:gs X.prog X.w s.heap d xs:=(show a8 X.prog X.w H s.heap d (dC X.prog X.w d xs)from I.hok d _ e).1;have dd:=g.toH I.hok kt;have big:(1000:Nat)<=sizeLine:=by decide +kernel
 refine wpAny_setItem_heap (hsz:=by unfold fB;rw[ao];omega) (FT hu) (nZ I.hok ⟨_,Ac f,eb⟩) dd λh' fz hs=>h _ ?_;rw[aah]at fz;obtain⟨lo,z1,nd,_⟩:=g;have hl:=YX (xs:=xs) f b;obtain⟨q,hq⟩:∃q,h'.get? d=some q:=let⟨q,_,_,hq,_⟩:=fz;⟨q,hq⟩
 exact pT I (by rw[e];exact True.intro) hs ⟨q,hq⟩ (Hr (gs.K8 lo (by omega) (YZ f b nd) fz))
end
noncomputable def ZM(P:Program)(w:World)(td ty tv:TE):TS:=λD σ H=>tv σ H λv H1=>td σ H1 λx H2=>ty σ H2 λy H3=>v = .bl true/\∃(d b:Addr) (xs:List (List Int × Addr)) (f:List Int),x = .ref d/\y = .ref b/\H3 d=some (dC P w d xs)/\dU H3 xs/\H3 b=some (.tup (f.map V.int))/\xs.length<1000/\D.nx σ (upd H3 d (dC P w d (fZ xs f b)))
section
variable {X:Cx} {o i value k v:Expr} {td ty tv tk:TE} {pos pos':Pos}
theorem YL(hu:X.A.units+1<cLine)(ho:PE X o td)(hi:PE X i ty)(hv:PE X value tv)(hs:swapsWith value (some (.Subscript o i pos')) pos.line X.env=pure false):PS X (.Assign [.Subscript o i pos'] value pos) (ZM X.prog X.w td ty tv):=by
 intro pins s σ H D I h;refine FV (aC (hv pins s σ H _ I h) λr s1 ⟨v,H1,I1,rv,q1⟩=>aC (ho pins s1 σ H1 _ I1 q1) λu s2 ⟨x,H2,I2,rx,q2⟩=>aC (hi pins s2 σ H2 _ I2 q2) λiv s3 ⟨y,H3,I3,ry,ev,d,b,xs,f,ex,ey,h1,h2,h3,h4,q3⟩=>?_) hs;subst ev ex ey;obtain rfl:u=Value.ref d:=rx;exact Sj hu I3 h1 h2 h3 h4 ry rv λs4 I4=>⟨σ,_,I4,q3⟩
noncomputable def aat(P:Program)(w:World)(tk tv:TE):TE:=λσ H Q=>∀p,H p=none->tk σ (upd H p (.dT [])) λx H1=>tv σ H1 λy H2=>H2 p=some (.dT [])/\y = .bl true/\∃(b:Addr) (f:List Int),x = .ref b/\H2 b=some (.tup (f.map V.int))/\Q (.ref p) (upd H2 p (dC P w p [(f,b)]))
theorem Yk(hu:X.A.units<cLine)(hk:PE X k tk)(hv:PE X v tv):PE X (.Dict [some k] [v] pos) (aat X.prog X.w tk tv):=by
 intro pins s σ H Q I q;have hn:=I.hok.fresh (aH s.heap.objs.size);have I1:=I.laid (a:=s.heap.objs.size) (o:=.dT []) (h':=s.heap.push {cls:=.type "dict", data:=.dict #[]}) (t':=s.toks) (λ_ _ q=>aI _ q) (aH _) (Hl s.heap I.big);have q1:=q _ hn;have PP:rK X pos [some k] [v] [(tk,tv)]:=YG hk hv YH;refine wpAny_Dict_any rfl rfl (by simp) (by simp) (aC (PP pins _ σ _ (λps H2=>match ps with
  | [(x,y)]=>H2 s.heap.objs.size=some (.dT [])/\y = .bl true/\∃(b:Addr) (f:List Int),x = .ref b/\H2 b=some (.tup (f.map V.int))/\Q (.ref s.heap.objs.size) (upd H2 s.heap.objs.size (dC X.prog X.w s.heap.objs.size [(f,b)]))
  |_=>False) I1 q1) λws s2 ⟨ps,H2,I2,rel,hq⟩=>?_)
 match ps,hq with
 | [(x,y)],hq =>
  obtain⟨e,ey,b,f,ex,eb,q2⟩:=hq;subst ey ex;cases rel with
  | @cons p r ps rs h t =>
   cases t;obtain⟨u,r⟩:=r;obtain⟨h1,h2⟩:=h;cases(show u=Value.ref b from h1);cases(show r=Value.bool true from h2);obtain⟨z,hd,xs,rel,dd⟩:=Hm I2.hok e;cases rel;unfold storeAll;rw[rh];refine ae (ae (wpAny_dictSet_heap hu (nZ I2.hok ⟨_,Ac f,eb⟩) dd λh' fz hs=>ak ?_));show wpAny _ _ (forIn [] PUnit.unit _) _ _ _;rw[wF];refine ak ⟨.ref s.heap.objs.size,_,?_,rfl,q2⟩;have dd2:h'.DictOfH (tupleKind (du X.prog X.w)) s.heap.objs.size (fB [(f,b)]):=fz;obtain⟨q,hq⟩:∃q,h'.get? s.heap.objs.size=some q:=let⟨q,_,_,hq,_⟩:=dd2;⟨q,hq⟩
   exact pT I2 (by rw[e];exact True.intro) hs ⟨q,hq⟩ (Hr (gs.K8 hd (by simp) (by simp) dd2))
end
end L2
namespace L2
open PySem PySem.Spec PyProof.Rows PySem.Builtin PySem.Builtin.Str PySem.W
theorem gs.ent{P:Program}{w:World}{h:Heap}{d:Addr}{xs:List (List Int × Addr)}(g:gs P w h d xs):∃ep,fb h d ((xs.map (·.2)).map Value.ref) ep:=by
 obtain⟨_,_,_,o,es,ep,e1,e2,e3,e4⟩:=g;refine⟨ep,o,es,e1,e2,e3,?_⟩;rw[e4,bZ,bZ];unfold fB;rw[bZ];rfl
section
variable {X:Cx} {pins:List (Addr × Obj)} {σ:St} {H:Hp} {s:Shared} {A:Around} {E:Value->Shared->Prop} {d:Addr} {xs:List (List Int × Addr)}
theorem JZ(I:Inv X pins σ H s)(e:H d=some (dC X.prog X.w d xs)):∃ep,fb s.heap d ((xs.map (·.2)).map Value.ref) ep/\(d==sysModules)=false/\xs.length<=sizeLine:=by
 have g:gs X.prog X.w s.heap d xs:=(show a8 X.prog X.w H s.heap d (dC X.prog X.w d xs)from I.hok d _ e).1;obtain⟨ep,x⟩:=g.ent;have big:(1000:Nat)<=sizeLine:=by decide +kernel
 exact⟨ep,x,g.1,cp g.2.1 big⟩
noncomputable def Zc(P:Program)(w:World):List V->Hp->VK->Prop:=λvs H Q=>∃d xs,vs = [.ref d]/\H d=some (dC P w d xs)/\∀l,H l=none->Q (.ref l) (upd H l (.lst ((xs.map (·.2)).map V.ref)))
theorem Rw (hr:bj 0 X.A):cX X (.type "list") (Zc X.prog X.w):=by
 intro pins s σ H vs us Q I r h;obtain⟨d,xs,rfl,e,q⟩:=h;obtain⟨u,rfl,ru⟩:=r.one;obtain rfl:u = .ref d:=ru;obtain⟨ep,x,lo,z⟩:=JZ I e;refine W.kdl_call (Hz lo) hr.hd x (by rw[ao,ao];omega) λh' tk acc c' keep hD hacc=>?_;have ea:=JK hacc;refine⟨.ref s.heap.objs.size,_,I.laid (t':=tk) (o:=.lst ((xs.map (·.2)).map V.ref)) keep (aH _) ⟨by rw[ao,ao];omega,(xs.map (·.2)).map Value.ref,c',DR _,?_⟩,rfl,q _ I.fresh⟩;rw[hD,<- ea]
theorem RV{R:List Value->Shared->Prop}(hh:A.handled=none)(I:Inv X pins σ H s)(e:H d=some (dC X.prog X.w d xs))(q:∀s',Inv X pins σ H s'->R ((xs.map (·.2)).map Value.ref) s'):wpAny (model X.prog X.w) A (collect (.ref d)) R E s:=by
 obtain⟨ep,x,lo,z⟩:=JZ I e;generalize hts:xs.map (·.2)=ts at *;have hl:ts.length=xs.length:=by rw[<- hts,ao]
 have old:∀b o,s.heap.get? b=some o->(s.heap.push (seqObj "list" #[] 0)).get? b=some o:=λb o e=>aI _ e;have dl:=gF x.lt;unfold collect;refine ae (xI (jd Fz ?_));show wpAny _ _ (newList []>>=λl=>again (.builtin "list.__iadd__" ⟨[l,.ref d],[]⟩)) _ _ s;have add:codeAny (model X.prog X.w) A (.builtin "list.__iadd__" ⟨[.ref s.heap.objs.size,.ref d],[]⟩) (λr s'=>r = .ok (.ret (.ref s.heap.objs.size))/\∃h' tk acc c',s' = {s with heap:=h',toks:=tk}/\(∀b o,s.heap.get? b=some o->h'.get? b=some o) /\
   h'.get? s.heap.objs.size=some {cls:=.type "list", dict:=none,data:=.seq acc c',slots:=#[]}/\acc.toList=ts.map Value.ref) {s with heap:=s.heap.push (seqObj "list" #[] 0)}:=by
  refine jd entry_list_iadd' ?_;show wpAny _ A.in1 (Builtin.List.listExtendWith (.ref s.heap.objs.size) (.ref d) (.ref s.heap.objs.size)) _ _ _;exact W.kdl_extend (A:=A) (s:={s with heap:=s.heap.push (seqObj "list" #[] 0)}) (R:=λr s'=>r = .ok (.ret (.ref s.heap.objs.size))/\∃h' tk acc c',s' = {s with heap:=h',toks:=tk}/\(∀b o,s.heap.get? b=some o->h'.get? b=some o) /\
   h'.get? s.heap.objs.size=some {cls:=.type "list", dict:=none,data:=.seq acc c',slots:=#[]}/\acc.toList=ts.map Value.ref)
   (Hz lo) hh (x.mv λo e=>old d o e) s.heap.objs.size dl dl (.ref s.heap.objs.size) 0 (bf _ rfl) (λh' tk acc c' hk hS hacc =>
    ⟨rfl,h',tk,acc,c',rfl,λb o e=>hk b o (a_ (aP e)) (old b o e),hS,JK hacc⟩) (by rw[ao];omega)
 refine ae (jh (ak ⟨xk _ (by decide +kernel),fM add λr s' hr=>?_⟩));obtain⟨rfl,h',tk,acc,c',rfl,keep,hS,hv⟩:=hr;show wpAny _ A (load s.heap.objs.size>>=λo=>match o.data with | .seq xs _=>pure xs.toList|_=>unsupported "internal:collect") _ _ _;refine ae (wpAny_load hS (ak ?_));rw[hv];exact q _ (I.kept keep)
end
section
variable {X:Cx} {pins:List (Addr × Obj)} {σ:St} {H:Hp} {s:Shared} {E:Value->Shared->Prop} {qual x:Str} {params:Arguments} {body:Expr} {scope:Scope} {fr:List (Str × Nat)} {tb:TE} {p d:Addr} {xs:List (List Int × Addr)} {ts:List Addr} {Q:VK} {kz:List Int} {kw:List (List V)}
theorem RD(hr:bj 0 X.A)(KL:kQ X qual x params body scope fr tb)(I:Inv X pins σ H s)(e:H d=some (dC X.prog X.w d xs))(L:cY H p qual params body scope (bE X.env.cells scope.names []))(sH:ts=xs.map (·.2))(h64:ts.length<64)(hl:kz.length=ts.length)(hw:kw.length=ts.length)(TK:rW X H kw kz)(turn:∀(i:Nat) y ws,(ts.map V.ref)[i]?=some y->kw[i]?=some ws->∀H3,Same H H3->tb (some y::lamσ fr σ) H3 λz H4=>(∃r,z = .ref r/\H4 r=some (.tup ws))/\Same H3 H4)(q:∀ys r H3,Same H H3->H r=none->H3 r=some (.lst ys)->jn kz (ts.map V.ref) ys->Q (.ref r) H3):
  wpAny (model X.prog X.w) X.A (call (.builtin "sorted") [.ref d] [(Str.ofString "key", .ref p)]) (EP X pins σ Q) E s:=by
 have big:(64:Nat)<=sizeLine:=by decide +kernel
 refine xc kind_sorted plain_sorted entry_sorted (ksk_s1 (.ref d) (.ref p)) ?_;unfold Builtin.«sorted»;refine ae (m:=checkCount "sorted" 1 1 _) (ak (ae (RV (A:=X.A.in1) hr.hd I e λs1 I1=>ae (jh ?_ (by rw[<- sH,ao];omega)))));rw[<- sH];have I2:Inv X pins σ H {s1 with heap:=s1.heap.push {cls:=.type "list", data:=.seq (ts.map Value.ref).toArray},toks:=s1.toks}:=I1.kept λb o e=>aI _ e;have fa:cq X pins H s1.heap.objs.size:=I1.km (aH _) I1.fresh;have ea:(s1.heap.push {cls:=.type "list", data:=.seq (ts.map Value.ref).toArray}).get? s1.heap.objs.size=some (seqObj "list" (ts.map Value.ref).toArray 0):=bf _ rfl;refine ae (fk (xi xh ⟨_,ea,rfl⟩ xg ?_ (ksk_l1 _ _)));show wpAny (model X.prog X.w) X.A.in1.in1 (Builtin.«list.sort» ⟨[.ref s1.heap.objs.size],[(Str.ofString "key", .ref p)]⟩) _ _ _;rw[ksk_t1];exact Z' (s:={s1 with heap:=s1.heap.push {cls:=.type "list", data:=.seq (ts.map Value.ref).toArray},toks:=s1.toks}) rfl hr.hd hr.depth ⟨rfl,aH _,rfl⟩ KL I2 fa ea (DR ts) L (by rw[ao];exact hl) (by rw[ao];exact hw) (by rw[ao];omega) TK turn
  λys H3 s3 sm g3 so I3=>⟨_,rfl,ak ⟨_,rfl,.ref s1.heap.objs.size,H3,I3,rfl,q ys _ H3 sm fa.1 g3 so⟩⟩
end
section
variable {X:Cx} {x:Str} {params:Arguments} {body e:Expr} {scope:Scope} {fr:List (Str × Nat)} {tb ti:TE} {c P:Addr} {p0 bV kpos pos:Pos}
noncomputable def Mr(X:Cx)(P:Addr)(pos:Pos)(qual:Str)(fr:List (Str × Nat))(tb:TE)(σ:St)(Q:VK)(v:V)(H1:Hp):Prop:=H1 P=some (.lam pos qual)/\∃(d:Addr) (xs:List (List Int × Addr)) (ts:List Addr) (kz:List Int) (kw:List (List V)),v = .ref d/\H1 d=some (dC X.prog X.w d xs)/\ts=xs.map (·.2)/\ts.length<64/\kz.length=ts.length/\kw.length=ts.length /\
 ∀H2,Same H1 H2->rW X H2 kw kz /\
  (∀(i:Nat) y ws,(ts.map V.ref)[i]?=some y->kw[i]?=some ws->∀H3,Same H2 H3->tb (some y::lamσ fr σ) H3 λz H4=>(∃r,z = .ref r/\H4 r=some (.tup ws))/\Same H3 H4) /\
  ∀ys r H3,Same H2 H3->H2 r=none->H3 r=some (.lst ys)->jn kz (ts.map V.ref) ys->Q (.ref r) H3
noncomputable def aaF(X:Cx)(ti:TE)(P:Addr)(pos:Pos)(qual:Str)(fr:List (Str × Nat))(tb:TE):TE:=λσ H Q=>ti σ H (Mr X P pos qual fr tb σ Q)
theorem Yt (hg:Gl X "sorted") (hm:X.mg "sorted" = none) (T:TabAt X.base X.mg c P) (hcode:X.env.code = .ref c) (hr:bj 0 X.A) (KL:kQ X (X.env.qual ++ "<lambda>") x params body scope fr tb) (hi:PE X e ti)
  (hdef:defaultsOf params X.env=([],[]):=by rfl) (he:starEach [e] X.env = [(false,eval e X.env)]:=by rfl) :
  PE X (.Call (.Name "sorted" p0) [e] [⟨some "key", .Lambda params body scope bV,kpos⟩] pos) (aaF X ti P bV (X.env.qual ++ "<lambda>") fr tb):=by
 intro pins s σ H Q I h;refine je (iR I hg hm boot_sorted ?_ (by decide) (by decide));refine callWith_kw (kws:=[⟨some "key", .Lambda params body scope bV,kpos⟩]) (aC (ag hi ah he pos pins s σ H (qm (Mr X P bV (X.env.qual ++ "<lambda>") fr tb σ Q)) I h) λus s1 hq=>?_) (by rw[he];rfl) (by rw[he];rfl) (by rfl) (by rfl);obtain⟨vs,H1,I1,r1,hq⟩:=hq;obtain⟨v,rfl,hP,d,xs,ts,kz,kw,rfl,hd,sH,h64,hl,hw,q⟩:=hq.get;obtain⟨u,rfl,ru⟩:=r1.one;obtain rfl:u = .ref d:=ru;refine kws_cons (aC (uB T hcode (λok y hy hk=>ok.has _ (KL.blk.free y hy hk)) hdef pins s1 σ H1 (λf H2=>∃p,f = .ref p/\Same H1 H2/\cY H2 p (X.env.qual ++ "<lambda>") params body scope (bE X.env.cells scope.names [])) I1 ⟨hP,λp H2 s2 _ L=>⟨p,rfl,s2,L⟩⟩) λfv s2 ⟨f,H2,I2,rf,p,ef,sm,L⟩=>kws_nil ?_);subst ef;obtain rfl:fv = .ref p:=rf;obtain⟨q1,q2,q3⟩:=q H2 sm;exact RD hr KL I2 (sm _ _ hd) L sH h64 hl hw q1 q2 q3
end
end L2
namespace My
open PySem PySem.Spec PyProof.Rows L2
theorem Ts(k:Nat):Fl.c9 (k+1)=Fl.Ox (Fl.c9 k) (1+k):=by
 unfold Fl.c9;rw[oS,wC];rfl
theorem Tr{k:Nat}(hk:k<8):(Fl.c9 k).length<=16/\∀g∈Fl.c9 k,g.length<=8/\∀x∈g,x<8:=by
 have h:∀k,k<8->(decide ((Fl.c9 k).length<=16)&&(Fl.c9 k).all λg=>decide (g.length<=8)&&g.all λx=>decide (x<8))=true:=by decide +kernel
 have h:=h k hk;simp only[bw,cn,cw]at h;exact h
theorem ug(g:List Nat):(Fl.nI g).map V.int=g.map nV:=by
 unfold Fl.nI;rw[bZ];rfl
theorem vd{H H3:Hp}{l:Addr}{o:HO}(h:H l=none)(s:Same H H3):Same H (upd H3 l o):=λb q e=>by
 have hne:b≠l:=λz=>by rw[z,h]at e;cases e
 rw[aG hne];exact s b q e
noncomputable def iu(P:Program)(w:World)(H2:Hp)(d:Addr)(fs:List (List Nat)):Prop:=∃xs:List (List Int × Addr),H2 d=some (dC P w d xs)/\dU H2 xs/\xs.map (·.1)=fs.map Fl.nI
theorem iu.len{P:Program}{w:World}{H2:Hp}{d:Addr}{fs:List (List Nat)}{xs:List (List Int × Addr)}(e:xs.map (·.1)=fs.map Fl.nI):xs.length=fs.length:=by
 have:=congrArg List.length e;simpa using this
theorem Y0{xs:List (List Int × Addr)}{fs:List (List Nat)}{g:List Nat}{b:Addr}(e:xs.map (·.1)=fs.map Fl.nI):(fZ xs (Fl.nI g) b).map (·.1)=(Fl.bh fs g).map Fl.nI:=by
 have hm:Fl.nI g∈xs.map (·.1) ↔ g∈fs:=by
  rw[e,b9];exact⟨λ⟨y,hy,h⟩=>Fl.KD h▸hy,λh=>⟨g,h,rfl⟩⟩
 unfold fZ Fl.bh
 by_cases h:g∈fs
 ·rw[if_pos (hm.mpr h),if_pos h,e]
 ·rw[if_neg (λz=>h (hm.mp z)),if_neg h,d5,d5,e]
  rfl
theorem iu.put{P:Program}{w:World}{H3:Hp}{d b:Addr}{fs:List (List Nat)}{xs:List (List Int × Addr)}{g:List Nat}(hd:H3 d=some (dC P w d xs))(kt:dU H3 xs)(e:xs.map (·.1)=fs.map Fl.nI)(hb:H3 b=some (.tup ((Fl.nI g).map V.int))):iu P w (upd H3 d (dC P w d (fZ xs (Fl.nI g) b))) d (Fl.bh fs g):=by
 refine⟨_,aA,λq hq=>?_,Y0 e⟩;have hq2:H3 q.2=some (.tup (q.1.map V.int)):=by
  unfold fZ at hq
  split at hq
  ·exact kt q hq
  ·rcases iz.mp hq with h|h
   ·exact kt q h
   ·rw[gT.mp h]
    exact hb
 have hne:q.2≠d:=λz=>by rw[z,hd]at hq2;cases hq2
 rw[aG hne];exact hq2
theorem JV{H:Hp}:∀{xs:List (List Int × Addr)},dU H xs->Paired (λ(g:List Int) (t:Addr)=>H t=some (.tup (g.map V.int))) (xs.map (·.1)) (xs.map (·.2))
 | [],_=>.nil
 |q::xs,h=>.cons (h q (bx ..)) (JV λp hp=>h p (bu _ hp))
theorem JT{H:Hp}:∀{xs:List (List Int × Addr)} {fs:List (List Nat)},xs.map (·.1)=fs.map Fl.nI->dU H xs->Paired (λ(g:List Nat) (u:V)=>∃t,u = .ref t/\H t=some (.tup (g.map nV))) fs ((xs.map (·.2)).map V.ref)
 | [],[],_,_=>.nil
 | [],_::_,e,_=>by cases e
 |_::_,[],e,_=>by cases e
 |q::xs,g::fs,e,h=>by
  rw[bA,bA,mB]at e;have h1:=h q (bx ..);rw[e.1,ug]at h1;exact .cons ⟨_,rfl,h1⟩ (JT e.2 λp hp=>h p (bu _ hp))
theorem HW:∀(l fs:List (List Nat)),(l.foldl Fl.bh fs).length<=fs.length+l.length
 | [],fs=>aH _
 |g::l,fs=>by
  rw[wD];have h:=HW l (Fl.bh fs g);have h2:(Fl.bh fs g).length<=fs.length+1:=by unfold Fl.bh;split<;>simp
  rw[dW];omega
theorem dU.same{H H':Hp}{xs:List (List Int × Addr)}(h:dU H xs)(s:Same H H'):dU H' xs:=λq hq=>s _ _ (h q hq)
section
variable {P:Program} {w:World} {K:W.Frag} {mg:Str->Option Value} {base:Heap} {f:Addr} {fd:FuncData}
noncomputable def Eh (K:W.Frag) (mg:Str->Option Value):Prop:=∃a:Addr,mg "ROW_COUNTS" = some (.ref a)/\∀H,ax K H a (([1,2,4,8]:List Int).map V.int)
abbrev lO:Stmt:=top 35
theorem Nq:aU ["width","found","row","field"] ["width"] (aB lO):=⟨rfl,rfl,rfl,by decide +kernel,rfl,by decide +kernel,by decide +kernel⟩
abbrev nu:Pos:=⟨149,29,149,62⟩
abbrev ny:Str:=("fields_of" : Str) ++ ".<locals>." ++ "<lambda>"
noncomputable def mj(H:Hp)(l:Addr)(wd:Nat):Prop:=∃us:List V,H l=some (.lst us)/\Paired (λ(g:List Nat) (u:V)=>∃t,u = .ref t/\H t=some (.tup (g.map nV))) (Fl.aJ wd) us
noncomputable def vn(Pt:Addr):Sp:=λvs H Q _=>∃wd:Nat,vs = [.int (wd:Int)]/\wd<4/\H Pt=some (.lam nu ny)/\∀l H',Same H H'->H l=none->mj H' l wd->Q (.ref l) H'
theorem Xo {c Pt:Addr} (F:aR K "fields_of" "fields_of" lO f fd) (hc:fd.code = .ref c) (tb:TabAt base mg c Pt) (T:Txt mg) (Du:Eh K mg) (eN:au P w K mg base "is_whole" ["value"] 1 lQ) (yc:au P w K mg base "field_with" ["field","row"] 2 Cz):aM P w K mg base aN 3 f fd ["width"] (vn Pt):=by
 refine F.uq hc Nq (λvs H Q E h=>?_) (λA outer s H vs Q E hr h=>?_)
 ·obtain⟨wd,rfl,_⟩:=h
  rfl
 ·obtain⟨wd,rfl,hw,hP,kk⟩:=h
  have nd:=Nq.nd;have hr0:=hr.mono (bM _);have hu:=hr.units;have hu0:(A.deeper (envOfC "fields_of" (aB lO) s.heap.objs.size f (.ref c))).units<cLine:=by omega
  have hu2:(A.deeper (envOfC "fields_of" (aB lO) s.heap.objs.size f (.ref c))).units+2<cLine:=by omega
  have hu1:(A.deeper (envOfC "fields_of" (aB lO) s.heap.objs.size f (.ref c))).units+1<cLine:=by omega
  obtain⟨rc,Ht,Iw⟩:=Du;refine⟨_,(ay (cM (PW.pt (qH (iS (fJ (aQ eN hr rfl (ag (pv 0) ah)))) (qI (iS (Bs jO LC aD (pv 0) (cL (d7 (K:=K) rfl) rfl T.len eL (ag (ot (v:=.ref rc) rfl Ht rfl) ah))))))) (az lL) cU)
   (ay (aV (i:=1) nd rfl (Or.inl rfl) (Yk hu0 (ie (ag aD ah)) d0))
   (ay (cD bT rfl (Bp rfl T.range (ag aD (ag (aF (aW (K:=K) rfl) (ot (v:=.ref rc) rfl Ht rfl) (pv 0) (λ_ _=>rfl)) ah))) (aZ (i:=2) nd rfl (Or.inl rfl))
   (az (cD bT rfl (eB (K:=K) rfl (eA (Rw hr0) rfl T.list r6 (ag (pv 1) ah))) (aZ (i:=3) nd rfl (Or.inl rfl))
   (az (YL hu1 (pv 1) (aQ yc hr rfl (ag (pv 3) (ag (pv 2) ah))) d0 rfl)))))
   (az (aX (Yt (x:= "field") (fr:=[]) rfl T.sorted tb rfl hr0 ⟨bQ (aB lO) ["width","found","row","field"] rfl rfl (by decide +kernel),⟨rfl,rfl,rfl,by decide +kernel,by decide +kernel,by decide +kernel,by decide +kernel⟩,λ_ _ _ _ us hl=>match us,hl with | [_],_=>rfl,λ_ _ _ _ _ _ _ _=>ie (ag (cL (d7 (K:=K) rfl) rfl T.len eL (ag (pv 0) ah)) (ag (pv 0) ah))⟩ (pv 1))))))),?_⟩
  refine⟨_,rfl,⟨(wd:Int),rfl⟩,λv H1 s1 hv=>?_⟩;subst hv;refine⟨true,rfl,cI ?_⟩;refine⟨_,rfl,_,_,rfl,rfl,_,rfl,?_⟩;rw[if_pos (cC (by omega))];refine⟨rc,_,rfl,.inr (Iw _),_,_,rfl,rfl,_,rfl,?_⟩;rw[cC (show(wd:Int)<((([1,2,4,8]:List Int).map V.int).length:Nat)by show(wd:Int)<4;omega)];refine cI ?_;dsimp only;show cV _ _ _ [some (.int (wd:Int)),none,none,none] _;refine λd hd=>⟨by show 1<=sizeLine;decide,λt ht=>⟨(Same.put ht) _ _ aA,rfl,t,[0],rfl,aA,?_⟩⟩;have hd0:H d=none:=Same.noneF s1 hd;have I0:iu P w (upd (upd (upd H1 d (.dT [])) t (.tup [.int 0])) d (dC P w d [([0],t)])) d (Fl.c9 0):=⟨_,aA,λq hq=>by
   rw[gT.mp hq];have hne:t≠d:=λz=>by rw[z,aA]at ht;cases ht
   show upd _ d _ t=_;rw[aG hne];exact aA,rfl⟩
  have S0:Same H (upd (upd (upd H1 d (.dT [])) t (.tup [.int 0])) d (dC P w d [([0],t)])):=vd hd0 (s1.trans ((Same.put hd).trans (Same.put ht)));dsimp only[bq];show cV _ _ _ [some (.int (wd:Int)),some (.ref d),none,none] _;obtain⟨m,hm1,hm8,em,eg⟩:∃m:Nat,1<=m/\m<=8/\m=2 ^ wd/\(([1,2,4,8]:List Int).map V.int)[wd]?=some (.int (m:Int)):=by
   match wd,hw with
   |0,_=>exact⟨1,by decide,by decide,rfl,rfl⟩
   |1,_=>exact⟨2,by decide,by decide,rfl,rfl⟩
   |2,_=>exact⟨4,by decide,by decide,rfl,rfl⟩
   |3,_=>exact⟨8,by decide,by decide,rfl,rfl⟩
  refine⟨_,rfl,rc,_,_,_,rfl,rfl,Iw _,aS eg,_,_,rfl,⟨by omega,by omega,by omega,by omega⟩,hZ (lo:=1) (n:=((m:Int) - 1).toNat) (λi σ H2=>∃(v2 v3:Option V),σ = [some (.int (wd:Int)),some (.ref d),v2,v3]/\Same H H2/\iu P w H2 d (Fl.c9 i)) ⟨none,none,rfl,S0,I0⟩ ?_ ?_⟩
  ·rintro i σ H2 hi ⟨v2,v3,rfl,s2,xs,hx,kt,en⟩
   dsimp only[bq];have Uy:i<8:=by omega
   obtain⟨z16,zg⟩:=Tr Uy;refine⟨_,rfl,d,xs,rfl,hx,λl hl=>?_⟩;have U1:l≠d:=λz=>by rw[z,hx]at hl;cases hl
   have hlen:xs.length=(Fl.c9 i).length:=iu.len (P:=P) (w:=w) (H2:=H) (d:=d) en;refine⟨l,rfl,⟨_,ai.of aA⟩,jE (K:=K) (a:=l) (xs:=(xs.map (·.2)).map V.ref) (λj σ H4=>∃(v3:Option V),σ = [some (.int (wd:Int)),some (.ref d),some (.int (1+(i:Int))),v3]/\Same H H4/\H4 l=some (.lst ((xs.map (·.2)).map V.ref))/\dU H4 xs/\iu P w H4 d ((((Fl.c9 i).map λg=>Fl.fw g (1+i)).take j).foldl Fl.bh (Fl.c9 i)))
    ⟨v3,rfl,s2.trans (Same.put hl),aA,dU.same kt (Same.put hl),xs,(Same.put hl) _ _ hx,dU.same kt (Same.put hl),en⟩ (λj σ H4 _ ⟨_,_,_,h4,_⟩=>ai.of h4) ?_ ?_⟩
   ·rintro j x σ H4 p8 ⟨v3,rfl,s4,h4,Ag,ys,hy,J6,ey⟩
    dsimp only[bq];rw[bC,bC]at p8;obtain⟨q,hq,rfl⟩:∃q,xs[j]?=some q/\x = .ref q.2:=by
     cases z:xs[j]? with
     |none=>rw[z]at p8;cases p8
     |some q=>rw[z]at p8;exact⟨q,rfl,by simpa using p8.symm⟩
    obtain⟨hj,eq⟩:=bp.mp hq;have zR:j<(Fl.c9 i).length:=by omega
    have Sr:q.1=Fl.nI (Fl.c9 i)[j]:=by
     have h1:(xs.map (·.1))[j]?=some q.1:=by rw[bC,hq];rfl
     rw[en,bC,aq zR]at h1;exact(df h1).symm
    obtain⟨g8,gx⟩:=zg _ (gB zR);have Vg:H4 q.2=some (.tup ((Fl.c9 i)[j].map nV)):=by
     have:=Ag q (cu hq)
     rwa [Sr,ug]at this
    refine⟨_,rfl,_,rfl,_,rfl,q.2,(Fl.c9 i)[j],1+i,?_,Vg,g8,gx,by omega,λb H5 s5 hb0 hb=>?_⟩
    ·show[V.ref q.2,V.int (1+(i:Int))] = [V.ref q.2,V.int ((1+i:Nat):Int)]
     rw[show((1+i:Nat):Int)=1+(i:Int)by omega]
    have z0:=s5 _ _ hy;have kx:=s5 _ _ h4;have J0:=dU.same Ag s5;have hyl:=iu.len (P:=P) (w:=w) (H2:=H) (d:=d) ey;have hb':H5 b=some (.tup ((Fl.nI (Fl.fw (Fl.c9 i)[j] (1+i))).map V.int)):=by rw[ug];exact hb
    have hbound:=HW (((Fl.c9 i).map λg=>Fl.fw g (1+i)).take j) (Fl.c9 i);have htl:(((Fl.c9 i).map λg=>Fl.fw g (1+i)).take j).length<=16:=by rw[iY,ao];omega
    refine⟨rfl,d,b,ys,_,rfl,rfl,z0,dU.same J6 s5,hb',by omega,?_⟩;refine⟨_,rfl,vd hd0 (s4.trans s5),?_,λq hq=>?_,?_⟩
    ·rw[aG U1];exact kx
    ·have hne:q.2≠d:=λz=>by have:=J0 q hq;rw[z,z0]at this;cases this
     rw[aG hne];exact J0 q hq
    ·have:=iu.put z0 (dU.same J6 s5) ey hb'
     rw[iZ,bC,aq zR,wC];exact this
   ·rintro σ H4 ⟨v3,rfl,s4,h4,Ag,hI⟩
    refine⟨_,_,rfl,s4,?_⟩;rw[Ts];rw[Fg (by simp;omega)]at hI;exact hI
  ·rintro σ H2 ⟨v2,v3,rfl,s2,xs,hx,kt,en⟩
   have eF:Fl.c9 ((m:Int) - 1).toNat=Fl.found wd:=by
    unfold Fl.found;rw[<- em]
    congr 1
    omega
   rw[eF]at en;obtain⟨FP⟩:Nonempty (Fl.wm wd (Fl.found wd)):=⟨Fl.Tv hw⟩;have hlen:xs.length=(Fl.found wd).length:=iu.len (P:=P) (w:=w) (H2:=H) (d:=d) en;have h16:(Fl.found wd).length<=16:=by rw[FP.perm.length_eq];exact(Fl.zo hw).2
   have hpr:Paired (λ(g:List Int) (t:Addr)=>H2 t=some (.tup (g.map V.int))) (xs.map (·.1)) (xs.map (·.2)):=JV kt;refine⟨_,rfl,s2 _ _ hP,d,xs,xs.map (·.2),(Fl.found wd).map (Fl.rk wd),((xs.map (·.1)).zip (xs.map (·.2))).map (λq=>[.int (q.1.length:Int),.ref q.2]),rfl,hx,rfl,by rw[ao];omega,by rw[ao,ao];omega,by rw[ao,Fc,ao,ao];omega,λH3 s3=>⟨?_,?_,?_⟩⟩
   ·refine aaM (hl:=Paired.di hpr λ_ _ h=>s3 _ _ h) hu2 λi j a b ha hb=>?_
    rw[en,bC]at ha hb;obtain⟨g,hg,rfl⟩:=mG.mp ha;obtain⟨g',hg',rfl⟩:=mG.mp hb;rw[Fl.Wf,FP.lt g (cu hg) g' (cu hg'),aL,aL,bC,bC,hg,hg'];rfl
   ·intro i y ws hy hws H4 s4
    rw[bC,bC]at hy;obtain⟨a,ha,rfl⟩:=mG.mp hy;obtain⟨q,hq,rfl⟩:=mG.mp ha;rw[bC]at hws;obtain⟨q2,hq2,rfl⟩:=mG.mp hws;obtain⟨z1,z2⟩:=Ey.mp hq2;rw[bC,hq]at z1 z2;have hk:=s4 _ _ (s3 _ _ (kt q (cu hq)));refine⟨_,rfl,q.2,_,rfl,.inr (ax.of hk),_,rfl,by show 2<=sizeLine;decide,λp hp=>⟨⟨p,rfl,?_⟩,Same.put hp⟩⟩;rw[aA,ao,<- df z1,<- df z2]
   ·intro ys r H4 s4 nU h4 hS
    exact kk r H4 (s2.trans (s3.trans s4)) (Same.noneF (s2.trans s3) nU) ⟨ys,h4,Fl.aac hw FP (JT en (dU.same kt (s3.trans s4))) hS⟩
end
theorem L_(p:Nat):∀ps:List Nat,Dv.pd (ps++[p])=Dv.pd ps*p
 | []=>by show p*1=1*p;omega
 |q::ps=>by
  show q*Dv.pd (ps++[p])=q*Dv.pd ps*p;rw[L_ p ps,dX]
theorem Ke{ps:List Nat}{n:Nat}(h:Dv.PL n ps)(hn:n<=1000000):ps.length<=19:=by
 have h1:=Dv.Bn h.pr;rw[h.eq]at h1;apply i_
 intro z;have h2:2 ^ 20<=2 ^ ps.length:=Nat.pow_le_pow_right (by decide) z;have h3:(2:Nat) ^ 20=1048576:=by decide
 omega
theorem WY{r k:Nat}:decide (V.int ((r:Int) % (k:Int))=V.int 0)=decide (r % k=0):=by
 rw[<- wt,cE,cw,cw];exact⟨λh=>by have:=V.int.inj h;omega,λh=>by rw[h];rfl⟩
theorem R8(ps:List Nat){i:Nat}(hi:i<ps.length):kg (ps.map nV) none (some (0+(i:Int)+1))=(ps.take (i+1)).map nV:=by
 have e:HT.dS (ps.map nV).length (ps.map nV).length (some (0+(i:Int)+1))=i+1:=by
  rw[show(0+(i:Int)+1)=((i+1:Nat):Int)by push_cast;omega,HT.ZN,ao];omega
 unfold kg;rw[e,show HT.dS (ps.map nV).length 0 none=0 from rfl,List.drop_zero,Nat.sub_zero,<- List.map_take]
theorem RZ{ps:List Nat}{i:Nat}(hi:i<ps.length):((List.range (i+1)).filter λj=>decide (ps.getD j 0=ps.getD i 0)).length=(ps.take i).count (ps.getD i 0)+1:=by
 have e:ps.take i=(List.range i).map λj=>ps.getD j 0:=by
  refine gw (by simp;omega) λj h1 h2=>?_;have hj:j<ps.length:=by simp at h1;omega
  rw[List.getElem_take,rj,EY,aL,aq hj];rfl
 rw[oS,wA,de,e,List.count_eq_countP,Et,List.countP_eq_length_filter];rw[show([i].filter λj=>decide (ps.getD j 0=ps.getD i 0)) = [i]by simp];rfl
section
variable {P:Program} {w:World} {K:W.Frag} {mg:Str->Option Value} {base:Heap} {f:Addr} {fd:FuncData}
abbrev Ce:Stmt:=top 58
theorem N1:aU ["_law_number","_law_found","_law_k"] ["_law_number"] (aB Ce):=⟨rfl,rfl,rfl,by decide +kernel,rfl,by decide +kernel,by decide +kernel⟩
noncomputable def Dc:Sp:=λvs H Q _=>∃n:Nat,vs = [.int (n:Int)]/\1<=n/\n<=1000000/\∀L ps H',Same H H'->H L=none->H' L=some (.lst (ps.map nV))->Dv.PL n ps->Q (.ref L) H'
theorem XM (F:aR K "_law_prime_parts" "_law_prime_parts" Ce f fd) (T:Txt mg):aM P w K mg base aN 1 f fd ["_law_number"] Dc:=by
 refine F.ok N1 (λvs H Q E h=>?_) (λcdv A outer s H vs Q E hr h=>?_)
 ·obtain⟨n,rfl,_⟩:=h
  rfl
 ·obtain⟨n,rfl,h1,hn,kk⟩:=h
  have nd:=N1.nd;refine⟨_,(ay (aV (i:=1) nd rfl (Or.inl rfl) (ic ah))
   (ay (aV (i:=2) nd rfl (Or.inl rfl) aD)
   (ay (qE bT (bW qo (pv 0) aD (bL _))
   (ay (cM (bW qo (aO eu (pv 2) (pv 2)) (pv 0) (bL _)) (az (aV (i:=2) nd rfl (Or.inl rfl) (pv 0))) cU)
   (ay (qE bT (bW jN (aO dv (pv 0) (pv 2)) aD (bL _))
   (ay (dJ (kE (K:=K) rfl mL rO xq qe (pv 1) (ag (pv 2) ah)))
   (az (aV (i:=0) nd rfl (Or.inl rfl) (aO lJ (pv 0) (pv 2))))))
   (az (aV (i:=2) nd rfl (Or.inl rfl) (aO eh (pv 2) aD))))))
   (az (aX (pv 1)))))),?_⟩
  refine⟨by show 0<=sizeLine;decide,λL hL=>?_⟩;refine⟨λm σ H2=>∃(ps:List Nat) (r k:Nat),σ = [some (.int (r:Int)),some (.ref L),some (.int (k:Int))]/\Same H H2/\H2 L=some (.lst (ps.map nV))/\(∀p∈ps,Dv.Pr p)/\Dv.pd ps*r=n/\Dv.g6 k r/\2<=k/\m=ki r k,
   ⟨_,[],n,2,rfl,Same.put hL,aA,(λ_ h=>nomatch h),rH n,λd h2 h3=>by omega,by decide,rfl⟩,?_⟩
  rintro m σ H2 ⟨ps,r,k,rfl,s2,hLf,hps,hqr,lr,hk2,rfl⟩;have hq0:=Dv.L9 hps;have nU:0<r:=gU λz=>by rw[z]at hqr;omega
  have hrn:r<=1000000:=by
   have:1*r<=Dv.pd ps*r:=w4 r hq0;omega
  refine⟨_,rfl,_,_,rfl,rfl,_,rfl,bO (λh=>?_) (λh=>?_)⟩
  ·have hr1:1<r:=by have:=fX h;omega
   have zT:=lr.le hr1;refine⟨_,λσ' H' h=>h,?_⟩;show cV _ _ _ [some (.int (r:Int)),some (.ref L),some (.int (k:Int))] _;refine jT (λσ H3=>H3=H2/\∃k':Nat,σ = [some (.int (r:Int)),some (.ref L),some (.int (k':Int))]/\Dv.g6 k' r/\2<=k'/\k'<=r/\(k'=k\/k'=r)) (λD' hD' next=>?_) ?_
   ·refine⟨_,rfl,_,rfl,_,_,rfl,rfl,.inl ⟨by omega,by omega⟩,_,rfl,_,_,rfl,rfl,_,rfl,bO (λh=>?_) (λh=>next _ _ ⟨rfl,k,rfl,lr,hk2,zT,.inl rfl⟩)⟩
    have hkk:r<k*k:=by
     have:(r:Int)<(k:Int)*(k:Int):=fX h;rw[<- iW]at this;exact wu.mp this
    exact⟨_,rfl,next _ _ ⟨rfl,r,rfl,lr.big hk2 hkk hr1,hr1,aH r,.inr rfl⟩⟩
   rintro σ H3 ⟨rfl,k',rfl,iO,nQ,UW,hkc⟩;show cV _ _ _ [some (.int (r:Int)),some (.ref L),some (.int (k':Int))] _;refine⟨λm σ H4=>∃(qs:List Nat) (r':Nat),σ = [some (.int (r':Int)),some (.ref L),some (.int (k':Int))]/\Same H H4/\H4 L=some (.lst (qs.map nV))/\(∀p∈qs,Dv.Pr p)/\Dv.pd qs*r'=n/\r' ∣ r/\m=r',
    ⟨r,ps,r,rfl,s2,hLf,hps,hqr,iC r,rfl⟩,?_⟩
   rintro m σ H4 ⟨qs,r',rfl,s4,zI,zW,Jg,fH,hmr⟩;subst m;have tT:0<r':=rJ fH nU;have U9:r'<=r:=oU nU fH;have hqq:qs.length<=19:=Ke (n:=Dv.pd qs) ⟨zW,rfl⟩ (by
    have:Dv.pd qs*1<=Dv.pd qs*r':=kW _ tT;omega)
   refine⟨_,rfl,_,rfl,_,_,rfl,rfl,by omega,rfl,_,rfl,?_⟩;rw[WY];refine bO (λh=>?_) (λh=>?_)
   ·have hd:k' ∣ r':=wO (fX h)
    obtain⟨c,hc⟩:=hd;have hkd:k' ∣ r:=dN ⟨c,hc⟩ fH;have hpr:=iO.prime nQ hkd;have zX:r' / k'=c:=by rw[hc,rF _ (by omega)]
    have hc0:0<c:=gU λz=>by rw[z]at hc;omega
    have hcl:c<r':=by
     rw[hc];have:1*c<k'*c:=rG (by omega) hc0;omega
    refine⟨_,λσ' H' h=>h,?_⟩;refine⟨_,rfl,.inl ⟨rfl,_,ai.of zI⟩,_,rfl,L,_,_,rfl,rfl,zI,by rw[ao];exact gO (by omega),?_⟩;refine⟨_,rfl,_,rfl,_,_,rfl,rfl,⟨by omega,by omega⟩,?_⟩;have e1:(r':Int) / (k':Int)=(c:Int):=by rw[<- q9,zX]
    dsimp only[bq];rw[e1];refine⟨c,hcl,qs++[k'],c,rfl,vd hL s4,by rw[aA,d5];rfl,λp hp=>?_,by rw[L_,dX,<- hc];exact Jg,dN ⟨k',by rw[hc,cB]⟩ fH,rfl⟩
    rcases iz.mp hp with z|z
    ·exact zW p z
    ·rw[gT.mp z];exact⟨nQ,hpr⟩
   ·have hnd:¬ k' ∣ r':=λz=>h (cC (wY z))
    dsimp only[bq];refine⟨_,rfl,_,_,rfl,rfl,?_⟩;have e3:(k':Int)+1=((k'+1:Nat):Int):=by push_cast;rfl
    dsimp only;rw[e3];have hm':ki r' (k'+1)<ki r k:=by
     unfold ki;rw[if_neg (show ¬ r<=1 by omega)]
     by_cases h5:r'<=1
     ·rw[if_pos h5];omega
     ·rw[if_neg h5]
      rcases hkc with rfl|rfl
      ·have:k'+1<=r':=by
        apply i_
        intro z
        by_cases h6:r'=k'
        ·exact hnd (by rw[h6];exact iC _)
        ·exact iO r' (by omega) (by omega) fH
       omega
      ·exfalso
       by_cases h6:r'=k'
       ·exact hnd (by rw[h6];exact iC _)
       ·exact iO r' (by omega) (by omega) fH
    refine⟨_,hm',qs,r',k'+1,rfl,s4,zI,zW,Jg,λd h5 h6 h7=>?_,by omega,rfl⟩
    by_cases h8:d=k'
    ·rw[h8]at h7;exact hnd h7
    ·exact iO d h5 (by omega) (dN h7 fH)
  ·have hr1:r=1:=by
    have:¬ ((1:Int)<(r:Int)):=λz=>h (cC z);omega
   subst hr1;rw[ja]at hqr;exact⟨_,rfl,kk L ps _ s2 hL hLf ⟨hps,hqr⟩⟩
abbrev u0:Stmt:=top 59
theorem N0:aU ["_law_parts","_law_found","_law_k"] ["_law_parts"] (aB u0):=⟨rfl,rfl,rfl,by decide +kernel,rfl,by decide +kernel,by decide +kernel⟩
noncomputable def C_(K:PySem.W.Frag):Sp:=λvs H Q _=>∃(l:Nat) (ps:List Nat),vs = [.ref l]/\ai K H l (ps.map nV)/\ps.length<=19/\(∀k,k<=ps.length->∃W,W*Dv.c7 (ps.take k)=Dv.fct k)/\∀(z:Nat) H',Same H H'->z*Dv.c7 ps=Dv.fct ps.length->Q (.int (z:Int)) H'
theorem XJ (F:aR K "_law_orders_of" "_law_orders_of" u0 f fd) (T:Txt mg):aM P w K mg base aN 1 f fd ["_law_parts"] (C_ K):=by
 refine F.ok N0 (λvs H Q E h=>?_) (λcdv A outer s H vs Q E hr h=>?_)
 ·obtain⟨l,ps,rfl,_⟩:=h
  rfl
 ·obtain⟨l,ps,rfl,hl,h19,hW,kk⟩:=h
  have nd:=N0.nd;have en:((((ps.map nV).length:Nat):Int)).toNat=ps.length:=by rw[ck,ao]
  have b1:-(2 ^ 62)<=(((ps.map nV).length:Nat):Int)/\(((ps.map nV).length:Nat):Int)<2 ^ 62:=by rw[ao];exact bI (by omega)
  refine⟨_,(ay (aV (i:=1) nd rfl (Or.inl rfl) aD)
   (ay (cD bT rfl (dI rfl T.range (ag (cL (d7 (K:=K) rfl) rfl T.len eL (ag (pv 0) ah)) ah)) (aZ (i:=2) nd rfl (Or.inr rfl))
   (az (aV (i:=1) nd rfl (Or.inl rfl) (aO lJ (aO eu (pv 1) (aO eh (pv 2) aD)) (cL (d7 (K:=K) rfl) rfl T.len eL (ag (dc (own:=["_law_one"]) (fr:=[("_law_parts", 0),("_law_k", 2)]) rfl (bQ (aB u0) ["_law_parts","_law_found","_law_k"] rfl rfl (by decide +kernel)) (eB (K:=K) rfl (qw (qR (K:=K) rfl) (pv 0) uG (ow (aO eh (pv 2) aD)))) (λ_ _ _ _=>⟨(aZ (i:=0) (by decide +kernel:(["_law_one","_law_parts","_law_k"]:List Str).Nodup) rfl (Or.inl rfl)),(lK (bW jN (pv 0) (aF (bB (K:=K) rfl) (pv 1) (pv 2) (λ_ _=>rfl)) (bL _))),(pv 0)⟩)) ah))))))
   (az (aX (pv 1))))),?_⟩
  refine⟨_,rfl,l,_,rfl,.inl hl,_,rfl,b1.1,b1.2,hZ (lo:=0) (n:=((((ps.map nV).length:Nat):Int)).toNat) (λi σ H2=>∃(v2:Option V) (g:Nat),σ = [some (.ref l),some (.int (g:Int)),v2]/\Same H H2/\g*Dv.c7 (ps.take i)=Dv.fct i) ⟨none,1,rfl,Same.refl _,rfl⟩ ?_ ?_⟩
  ·rintro i σ H2 hi ⟨v2,g,rfl,s2,hg⟩
   rw[en]at hi;dsimp only[bq];show qX _ _ _ [some (.ref l),some (.int (g:Int)),some (.int (0+(i:Int)))] _;have Uw:g<=Dv.fct 19:=by
    have h1:=Dv.tE (ps.take i);have h2:=Dv.Td (show i<=19 by omega);have h3:g*1<=g*Dv.c7 (ps.take i):=kW g h1;omega
   have Sl:Dv.fct 19=121645100408832000:=by decide +kernel
   rw[Sl]at Uw;refine⟨_,rfl,_,rfl,_,_,rfl,rfl,_,_,rfl,rfl,.inl ⟨by omega,by omega⟩,?_⟩;dsimp only;refine⟨_,rfl,_,rfl,_,_,rfl,rfl,_,rfl,l,_,rfl,s2.seq hl,λq hq=>?_⟩;rw[R8 ps hi];have t:=Same.put hq (o:=.lst ((ps.take (i+1)).map nV));have sG:(ps.take (i+1)).length=i+1:=by rw[iY];omega
   refine⟨q,rfl,⟨_,ai.of aA⟩,λD hD=>ni (λj=>decide (ps.getD j 0=ps.getD i 0)) (λj=>nV (ps.getD j 0)) (src_list (ai.of aA)) hD (by rw[ao,sG];exact gO (by omega)) (λj H3 Kt Kf hj hs hkt hkf=>?_) (λH3 s3 hl3=>?_)⟩
   ·rw[ao,sG]at hj
    have ej:((ps.take (i+1)).map nV).getD j .non=nV (ps.getD j 0):=by
     rw[aL,fW (by rw[sG];exact hj)];show nV ((ps.take (i+1)).getD j 0)=_;rw[aL,Ex hj,<- aL]
    rw[ej];refine⟨_,rfl,_,rfl,_,rfl,l,_,_,_,rfl,rfl,(s2.trans (t.trans hs)).seq hl,at0 (fW hi),rfl,_,rfl,?_⟩;have ed:decide (nV (ps.getD j 0)=nV (ps.getD i 0))=decide (ps.getD j 0=ps.getD i 0):=by
     rw[cE,cw,cw];exact⟨λh=>by have:=V.int.inj h;omega,λh=>by rw[h]⟩
    rw[ed];exact bO (λh=>⟨_,rfl,hkt _ h (Same.refl _)⟩) (λh=>hkf _ (by simpa using h) (Same.refl _))
   ·rw[ao,sG]at hl3
    refine⟨D,_,rfl,.inl (ai.of hl3),?_⟩;rw[ao,RZ hi];obtain⟨W,Iz⟩:=hW (i+1) (by omega);have Tb:ps.take (i+1)=ps.take i++[ps.getD i 0]:=by
     rw[iZ,aq hi,aL,aq hi];rfl
    have hno:=Dv.W' (p:=ps.getD i 0) hg (by rw[<- Tb];exact Iz);have hcl:(ps.take i).count (ps.getD i 0)<=19:=cp List.count_le_length (by rw[iY];omega);refine⟨_,_,rfl,rfl,⟨by omega,by omega⟩,some (.int (0+(i:Int))),W,?_,s2.trans (t.trans s3),Iz⟩;have ew:(g:Int)*(0+(i:Int)+1) / (((ps.take i).count (ps.getD i 0)+1:Nat):Int)=(W:Int):=by
     rw[<- hno,q9,iW]
     congr 1
     push_cast
     rw[j5]
    dsimp only[bq];rw[ew];rfl
  ·rintro σ H2 ⟨v2,g,rfl,s2,hg⟩
   rw[en,kT]at hg;exact⟨_,rfl,kk g _ s2 hg⟩
abbrev B_:Stmt:=top 60
theorem NK:aU ["_law_one","_law_other"] ["_law_one","_law_other"] (aB B_):=⟨rfl,rfl,rfl,by decide +kernel,rfl,by decide +kernel,by decide +kernel⟩
noncomputable def Cv:Sp:=λvs H Q _=>∃a b:Nat,vs = [.int (a:Int),.int (b:Int)]/\a<=1000000/\b<=1000000/\∀H',Same H H'->Q (.int ((Nat.gcd a b:Nat):Int)) H'
theorem Xi (F:aR K "_law_common" "_law_common" B_ f fd) (T:Txt mg):aM P w K mg base aN 1 f fd ["_law_one","_law_other"] Cv:=by
 refine F.ok NK (λvs H Q E h=>?_) (λcdv A outer s H vs Q E hr h=>?_)
 ·obtain⟨a,b,rfl,_⟩:=h
  rfl
 ·obtain⟨a,b,rfl,ha,hb,kk⟩:=h
  have nd:=NK.nd;refine⟨_,(ay (qE bT (bW kB (pv 1) aD (bL _))
   (az (YQ (i:=0) (j:=1) rfl nd rfl rfl (by decide) rfl rfl (ag (pv 1) (ag (aO dv (pv 0) (pv 1)) ah)) rfl)))
   (az (aX (pv 0)))),?_⟩
  refine⟨λm σ H2=>∃x y:Nat,σ = [some (.int (x:Int)),some (.int (y:Int))]/\H2=H/\Nat.gcd x y=Nat.gcd a b/\m=y,⟨b,a,b,rfl,rfl,rfl,rfl⟩,?_⟩;rintro m σ H2 ⟨x,y,rfl,rfl,hg,hm⟩;subst m;refine⟨_,rfl,rfl,_,rfl,?_⟩;have ed:(!decide (V.int (y:Int)=V.int 0)) = !decide (y=0):=by
   congr 1
   rw[cE,cw,cw];exact⟨λh=>by have:=V.int.inj h;omega,λh=>by rw[h];rfl⟩
  rw[ed];refine bO (λh=>?_) (λh=>?_)
  ·have hy:y≠0:=by simpa using h
   refine⟨_,λσ' H' h=>h,?_⟩;refine⟨_,rfl,_,rfl,_,rfl,_,_,rfl,rfl,(by show(0:Int)<(y:Int);omega),?_⟩;exact⟨_,_,rfl,x % y,Nat.mod_lt _ (by omega),y,x % y,rfl,rfl,by rw[<- hg,wR x y,Nat.gcd_rec y x,wR],rfl⟩
  ·have hy:y=0:=by simpa using h
   subst hy;rw[Nat.gcd_zero_right]at hg;subst hg;exact⟨_,rfl,kk _ (Same.refl _)⟩
abbrev BV:Stmt:=top 38
theorem Nw:aU ["order","a","b"] ["order","a","b"] (aB BV):=⟨rfl,rfl,rfl,by decide +kernel,rfl,by decide +kernel,by decide +kernel⟩
noncomputable def CP(C:Addr):Sp:=λvs H Q _=>∃(p n a b:Nat) (R:Nat->Nat->Bool),vs = [.ref p,.int a,.int b]/\dg C H p n R/\a<n/\b<n/\∀H',Same H H'->Q (.bl (dq R a b)) H'
theorem Xu {C:Addr} (F:aR K "is_below" "is_below" BV f fd) (T:Txt mg) (TC:dk K C):aM P w K mg base aN 1 f fd ["order","a","b"] (CP C):=by
 refine F.ok Nw (λvs H Q E h=>?_) (λcdv A outer s H vs Q E hr h=>?_)
 ·obtain⟨p,n,a,b,R,rfl,_⟩:=h
  rfl
 ·obtain⟨p,n,a,b,R,rfl,hO,ha,hb,kk⟩:=h
  have nd:=Nw.nd;refine⟨_,(az (aX (qu (oq kB (pv 1) (pv 2) (bL _)) (ou (aF (aW (K:=K) rfl) (aF (aW (K:=K) rfl) (cy (K:=K) rfl (pv 0) rfl) (pv 1) (λ_ _=>rfl)) (pv 2) (λ_ _=>rfl)))))),?_⟩;have ed:(!decide (V.int (a:Int)=V.int (b:Int))) = !decide (a=b):=by
   congr 1
   exact Hg.mpr ⟨λh=>by injection h with h;omega,λh=>by rw[h]⟩
  refine⟨_,rfl,_,rfl,rfl,_,rfl,?_⟩;rw[ed];refine bO (λh=>?_) (λh=>?_)
  ·obtain⟨dx,vp,vr,vj,vm,o1,_,o3,_,_⟩:=hO
   obtain⟨ra,us,rb,rfl,q1,q2,q3⟩:=o3.get ha;refine⟨_,rfl,p,C,dx,_,_,rfl,o1,TC.cl,TC.nR,zp _ _ _ _ _,_,rfl,ra,us,_,.ref rb,rfl,rfl,ax.of q1,aS q2,_,rfl,rb,_,_,.bl (R a b),rfl,rfl,ax.of q3,aS (fI hb),?_⟩;have:=kk _ (Same.refl _);unfold dq at this;rw[h,lZ]at this;exact this
  ·have h2:(!decide (a=b))=false:=by simpa using h
   have:=kk _ (Same.refl _);unfold dq at this;rw[h2,lY]at this;exact this
abbrev uY:Stmt:=top 39
theorem Nx:aU ["order","a","b"] ["order","a","b"] (aB uY):=⟨rfl,rfl,rfl,by decide +kernel,rfl,by decide +kernel,by decide +kernel⟩
noncomputable def CQ(C:Addr):Sp:=λvs H Q _=>∃(p n a b:Nat) (R:Nat->Nat->Bool),vs = [.ref p,.int a,.int b]/\dg C H p n R/\n<=24/\a<n/\b<n/\∀H',Same H H'->Q (.bl (bF n R a b)) H'
theorem Xv {C:Addr} (F:aR K "is_step" "is_step" uY f fd) (T:Txt mg) (TC:dk K C) (pF:au P w K mg base "is_below" ["order","a","b"] 1 (CP C)):aM P w K mg base aN 2 f fd ["order","a","b"] (CQ C):=by
 refine F.ok Nx (λvs H Q E h=>?_) (λcdv A outer s H vs Q E hr h=>?_)
 ·obtain⟨p,n,a,b,R,rfl,_⟩:=h
  rfl
 ·obtain⟨p,n,a,b,R,rfl,hO,hn,ha,hb,kk⟩:=h
  have nd:=Nx.nd;refine⟨_,(ay (cM (iS (fJ (aQ pF hr rfl (ag (pv 0) (ag (pv 1) (ag (pv 2) ah (a9 nofun)) (a9 nofun)) (a9 nofun))))) (az (aX d0)) cU)
   (az (aX (Mb (cL (Rr (K:=K) rfl rfl) rfl T.any boot_any (ag (dc (own:=["thing"]) (fr:=[("order", 0),("a", 1),("b", 2)]) rfl (bQ (aB uY) ["order","a","b"] rfl rfl (by decide +kernel)) (dI rfl T.range (ag (cy (K:=K) rfl (pv 0) rfl) ah)) (λ_ _ _ _=>⟨(aZ (i:=0) (by decide +kernel:(["thing","order","a","b"]:List Str).Nodup) rfl (Or.inl rfl)),dw,(qu (aQ pF hr rfl (ag (pv 1) (ag (pv 2) (ag (pv 0) ah (a9 nofun)) (a9 nofun)) (a9 nofun))) (ou (aQ pF hr rfl (ag (pv 1) (ag (pv 0) (ag (pv 3) ah (a9 nofun)) (a9 nofun)) (a9 nofun)))))⟩)) ah)))))),?_⟩
  refine⟨_,rfl,_,rfl,_,rfl,p,n,a,b,R,rfl,hO,ha,hb,λH1 s1=>⟨_,rfl,?_⟩⟩;cases hab:dq R a b with
  |false =>
   refine lB ?_;have:=kk _ s1;unfold bF at this;rw[hab,lY]at this;exact this
  |true =>
   refine cI ?_;obtain⟨dx,vp,vr,vj,vm,o1,_,_,_,_⟩:=hO.cN s1;have en:((n:Int)).toNat=n:=ck n;refine⟨_,rfl,p,C,dx,_,_,rfl,o1,TC.cl,TC.nC,fE _ _ _ _ _,_,rfl,(bI (by omega)).1,(bI (by omega)).2,λD hD=>?_⟩;refine fu (λj=>.bl (dq R a j&&dq R j b)) src_range hD (by rw[en];exact cQ hn) (λj H3 Kt hj hs hk=>?_) (λH3 hs hl=>?_)
   ·rw[en]at hj
    refine⟨_,rfl,_,rfl,_,rfl,p,n,a,j,R,by simp,(hO.cN s1).cN hs,ha,hj,λH4 s4=>⟨_,rfl,?_⟩⟩;cases h1:dq R a j with
    |false =>
     refine cI ?_;have:=hk _ s4;rw[h1,lY]at this;exact this
    |true =>
     refine lB ⟨_,rfl,_,rfl,_,rfl,p,n,j,b,R,by simp,((hO.cN s1).cN hs).cN s4,hj,hb,λH5 s5=>?_⟩;have:=hk _ (s4.trans s5);rw[h1,lZ]at this;exact this
   ·rw[en]at hl
    refine⟨D,(List.range n).map (λj=>dq R a j&&dq R j b),rfl,ai.of (by rw[hl,bZ];rfl),_,rfl,?_⟩;have:=kk _ (s1.trans hs);unfold bF at this;rw[hab,lZ]at this;have e:((List.range n).map λj=>dq R a j&&dq R j b).any id=(List.range n).any λt=>dq R a t&&dq R t b:=by rw[Es];rfl
    rw[e];exact this
end
theorem Zn{α:Type}(k:α->Bool)(d:α)(l:List α):((List.range l.length).filter λi=>k (l.getD i d)).map (λi=>l.getD i d)=l.filter k:=by
 have e:l=(List.range l.length).map λi=>l.getD i d:=by
  apply gw
  ·simp
  ·intro i h1 h2
   simp[aL,aq h1]
 conv=>rhs;rw[e]
 rw[rg];rfl
theorem L8{α β:Type}{F:α->β->Prop}:∀{ps:List α} {us:List β},Paired F ps us->∃zs:List (α × β),ps=zs.map Prod.fst/\us=zs.map Prod.snd/\∀z∈zs,F z.1 z.2
 |_,_,.nil=>⟨[],rfl,rfl,λ_ h=>nomatch h⟩
 |_,_,.cons (a:=a) (b:=b) r t=>by
  obtain⟨zs,e1,e2,h⟩:=L8 t;refine⟨(a,b)::zs,by rw[e1];rfl,by rw[e2];rfl,λz hz=>?_⟩
  rcases aY.mp hz with rfl|hz
  ·exact r
  ·exact h z hz
theorem L5{α β:Type}{F:α->β->Prop}:∀{zs:List (α × β)},(∀z∈zs,F z.1 z.2)->Paired F (zs.map Prod.fst) (zs.map Prod.snd)
 | [],_=>.nil
 |z::zs,h=>.cons (h z bx) (L5 λy hy=>h y (bu _ hy))
theorem X9{F:Nat × Nat->V->Prop}(k:Nat × Nat->Bool){ps:List (Nat × Nat)}{us:List V}(h:Paired F ps us):Paired F (ps.filter k) (((List.range us.length).filter λi=>k (ps.getD i (0,0))).map λi=>us.getD i .non):=by
 obtain⟨zs,rfl,rfl,hz⟩:=L8 h;have e1:(zs.map Prod.fst).filter k=(zs.filter (k ∘ Prod.fst)).map Prod.fst:=by rw[rg]
 have e2:((List.range (zs.map Prod.snd).length).filter λi=>k ((zs.map Prod.fst).getD i (0,0))).map (λi=>(zs.map Prod.snd).getD i V.non)=(zs.filter (k ∘ Prod.fst)).map Prod.snd:=by
  rw[<- Zn (k ∘ Prod.fst) ((0,0),V.non) zs,bZ,ao];have g1:∀i,(zs.map Prod.fst).getD i (0,0)=(zs.getD i ((0,0),V.non)).1:=λi=>by
   rw[aL,aL,bC];cases zs[i]?<;>rfl
  have g2:∀i,(zs.map Prod.snd).getD i V.non=(zs.getD i ((0,0),V.non)).2:=λi=>by
   rw[aL,aL,bC];cases zs[i]?<;>rfl
  simp only[g1,g2];rfl
 rw[e1,e2];exact L5 λz hz'=>hz z (dm.mp hz').1
noncomputable def eE(n:Nat)(R:Nat->Nat->Bool):List (Nat × Nat):=(eV n R).filter λq=>bF n R q.1 q.2
theorem Kx{n:Nat}{R:Nat->Nat->Bool}{q:Nat × Nat}(h:q∈eV n R):q.1<n/\q.2<n/\q.1≠q.2/\R q.1 q.2=true:=by
 unfold eV at h;rw[wK]at h;obtain⟨l,hl,hq⟩:=h;rw[b9]at hq;obtain⟨x,hx,rfl⟩:=hq;rw[dm]at hx;obtain⟨h1,h2⟩:=hx;simp at hl h1 h2;exact⟨hl,h1,h2.1,h2.2⟩
theorem Kg{n:Nat}{R:Nat->Nat->Bool}(hn:n<=24):(eV n R).length<=576:=by
 unfold eV;rw[List.length_flatMap];have h:∀(l:List Nat),((l.map λa=>(((List.range n).filter λh=>!decide (a=h)&&R a h).map λh=>(a,h)).length).sum)<=24*l.length:=by
  intro l
  induction l with
  |nil=>simp
  |cons x l ih =>
   rw[bA,iA,dW];have h1:=iw (λh=>!decide (x=h)&&R x h) (List.range n);rw[d4]at h1;rw[ao];omega
 have:=h (List.range n);rw[d4]at this;omega
section
variable {P:Program} {w:World} {K:W.Frag} {mg:Str->Option Value} {base:Heap} {f:Addr} {fd:FuncData}
abbrev u_:Stmt:=top 40
theorem Oc:aU ["order"] ["order"] (aB u_):=⟨rfl,rfl,rfl,by decide +kernel,rfl,by decide +kernel,by decide +kernel⟩
noncomputable def Dd(C:Addr):Sp:=λvs H Q _=>∃(p n:Nat) (R:Nat->Nat->Bool),vs = [.ref p]/\dg C H p n R/\n<=24 /\
 ∀l us H',Same H H'->H l=none->H' l=some (.lst us)->us.length<=576->Paired (eU H') (eE n R) us->Q (.ref l) H'
theorem XR {C:Addr} (F:aR K "steps" "steps" u_ f fd) (T:Txt mg) (TC:dk K C) (yg:au P w K mg base "is_step" ["order","a","b"] 2 (CQ C)):aM P w K mg base aN 3 f fd ["order"] (Dd C):=by
 refine F.ok Oc (λvs H Q E h=>?_) (λcdv A outer s H vs Q E hr h=>?_)
 ·obtain⟨p,n,R,rfl,_⟩:=h
  rfl
 ·obtain⟨p,n,R,rfl,hO,hn,kk⟩:=h
  have nd:=Oc.nd;obtain⟨dx,vp,vr,vj,vm,o1,o2,_⟩:=id hO;obtain⟨ta,us,rfl,q1,q2⟩:=o2;have iP:us.length<=576:=by have:=dh q2;have:=Kg (n:=n) (R:=R) hn;omega
  refine⟨_,(az (aX (dc (own:=["pair"]) (fr:=[("order", 0)]) rfl (bQ (aB u_) ["order"] rfl rfl (by decide +kernel)) (kF (K:=K) rfl (cy (K:=K) rfl (pv 0) rfl)) (λ_ _ _ _=>⟨(aZ (i:=0) (by decide +kernel:(["pair","order"]:List Str).Nodup) rfl (Or.inl rfl)),(lK (fJ (aQ yg hr rfl (ag (pv 1) (ag (aF (aW (K:=K) rfl) (pv 0) aD (λ_ _=>rfl)) (ag (aF (aW (K:=K) rfl) (pv 0) aD (λ_ _=>rfl)) ah (a9 nofun)) (a9 nofun)) (a9 nofun))))),(pv 0)⟩)))),?_⟩;refine⟨_,rfl,p,C,dx,_,_,rfl,o1,TC.cl,TC.nP,Tp _ _ _ _ _,ta,rfl,⟨_,ax.of q1⟩,λD hD=>?_⟩;refine ni (λi=>bF n R ((eV n R).getD i (0,0)).1 ((eV n R).getD i (0,0)).2) (λi=>us.getD i .non) (oz (ax.of q1)) hD (gO (by omega)) (λi H3 Kt Kf hi hs hkt hkf=>?_) (λH3 hs hl=>?_)
  ·obtain⟨q,eq1,t,eq2,eq3⟩:=kC q2 (show us[i]?=some us[i]from aq hi)
   obtain⟨m1,m2,_,_⟩:=Kx (cu eq1);have e1:us.getD i .non = .ref t:=by rw[aL,aq hi,eq2];rfl
   have e2:(eV n R).getD i (0,0)=q:=by rw[aL,eq1];rfl
   have ht:=hs _ _ eq3;refine⟨_,rfl,_,rfl,t,_,0,.int q.1,e1,rfl,ax.of ht,rfl,_,rfl,t,_,1,.int q.2,e1,rfl,ax.of ht,rfl,p,n,q.1,q.2,R,rfl,hO.cN hs,hn,m1,m2,λH4 s4=>⟨_,rfl,bO (λh=>?_) (λh=>?_)⟩⟩
   ·exact⟨_,rfl,hkt _ (by rw[e2];exact h) s4⟩
   ·exact hkf _ (by rw[e2];simpa using h) s4
  ·refine kk D _ H3 hs hD hl ?_ ?_
   ·rw[ao]
    exact cp (iw _ _) (by rw[d4];exact iP)
   ·exact kD.same hs (X9 (λq=>bF n R q.1 q.2) q2)
end
end My
namespace L2
open PySem PySem.Spec PyProof.Rows
end L2
namespace My
open PySem PySem.Spec PyProof.Rows L2
theorem Oy{n:Nat}{R:Nat->Nat->Bool}{a b:Nat}(h:bF n R a b=true):dq R a b=true:=by
 unfold bF at h;rw[bw]at h;exact h.1
theorem WL{cs:List Nat}{i:Nat}(h:i<cs.length):cs.getD i 0∈cs:=by
 rw[aL,aq h];exact gB h
theorem TQ{l:List Nat}{j:Nat}(h:j<l.length):(l.map nV).getD j .non = .int ((l.getD j 0:Nat):Int):=by
 rw[aL,aL,bC,aq h];rfl
structure fQ (H0 H:Hp) (r n:Nat) (as:List Addr) (g:Nat->List V):Prop where
 same:Same H0 H
 lst:H r=some (.lst (as.map V.ref))
 len:as.length=n
 nd:as.Nodup
 A_:H0 r=none
 new:∀a∈as,H0 a=none/\a≠r
 row:∀(i:Nat) a,as[i]?=some a->H a=some (.lst (g i))
theorem fQ.congr{H0 H:Hp}{r n:Nat}{as:List Addr}{g g':Nat->List V}(W:fQ H0 H r n as g)(h:∀i,i<n->g i=g' i):fQ H0 H r n as g':=
 {W with row:=λi a e=>(W.row i a e).trans (by rw[h i (by rw[<- W.len];exact(bp.mp e).1)])}
theorem fQ.get{H0 H:Hp}{r n:Nat}{as:List Addr}{g:Nat->List V}(W:fQ H0 H r n as g){i:Nat}(hi:i<n):∃a,as[i]?=some a/\(as.map V.ref)[i]?=some (.ref a)/\a∈as/\H a=some (.lst (g i)):=by
 have h:i<as.length:=by rw[W.len];exact hi
 exact⟨as[i],aq h,by simp[h],gB h,W.row i _ (aq h)⟩
theorem fQ.grow{H0 H H':Hp}{r n:Nat}{as:List Addr}{g:Nat->List V}(W:fQ H0 H r n as g)(s:Same H H'):fQ H0 H' r n as g:=
 {W with same:=W.same.trans s,lst:=s _ _ W.lst,row:=λi a e=>s _ _ (W.row i a e)}
theorem fQ.put{H0 H:Hp}{r n:Nat}{as:List Addr}{g:Nat->List V}(W:fQ H0 H r n as g){i a:Nat}{ys:List V}(ha:as[i]?=some a):
  fQ H0 (upd H a (.lst ys)) r n as (λx=>if x=i then ys else g x):=by
 have am:a∈as:=cu ha;refine{W with same:=λb o e=>?_,lst:=?_,row:=λk b e=>?_}
 ·rw[aG (λz=>by rw[z,(W.new a am).1]at e;cases e)]
  exact W.same _ _ e
 ·rw[aG (b_ (W.new a am).2)]
  exact W.lst
 ·by_cases hk:k=i
  ·subst hk
   rw[ha]at e;cases e;rw[aA,if_pos rfl]
  ·have hba:b≠a:=by
    rintro rfl;exact hk (K0 W.nd e ha)
   rw[aG hba,W.row k b e,if_neg hk]
noncomputable def kN(H:Hp)(D n:Nat)(g:Nat->List Nat):Prop:=∃as:List Addr,H D=some (.lst (as.map V.ref))/\as.length=n/\∀(i:Nat) a,as[i]?=some a->H a=some (.lst ((g i).map nV))
theorem kN.same{H H':Hp}{D n:Nat}{g:Nat->List Nat}(s:Same H H')(h:kN H D n g):kN H' D n g:=by
 obtain⟨as,e,l,q⟩:=h;exact⟨as,s _ _ e,l,λi a ha=>s _ _ (q i a ha)⟩
theorem kN.get{H:Hp}{D n:Nat}{g:Nat->List Nat}(h:kN H D n g){i:Nat}(hi:i<n):∃vs b,H D=some (.lst vs)/\vs[i]?=some (.ref b)/\H b=some (.lst ((g i).map nV)):=by
 obtain⟨as,e,l,q⟩:=h;have ha:as[i]?=some as[i]:=aq (by omega);exact⟨_,as[i],e,by rw[bC,ha];rfl,q _ _ ha⟩
noncomputable def g_(ps:List (Nat × Nat))(i:Nat):List Nat:=(ps.filter λq=>decide (q.1=i)).map Prod.snd
noncomputable def bP(n:Nat)(R:Nat->Nat->Bool)(i:Nat):List Nat:=(List.range n).filter (bF n R i)
theorem QS(ps:List (Nat × Nat))(q:Nat × Nat)(i:Nat):g_ (ps++[q]) i=if i=q.1 then g_ ps i++[q.2]else g_ ps i:=by
 unfold g_;rw[wA,d5]
 by_cases h:i=q.1
 ·rw[if_pos h]
  have:[q].filter (λq=>decide (q.1=i)) = [q]:=by simp[h]
  rw[this];rfl
 ·rw[if_neg h]
  have:[q].filter (λq=>decide (q.1=i)) = []:=by
   simp;exact λz=>h z.symm
  rw[this];simp
theorem QR(ps:List (Nat × Nat))(i:Nat):(g_ ps i).length<=ps.length:=by
 unfold g_;rw[ao];exact iw _ _
theorem HQ{i:Nat}{X:List Nat}:∀{L:List Nat},L.Nodup->i∈L->L.flatMap (λl=>if l=i then X else[])=X
 | [],_,h=>nomatch h
 |l::L,nd,h=>by
  rw[wB]
  by_cases e:l=i
  ·subst e
   have:L.flatMap (λx=>if x=l then X else[]) = []:=by
    rw[List.flatMap_eq_nil_iff];intro x hx;rw[if_neg (λz:x=l=>(fe.mp nd).1 (z▸hx))]
   rw[if_pos rfl,this,j8]
  ·rw[if_neg e,List.nil_append]
   rcases aY.mp h with z|z
   ·exact absurd z.symm e
   ·exact HQ (fe.mp nd).2 z
theorem QT{n:Nat}{R:Nat->Nat->Bool}{i:Nat}(hi:i<n):g_ (eE n R) i=bP n R i:=by
 unfold g_ eE eV bP;rw[List.filter_filter,List.filter_flatMap,List.map_flatMap];have key:∀l,((((List.range n).filter λh=>!decide (l=h)&&R l h).map λh=>(l,h)).filter λq=>(decide (q.1=i)&&bF n R q.1 q.2)).map Prod.snd=if l=i then(List.range n).filter (bF n R i)else[]:=by
  intro l;rw[rg,bZ,List.filter_filter]
  by_cases e:l=i
  ·subst e
   rw[if_pos rfl];have e2:(Prod.snd ∘ λh:Nat=>(l,h))=id:=rfl;rw[e2,List.map_id];apply List.filter_congr
   intro x hx;show((decide (l=l)&&bF n R l x)&&(!decide (l=x)&&R l x))=bF n R l x;cases hs:bF n R l x with
   |false=>simp
   |true =>
    have:=Oy hs;unfold dq at this;rw[this];simp
  ·rw[if_neg e]
   have:(List.range n).filter (λa=>(((λq:Nat × Nat=>(decide (q.1=i)&&bF n R q.1 q.2)) ∘ λh=>(l,h)) a&&(!decide (l=a)&&R l a))) = []:=by
    rw[List.filter_eq_nil_iff];intro x _;simp[e]
   rw[this];rfl
 rw[show(λa=>(((((List.range n).filter λh=>!decide (a=h)&&R a h).map λh=>(a,h)).filter λq=>(decide (q.1=i)&&bF n R q.1 q.2))).map Prod.snd)=λl=>if l=i then(List.range n).filter (bF n R i)else[]from funext key];exact HQ List.nodup_range (by simpa using hi)
theorem Wg{n:Nat}{R:Nat->Nat->Bool}(hn:n<=24):(eE n R).length<=576:=by
 have h1:=iw (λq:Nat × Nat=>bF n R q.1 q.2) (eV n R);have h2:=Kg (n:=n) (R:=R) hn;unfold eE;omega
theorem WN{n:Nat}{R:Nat->Nat->Bool}{q:Nat × Nat}(h:q∈eE n R):q.1<n/\q.2<n:=by
 have:=Kx (dm.mp h).1;exact⟨this.1,this.2.1⟩
section
variable {P:Program} {w:World} {K:W.Frag} {mg:Str->Option Value} {base:Heap} {f:Addr} {fd:FuncData}
abbrev va:Stmt:=top 41
theorem Od:aU ["order","above","step"] ["order"] (aB va):=⟨rfl,rfl,rfl,by decide +kernel,rfl,by decide +kernel,by decide +kernel⟩
noncomputable def vJ(C:Addr):Sp:=λvs H Q _=>∃(p n:Nat) (R:Nat->Nat->Bool),vs = [.ref p]/\dg C H p n R/\n<=24/\∀D H',Same H H'->H D=none->kN H' D n (bP n R)->Q (.ref D) H'
theorem XQ {C:Addr} (F:aR K "steps_above" "steps_above" va f fd) (T:Txt mg) (TC:dk K C) (yp:au P w K mg base "steps" ["order"] 3 (Dd C)):aM P w K mg base aN 4 f fd ["order"] (vJ C):=by
 refine F.ok Od (λvs H Q E h=>?_) (λcdv A outer s H vs Q E hr h=>?_)
 ·obtain⟨p,n,R,rfl,_⟩:=h
  rfl
 ·obtain⟨p,n,R,rfl,hO,hn,kk⟩:=h
  have nd:=Od.nd;have en:((n:Int)).toNat=n:=ck n;obtain⟨dx,vp,vr,vj,vm,o1,_⟩:=id hO;refine⟨_,(ay (qC (i:=1) nd rfl rfl (own:=["thing"]) (fr:=[]) rfl (bQ (aB va) ["order","above","step"] rfl rfl (by decide +kernel)) (dI rfl T.range (ag (cy (K:=K) rfl (pv 0) rfl) ah)) (λ_ _ _ _=>⟨(aZ (i:=0) (by decide +kernel:(["thing"]:List Str).Nodup) rfl (Or.inl rfl)),dw,(ic ah)⟩))
   (ay (cD bT rfl (eB (K:=K) rfl (aQ yp hr rfl (ag (pv 0) ah))) (aZ (i:=2) nd rfl (Or.inl rfl))
   (az (dJ (kE (K:=K) rfl mL rO xq qe (aF (bB (K:=K) rfl) (pv 1) (aF (aW (K:=K) rfl) (pv 2) aD (λ_ _=>rfl)) (λ_ _=>rfl)) (ag (aF (aW (K:=K) rfl) (pv 2) aD (λ_ _=>rfl)) ah)))))
   (az (aX (pv 1))))),?_⟩
  refine⟨_,rfl,p,C,dx,_,_,rfl,o1,TC.cl,TC.nC,fE _ _ _ _ _,_,rfl,(bI (by omega)).1,(bI (by omega)).2,λD hD=>G8 (λ_=>[]) src_range hD (cQ (by omega)) (λi H2 Kt hi hs hk=>?_) (λH1 as hs hl h1 h2 h3 h4=>?_)⟩
  ·exact⟨by show 0<=sizeLine;decide,λa ha=>hk a _ (Same.put ha) ha aA⟩
  ·have W0:fQ H H1 D n as (λx=>(g_ ((eE n R).take 0) x).map nV):=⟨hs,hl,h1.trans en,h2,hD,h3,λi b e=>h4 i b e⟩
   refine⟨_,rfl,p,n,R,rfl,hO.cN hs,hn,λL us H2 s2 hL q2 iP hp=>?_⟩;refine⟨L,rfl,⟨_,ai.of q2⟩,jE (K:=K) (a:=L) (xs:=us) (λi σ H3=>∃v2,σ = [some (.ref p),some (.ref D),v2]/\fQ H H3 D n as (λx=>(g_ ((eE n R).take i) x).map nV)/\H3 L=some (.lst us)/\Paired (eU H3) (eE n R) us)
    ⟨none,rfl,W0.grow s2,q2,hp⟩ (λi σ H3 _ ⟨_,_,_,q3,_⟩=>ai.of q3) ?_ ?_⟩
   ·rintro i y σ H3 hy ⟨v2,rfl,W,q3,hp3⟩
    obtain⟨q,hq,t,rfl,ht⟩:=kC hp3 hy;have U8:=WN (cu hq);obtain⟨a,ra,rb,rc,rd⟩:=W.get U8.1;have haL:L≠a:=λz=>by
     have:=h4 q.1 a ra;rw[<- z,hL]at this;cases this
    refine⟨_,rfl,_,rfl,t,_,0,.int (q.1:Int),rfl,rfl,ax.of ht,rfl,D,_,_,.ref a,rfl,rfl,ai.of W.lst,aS rb,.inl ⟨rfl,_,ai.of rd⟩,_,rfl,t,_,1,.int (q.2:Int),rfl,rfl,ax.of ht,rfl,?_⟩;have hlen:((g_ ((eE n R).take i) q.1).map nV).length<=576:=by
     rw[ao];have e1:=QR ((eE n R).take i) q.1;have e2:=Wg (n:=n) (R:=R) hn;have e3:((eE n R).take i).length<=(eE n R).length:=List.length_take_le' _ _;omega
    refine⟨a,_,.int (q.2:Int),rfl,rfl,rd,qS (by omega),?_⟩;have et:(eE n R).take (i+1)=(eE n R).take i++[q]:=by rw[iZ,hq];rfl
    refine⟨_,rfl,(W.put ra).congr λx hx=>?_,by rw[aG haL];exact q3,uA rd hp3⟩;rw[et,QS]
    by_cases e:x=q.1
    ·rw[if_pos e,if_pos e,d5,e]
     rfl
    ·rw[if_neg e,if_neg e]
   ·rintro σ H3 ⟨v2,rfl,W,q3,hp3⟩
    have el:us.length=(eE n R).length:=(dh hp3).symm;rw[el,kT]at W;refine⟨_,rfl,kk D H3 W.same hD ⟨as,W.lst,W.len,λi a ha=>?_⟩⟩;rw[W.row i a ha,QT (by rw[<- W.len];exact(bp.mp ha).1)]
end
noncomputable def dj(n:Nat)(R:Nat->Nat->Bool)(a:Nat):Nat:=((List.range n).map (R a)).count true
theorem P_{α β γ:Type}(f:α->β)(g:α->γ):∀l:List α,(l.map f).zip (l.map g)=l.map λa=>(f a,g a)
 | []=>rfl
 |a::l=>by rw[bA,bA,mE,P_ f g l];rfl
theorem Yw{α β:Type}{f:α->β}{l:List α}{m:List β}(h:m.Perm (l.map f)):∃l':List α,m=l'.map f/\l'.Perm l:=by
 generalize e:l.map f=k at h
 induction h generalizing l with
 |nil =>
  have:l = []:=by simpa using e
  subst this;exact⟨[],rfl,.nil⟩
 |cons x _ ih =>
  cases l with
  |nil=>cases e
  |cons a l =>
   rw[bA,mB]at e;obtain⟨l',h1,h2⟩:=ih e.2;exact⟨a::l',by rw[h1,bA,e.1],h2.cons a⟩
 |swap x y _ =>
  cases l with
  |nil=>cases e
  |cons a l =>
   cases l with
   |nil=>simp at e
   |cons c l =>
    rw[bA,bA,mB,mB]at e;refine⟨c::a::l,?_,.swap _ _ _⟩;rw[bA,bA,e.1,e.2.1,e.2.2]
 |trans _ _ ih1 ih2 =>
  obtain⟨l1,h1,h2⟩:=ih2 e;obtain⟨l2,h3,h4⟩:=ih1 h1.symm;exact⟨l2,h3,h4.trans h2⟩
section
variable {P:Program} {w:World} {K:W.Frag} {mg:Str->Option Value} {base:Heap} {f:Addr} {fd:FuncData}
abbrev uX:Stmt:=top 42
theorem Nu:aU ["order"] ["order"] (aB uX):=⟨rfl,rfl,rfl,by decide +kernel,rfl,by decide +kernel,by decide +kernel⟩
abbrev iM:Pos:=⟨167,42,167,86⟩
abbrev iN:Str:=("highest_first" : Str) ++ ".<locals>." ++ "<lambda>"
noncomputable def vo(C Pt:Addr):Sp:=λvs H Q _=>∃(p n:Nat) (R:Nat->Nat->Bool),vs = [.ref p]/\dg C H p n R/\n<=24/\H Pt=some (.lam iM iN) /\
 ∀(r:Addr) (hs:List Nat) (H':Hp),Same H H'->H r=none->H' r=some (.lst (hs.map nV))->hs.Perm (List.range n)->hs.Pairwise (λa b=>dj n R a<=dj n R b)->Q (.ref r) H'
theorem Xs {C c Pt:Addr} (F:aR K "highest_first" "highest_first" uX f fd) (hc:fd.code = .ref c) (tb:TabAt base mg c Pt) (T:Txt mg) (TC:dk K C):aM P w K mg base aN 1 f fd ["order"] (vo C Pt):=by
 refine F.uq hc Nu (λvs H Q E h=>?_) (λA outer s H vs Q E hr h=>?_)
 ·obtain⟨p,n,R,rfl,_⟩:=h
  rfl
 ·obtain⟨p,n,R,rfl,hO,hn,hP,kk⟩:=h
  have nd:=Nu.nd;refine⟨_,(az (aX (Ys (x:= "thing") (fr:=[("order", 0)]) rfl T.sorted tb rfl (hr.mono (bM _)) ⟨bQ (aB uX) ["order"] rfl rfl (by decide +kernel),⟨rfl,rfl,rfl,by decide +kernel,by decide +kernel,by decide +kernel,by decide +kernel⟩,λ_ _ _ _ us hl=>match us,hl with | [_],_=>rfl,λ_ _ _ _ _ _ _ _=>kE (K:=K) rfl PySem.F.plainAttrs_tuple QK PySem.F.type_tuple_count (W3 (K:=K) rfl) (aF (aW (K:=K) rfl) (cy (K:=K) rfl (pv 1) rfl) (pv 0) (λ_ _=>rfl)) (ag d0 ah)⟩ (eA Ry (by rfl) T.range boot_range (ag (cy (K:=K) rfl (pv 0) rfl) ah))))),?_⟩;obtain⟨dx,vp,vr,vj,vm,o1,_,o3,_⟩:=id hO;refine⟨_,rfl,p,C,dx,_,_,rfl,o1,TC.cl,TC.nC,fE _ _ _ _ _,(n:Int),rfl,λr hr=>?_⟩;have en:((n:Int)).toNat=n:=ck n;have sm:=Same.put (o:=.rng 0 (n:Int)) hr;refine⟨sm _ _ hP,(List.range n).map nV,(List.range n).map λa=>((dj n R a:Nat):Int),.inl ⟨r,n,rfl,aA,by omega,by omega,by rw[en]⟩,by simp,by simp;omega,λi y k hy hk H3 s3=>?_,λys r2 H3 s3 n3 g3 so=>?_⟩
  ·have hi:i<n:=by simpa using(bp.mp hy).1
   have ey:y=nV i:=by
    rw[bC,oR hi]at hy;exact(df hy).symm
   have ek:k=((dj n R i:Nat):Int):=by
    rw[bC,oR hi]at hk;exact(df hk).symm
   subst ey ek;obtain⟨ra,us,rb,rfl,q1,q2,q3⟩:=(o3.same (sm.trans s3)).get hi;refine⟨_,rfl,p,C,dx,_,_,rfl,s3 _ _ (sm _ _ o1),TC.cl,TC.nR,zp _ _ _ _ _,_,rfl,ra,us,_,.ref rb,rfl,rfl,ax.of q1,aS q2,?_⟩;have e3:H3 rb=some (.tup (((List.range n).map (R i)).map V.bl)):=by rw[q3,bZ];rfl
   exact⟨.inr (.inr (.inr (.inr ⟨rfl,_,e3⟩))),rb,_,rfl,rfl,ax.of e3,rfl,Same.refl _⟩
  ·obtain⟨ps,h1,h2,h3⟩:=so
   have hz:((List.range n).map λa=>((dj n R a:Nat):Int)).zip ((List.range n).map nV)=(List.range n).map λa=>(((dj n R a:Nat):Int),nV a):=P_ _ _ _;rw[hz]at h1;obtain⟨hs,e1,e2⟩:=Yw h1;subst e1;refine kk r2 hs H3 (sm.trans s3) (sm.free n3) (by rw[g3,h2,bZ];rfl) e2 ?_;rw[fh]at h3;exact h3.imp λ{a b} h=>by have h':((dj n R a:Nat):Int)<=((dj n R b:Nat):Int):=h;omega
end
end My
namespace Cl
section
variable (g:Nat->List Nat) (b:Nat)
noncomputable def climbs:Nat->Nat->List (List Nat)
 |0,a=>if a=b then[[a]]else[]
 |k+1,a=>if a=b then[[a]]else(g a).flatMap λd=>(climbs k d).map (a::·)
end
theorem HN{α β:Type}{f f':α->List β}:∀{l:List α},(∀x∈l,f x=f' x)->l.flatMap f=l.flatMap f'
 | [],_=>rfl
 |x::l,h=>by rw[wB,wB,h x bx,HN λy hy=>h y (bu _ hy)]
section
variable {g:Nat->List Nat} {b:Nat} {u:Nat->Nat}
theorem G3(hu:∀a d,d∈g a->u d<u a):∀(k a:Nat),u a<=k->climbs g b k a=climbs g b (k+1) a
 |0,a,h=>by
  have:g a = []:=by
   cases e:g a with
   |nil=>rfl
   |cons d r=>have:=hu a d (by rw[e];exact bx);omega
  show(if a=b then[[a]]else[])=if a=b then[[a]]else(g a).flatMap _
  rw[this];rfl
 |k+1,a,h=>by
  show(if a=b then[[a]]else(g a).flatMap λd=>(climbs g b k d).map (a::·))=if a=b then[[a]]else(g a).flatMap λd=>(climbs g b (k+1) d).map (a::·)
  rw[HN λd hd=>by rw[G3 hu k d (by have:=hu a d hd;omega)]]
theorem RQ(hu:∀a d,d∈g a->u d<u a){N a:Nat}(h:u a<=N):climbs g b N a=if a=b then[[a]]else(g a).flatMap λd=>(climbs g b N d).map (a::·):=by
 rw[G3 hu N a h];show(if a=b then[[a]]else(g a).flatMap λd=>(climbs g b N d).map (a::·))=_;rfl
noncomputable def W(g:Nat->List Nat)(b N a:Nat):Nat:=(climbs g b N a).length
theorem Gf{N:Nat}:W g b N b=1:=by
 unfold W;cases N<;>simp[climbs]
theorem Gg(hu:∀a d,d∈g a->u d<u a){N a:Nat}(h:u a<=N)(hab:a≠b):W g b N a=((g a).map (W g b N)).sum:=by
 unfold W;rw[RQ hu h,if_neg hab,List.length_flatMap]
 congr 1
 exact fc λd _=>ao _
end
theorem Dr{W:Nat->Nat}:∀{l1 l2:List Nat},l1.Nodup->(∀x∈l1,x∈l2)->(l1.map W).sum<=(l2.map W).sum
 | [],_,_,_=>bM _
 |x::l1,l2,nd,h=>by
  obtain⟨n1,n2⟩:=fe.mp nd;have p:=List.perm_cons_erase (h x bx);have e:(l2.map W).sum=W x+((l2.erase x).map W).sum:=by
   rw[(p.map W).sum_nat,bA,iA]
  rw[e,bA,iA];have:=Dr (W:=W) (l1:=l1) (l2:=l2.erase x) n2 λy hy=>(List.mem_erase_of_ne (by rintro rfl;exact n1 hy)).mpr (h y (bu _ hy));omega
theorem ahead{g:Nat->List Nat}{u:Nat->Nat}(hu:∀a d,d∈g a->u d<u a){hs:List Nat}(hp:hs.Pairwise λa b=>u a<=u b){i x d:Nat}(hx:hs[i]?=some x)(hd:d∈g x)(hm:d∈hs):d∈hs.take i:=by
 obtain⟨j,hj,e⟩:=iX hm;obtain⟨hi,ex⟩:=bp.mp hx;have hlt:=hu x d hd;have:j<i:=by
  apply wj
  intro z
  rcases wW i j with h|h
  ·have:=rC.mp hp i j hi hj h
   rw[ex,e]at this;omega
  ·obtain rfl:i=j:=by omega
   rw[ex]at e;rw[e]at hlt;omega
 rw[List.mem_take_iff_getElem];exact⟨j,by omega,e⟩
theorem Gh{g:Nat->List Nat}{u:Nat->Nat}{b N:Nat}(hu:∀a d,d∈g a->u d<u a)(hs:∀a,(g a).Pairwise (· < ·))(hN:∀a,u a<=N){l:List Nat}(hp:l.Pairwise λa b=>u a<=u b)(hall:∀a d,d∈g a->d∈l):∀i,i<=l.length->((l.take i).map (W g b N)).sum+1<=2 ^ i
 |0,_=>by simp
 |i+1,hi=>by
  have ih:=Gh hu hs hN hp hall (b:=b) i (by omega);have hx:l[i]?=some l[i]:=aq (by omega);rw[iZ,hx];show(((l.take i++[l[i]]).map (W g b N)).sum)+1<=2 ^ (i+1);rw[d5,List.sum_append,List.map_singleton,List.sum_singleton,iD];have p2:1<=2 ^ i:=Nat.one_le_two_pow
  by_cases e:l[i]=b
  ·rw[e,Gf];omega
  ·rw[Gg hu (hN _) e]
   have:=Dr (W:=W g b N) (l1:=g l[i]) (l2:=l.take i) ((hs _).imp λ{a b} h=>by omega) λd hd=>ahead hu hp hx hd (hall _ _ hd);omega
theorem QQ{g:Nat->List Nat}{u:Nat->Nat}{b N n:Nat}(hu:∀a d,d∈g a->u d<u a)(hs:∀a,(g a).Pairwise (· < ·))(hN:∀a,u a<=N)(hall:∀a d,d∈g a->d<n){a:Nat}(ha:a<n):W g b N a+1<=2 ^ n:=by
 have hp:((List.range n).mergeSort λa b=>decide (u a<=u b)).Pairwise λa b=>u a<=u b:=by
  refine(List.pairwise_mergeSort (le:=λa b=>decide (u a<=u b)) (λa b c h1 h2=>?_) (λa b=>?_) _).imp λ{a b} h=>fX h
  ·exact cC (cp (fX h1) (fX h2))
  ·rcases Nat.le_total (u a) (u b)with h|h<;>simp[h]
 have pm:=List.mergeSort_perm (List.range n) λa b=>decide (u a<=u b);have hl:((List.range n).mergeSort λa b=>decide (u a<=u b)).length=n:=by rw[pm.length_eq,d4]
 have key:=Gh (b:=b) (N:=N) hu hs hN hp (λa d h=>pm.mem_iff.mpr (bD.mpr (hall a d h))) n (by omega);rw[Fg (by omega)]at key;have:=Dr (W:=W g b N) (l1:=[a]) (l2:=(List.range n).mergeSort λa b=>decide (u a<=u b)) (by simp) λx hx=>by
  have:x=a:=by simpa using hx
  subst this;exact pm.mem_iff.mpr (bD.mpr ha)
 rw[List.map_singleton,List.sum_singleton]at this;omega
end Cl
namespace My
open PySem PySem.Spec PyProof.Rows L2
noncomputable def gA(n:Nat)(R:Nat->Nat->Bool)(a:Nat):List Nat:=if a<n then bP n R a else[]
theorem nz{n:Nat}{R:Nat->Nat->Bool}{a:Nat}(h:a<n):gA n R a=bP n R a:=by unfold gA;rw[if_pos h]
theorem gK{n:Nat}{R:Nat->Nat->Bool}{a d:Nat}:d∈gA n R a ↔ a<n/\d<n/\bF n R a d=true:=by
 unfold gA
 by_cases h:a<n
 ·rw[if_pos h]
  unfold bP;rw[dm,bD];exact⟨λz=>⟨h,z⟩,λz=>z.2⟩
 ·rw[if_neg h]
  exact⟨λz=>(nomatch z),λz=>absurd z.1 h⟩
theorem TB(n:Nat)(R:Nat->Nat->Bool)(a:Nat):(gA n R a).Pairwise (· < ·):=by
 unfold gA
 split
 ·exact wM.filter _
 ·exact List.Pairwise.nil
theorem G9{p q:Nat->Bool}{x:Nat}:∀{l:List Nat},x∈l->(∀y∈l,p y=true->q y=true)->p x=false->q x=true->l.countP p<l.countP q
 | [],h,_,_,_=>nomatch h
 |y::l,h,hpq,h1,h2=>by
  rw[List.countP_cons,List.countP_cons];have le:l.countP p<=l.countP q:=List.countP_mono_left λz hz=>hpq z (bu _ hz)
  by_cases e:x=y
  ·subst e
   rw[h1,h2];simp;omega
  ·have hx:x∈l:=by
    rcases aY.mp h with z|z
    ·exact absurd z e
    ·exact z
   have:=G9 hx (λz hz=>hpq z (bu _ hz)) h1 h2;have hy:=hpq y bx;cases hp:p y with
   |false=>simp;omega
   |true=>rw[hy hp];simp;omega
theorem DG(n:Nat)(R:Nat->Nat->Bool)(a:Nat):dj n R a=(List.range n).countP (R a):=by
 unfold dj;rw[List.count,Et];exact List.countP_congr λx _=>by simp
theorem oC(n:Nat)(R:Nat->Nat->Bool)(a:Nat):dj n R a<=n:=by
 rw[DG];have:=List.countP_le_length (p:=R a) (l:=List.range n);rw[d4]at this;exact this
theorem kL{n:Nat}{R:Nat->Nat->Bool}(G:Good n R):∀a d,d∈gA n R a->dj n R d<dj n R a:=λa d h=>by
 obtain⟨ha,hd,hs⟩:=gK.mp h;have hb:=Oy hs;unfold dq at hb;rw[bw,oH,yu]at hb;rw[DG,DG];refine G9 (x:=a) (bD.mpr ha) (λy hy h=>G.trans ha hd (bD.mp hy) hb.2 h) ?_ (G.refl a ha);cases e:R d a with
 |false=>rfl
 |true=>exact absurd (G.anti a d ha hd hb.2 e) hb.1
noncomputable def dB(n:Nat)(R:Nat->Nat->Bool)(b a:Nat):Nat:=Cl.W (gA n R) b n a
section
variable {n:Nat} {R:Nat->Nat->Bool}
theorem DY{b:Nat}:dB n R b b=1:=Cl.Gf
theorem PX(G:Good n R){b a:Nat}(ha:a<n)(h:a≠b):dB n R b a=((bP n R a).map (dB n R b)).sum:=by
 unfold dB;rw[Cl.Gg (kL G) (oC n R a) h,nz ha]
theorem aaZ(G:Good n R){b a:Nat}(ha:a<n):dB n R b a+1<=2 ^ n:=Cl.QQ (kL G) (TB n R) (oC n R) (λa d h=>(gK.mp h).2.1) ha
theorem aa0(G:Good n R)(hn:n<=24){b a:Nat}(ha:a<n):dB n R b a<16777216:=by
 have h1:=aaZ G (b:=b) ha;have h2:2 ^ n<=2 ^ 24:=Nat.pow_le_pow_right (by decide) hn;have h3:(2:Nat) ^ 24=16777216:=by decide
 omega
end
structure Md (n:Nat) (R:Nat->Nat->Bool) (J N:Nat->Nat->Nat):Prop where
 G:Good n R
 j:∀a b,a<n->b<n->cz n R a b (J a b)
 m:∀a b,a<n->b<n->cA n R a b (N a b)
 md:∀a b c,a<n->b<n->c<n->R a c=true->J a (N b c)=N (J a b) c
theorem lS{n:Nat}{R:Nat->Nat->Bool}{a b:Nat}:bF n R a b=true ↔ a≠b/\R a b=true/\∀t,t<n->R a t=true->R t b=true->t=a\/t=b:=by
 unfold bF dq;rw[bw,bw,oH,yu,oH,List.any_eq_false]
 constructor
 ·rintro⟨⟨h1,h2⟩,h3⟩
  refine⟨h1,h2,λt ht q1 q2=>?_⟩;apply wj
  intro z;have z1:a≠t:=λe=>z (.inl e.symm);have z2:t≠b:=λe=>z (.inr e);exact h3 t (bD.mpr ht) (by rw[q1,q2,dr z1,dr z2];rfl)
 ·rintro⟨h1,h2,h3⟩
  refine⟨⟨h1,h2⟩,λt ht q=>?_⟩;simp only[bw,oH,yu]at q
  rcases h3 t (bD.mp ht) q.1.2 q.2.2 with e|e
  ·exact q.1.1 e.symm
  ·exact q.2.1 e
section
variable {n:Nat} {R:Nat->Nat->Bool} {J N:Nat->Nat->Nat} {a b c x y:Nat}
theorem Md.fU(M:Md n R J N)(ha:a<n)(hb:b<n):J a b<n:=(M.j a b ha hb).1
theorem Md.mlt(M:Md n R J N)(ha:a<n)(hb:b<n):N a b<n:=(M.m a b ha hb).1
theorem Md.jl(M:Md n R J N)(ha:a<n)(hb:b<n):R a (J a b)=true/\R b (J a b)=true:=by
 have h:=(M.j a b ha hb).2 _ (M.fU ha hb);rw[M.G.refl _ (M.fU ha hb)]at h;have h:=h.symm
 rwa [bw]at h
theorem Md.ml(M:Md n R J N)(ha:a<n)(hb:b<n):R (N a b) a=true/\R (N a b) b=true:=by
 have h:=(M.m a b ha hb).2 _ (M.mlt ha hb);rw[M.G.refl _ (M.mlt ha hb)]at h;have h:=h.symm
 rwa [bw]at h
theorem Md.qc(M:Md n R J N)(ha:a<n)(hb:b<n)(hc:c<n)(h1:R a c=true)(h2:R b c=true):R (J a b) c=true:=by
 rw[(M.j a b ha hb).2 c hc,h1,h2];rfl
theorem Md.uf(M:Md n R J N)(ha:a<n)(hb:b<n)(hc:c<n)(h1:R c a=true)(h2:R c b=true):R c (N a b)=true:=by
 rw[(M.m a b ha hb).2 c hc,h1,h2];rfl
theorem Md.jc(M:Md n R J N)(ha:a<n)(hb:b<n):J a b=J b a:=
 M.G.anti _ _ (M.fU ha hb) (M.fU hb ha) (M.qc ha hb (M.fU hb ha) (M.jl hb ha).2 (M.jl hb ha).1) (M.qc hb ha (M.fU ha hb) (M.jl ha hb).2 (M.jl ha hb).1)
theorem Md.mc(M:Md n R J N)(ha:a<n)(hb:b<n):N a b=N b a:=
 M.G.anti _ _ (M.mlt ha hb) (M.mlt hb ha) (M.uf hb ha (M.mlt ha hb) (M.ml ha hb).2 (M.ml ha hb).1) (M.uf ha hb (M.mlt hb ha) (M.ml hb ha).2 (M.ml hb ha).1)
theorem Md.JM(M:Md n R J N)(ha:a<n)(hb:b<n)(h:R a b=true):J a b=b:=M.G.anti _ _ (M.fU ha hb) hb (M.qc ha hb hb h (M.G.refl _ hb)) (M.jl ha hb).2
theorem Md.WQ(M:Md n R J N)(ha:a<n)(hb:b<n)(h:R a b=true):N a b=a:=M.G.anti _ _ (M.mlt ha hb) ha (M.ml ha hb).1 (M.uf ha hb ha (M.G.refl _ ha) h)
theorem Md.lo(M:Md n R J N)(hx:x<n)(hy:y<n)(h:bF n R y (J x y)=true):bF n R (N x y) x=true:=by
 obtain⟨h1,h2,h3⟩:=lS.mp h;have hm:=M.mlt hx hy;refine lS.mpr ⟨λe=>h1 ?_,(M.ml hx hy).1,λz hz q1 q2=>?_⟩
 ·have:=(M.ml hx hy).2
  rw[e]at this;exact(M.JM hx hy this).symm
 ·have hj:J z y<n:=M.fU hz hy
  have md:=M.md z y x hz hy hx q2
  rcases h3 (J z y) hj (M.jl hz hy).2 (M.qc hz hy (M.fU hx hy) (M.G.trans hz hx (M.fU hx hy) q2 (M.jl hx hy).1) (M.jl hx hy).2)with e|e
  ·have hzy:R z y=true:=by
    have:=(M.jl hz hy).1
    rwa [e]at this
   exact .inl (M.G.anti _ _ hz hm (M.uf hx hy hz q2 hzy) q1)
  ·rw[e]at md
   have e1:J z (N y x)=z:=by
    rw[M.mc hy hx,M.jc hz hm];exact M.JM hm hz q1
   have e2:N (J x y) x=x:=by
    rw[M.mc (M.fU hx hy) hx];exact M.WQ hx (M.fU hx hy) (M.jl hx hy).1
   rw[e1,e2]at md;exact .inr md
open Classical in
noncomputable def rk (G:Good n R) (x:Nat):Nat:=if h:∃y,y<n/\x<n/\bF n R y x=true then rk G h.choose+1 else 0
termination_by n - dj n R x
decreasing_by
 obtain⟨h1,h2,h3⟩:=h.choose_spec;have:=kL G _ _ (gK.mpr ⟨h1,h2,h3⟩);have:=oC n R h.choose;omega
theorem uI(G:Good n R)(h:∀y,y<n->x<n->bF n R y x=true->False):rk G x=0:=by
 unfold rk;rw[dif_neg (λ⟨y,h1,h2,h3⟩=>h y h1 h2 h3)]
theorem Md.By(M:Md n R J N):∀(k a b:Nat),n - dj n R b<=k->a<n->b<n->bF n R a b=true->rk M.G b=rk M.G a+1:=by
 intro k
 induction k with
 |zero =>
  intro a b hk ha hb hs;have h1:=kL M.G _ _ (gK.mpr ⟨ha,hb,hs⟩);have h2:=oC n R a;omega
 |succ k ih =>
  intro a b hk ha hb hs;have hex:∃y,y<n/\b<n/\bF n R y b=true:=⟨a,ha,hb,hs⟩;have e0:rk M.G b=rk M.G hex.choose+1:=by
   conv=>lhs;unfold rk
   rw[dif_pos hex]
  rw[e0];obtain⟨hc,_,hcs⟩:=hex.choose_spec;generalize hex.choose=c at hc hcs
  by_cases hac:a=c
  ·rw[hac]
  ·obtain⟨a1,a2,a3⟩:=lS.mp hs
   obtain⟨c1,c2,c3⟩:=lS.mp hcs;have hJ:J a c=b:=by
    rcases a3 (J a c) (M.fU ha hc) (M.jl ha hc).1 (M.qc ha hc hb a2 c2)with e|e
    ·have:=(M.jl ha hc).2
     rw[e]at this
     rcases c3 a ha this a2 with z|z
     ·exact absurd z hac
     ·exact absurd z a1
    ·exact e
   have l1:=M.lo ha hc (by rw[hJ];exact hcs);have l2:=M.lo hc ha (by rw[M.jc hc ha,hJ];exact hs);rw[M.mc hc ha]at l2;have u1:=kL M.G _ _ (gK.mpr ⟨ha,hb,hs⟩);have u2:=kL M.G _ _ (gK.mpr ⟨hc,hb,hcs⟩);have v1:=oC n R a;have v2:=oC n R c;rw[ih (N a c) a (by omega) (M.mlt ha hc) ha l1,ih (N a c) c (by omega) (M.mlt ha hc) hc l2]
end
noncomputable def Un(n:Nat)(R:Nat->Nat->Bool)(a b c:Nat):Prop:=R a c=true/\∃m x j y,cA n R b c m/\cz n R a m x/\cz n R a b j/\cA n R j c y/\x≠y
noncomputable def Lex(a b c a' b' c':Nat):Prop:=a<a'\/(a=a'/\(b<b'\/(b=b'/\c<c')))
structure First (n:Nat) (U:Nat->Nat->Nat->Prop) (a b c:Nat):Prop where
 la:a<n
 lb:b<n
 lc:c<n
 is:U a b c
 no:∀a' b' c',a'<n->b'<n->c'<n->Lex a' b' c' a b c->¬ U a' b' c'
noncomputable def QM(n:Nat)(U:Nat->Nat->Nat->Prop)(v:V)(H:Hp):Prop:=(v = .non/\∀a b c,a<n->b<n->c<n->¬ U a b c)\/∃t a b c:Nat,v = .ref t/\H t=some (.tup [.int a,.int b,.int c])/\First n U a b c
section
variable {P:Program} {w:World} {K:W.Frag} {mg:Str->Option Value} {base:Heap} {f:Addr} {fd:FuncData}
abbrev BZ:Stmt:=top 46
theorem NB:aU ["order","a","b","c"] ["order","a","b","c"] (aB BZ):=⟨rfl,rfl,rfl,by decide +kernel,rfl,by decide +kernel,by decide +kernel⟩
noncomputable def vv(C:Addr):Sp:=λvs H Q _=>∃(p n a b c m x:Nat) (R:Nat->Nat->Bool),vs = [.ref p,.int a,.int b,.int c]/\dg C H p n R/\Good n R/\a<n/\b<n/\c<n/\cA n R b c m/\cz n R a m x/\Q (.int x) H
theorem Xw {C:Addr} (F:aR K "join_of_meet" "join_of_meet" BZ f fd) (T:Txt mg) (TC:dk K C):aM P w K mg base aN 1 f fd ["order","a","b","c"] (vv C):=by
 refine F.ok NB (λvs H Q E h=>?_) (λcdv A outer s H vs Q E hr h=>?_)
 ·obtain⟨p,n,a,b,c,m,x,R,rfl,_⟩:=h
  rfl
 ·obtain⟨p,n,a,b,c,m,x,R,rfl,hO,G,ha,hb,hc,hm,hx,kk⟩:=h
  have nd:=NB.nd;obtain⟨dx,vp,vr,vj,vm,o1,_,_,oj,om⟩:=hO;obtain⟨ra,us,rb,rfl,q1,q2,q3⟩:=oj.get ha;obtain⟨sa,ws,sb,rfl,p1,p2,p3⟩:=om.get hb;have em:fC n (λa b=>R b a) b c = .int m:=fD G.jx hm.1 hm.2;have ex:fC n R a m = .int x:=fD G.dis hx.1 hx.2;refine⟨_,(az (aX (aF (aW (K:=K) rfl) (aF (aW (K:=K) rfl) (cy (K:=K) rfl (pv 0) rfl) (pv 1) (λ_ _=>rfl)) (aF (aW (K:=K) rfl) (aF (aW (K:=K) rfl) (cy (K:=K) rfl (pv 0) rfl) (pv 2) (λ_ _=>rfl)) (pv 3) (λ_ _=>rfl)) (λ_ _=>rfl)))),?_⟩;exact⟨_,rfl,p,C,dx,_,_,rfl,o1,TC.cl,TC.nJ,tF _ _ _ _ _,_,rfl,ra,us,_,.ref rb,rfl,rfl,ax.of q1,aS q2,_,rfl,p,C,dx,_,_,rfl,o1,TC.cl,TC.nM,tG _ _ _ _ _,_,rfl,sa,ws,_,.ref sb,rfl,rfl,ax.of p1,aS p2,_,rfl,sb,_,_,.int m,rfl,rfl,ax.of p3,aS (by rw[fI hc,em]),rb,_,_,.int x,rfl,rfl,ax.of q3,aS (by rw[fI hm.1,ex]),kk⟩
abbrev Cg:Stmt:=top 47
theorem N2:aU ["order","a","b","c"] ["order","a","b","c"] (aB Cg):=⟨rfl,rfl,rfl,by decide +kernel,rfl,by decide +kernel,by decide +kernel⟩
noncomputable def vz(C:Addr):Sp:=λvs H Q _=>∃(p n a b c j y:Nat) (R:Nat->Nat->Bool),vs = [.ref p,.int a,.int b,.int c]/\dg C H p n R/\Good n R/\a<n/\b<n/\c<n/\cz n R a b j/\cA n R j c y/\Q (.int y) H
theorem XD {C:Addr} (F:aR K "meet_of_join" "meet_of_join" Cg f fd) (T:Txt mg) (TC:dk K C):aM P w K mg base aN 1 f fd ["order","a","b","c"] (vz C):=by
 refine F.ok N2 (λvs H Q E h=>?_) (λcdv A outer s H vs Q E hr h=>?_)
 ·obtain⟨p,n,a,b,c,m,x,R,rfl,_⟩:=h
  rfl
 ·obtain⟨p,n,a,b,c,j,y,R,rfl,hO,G,ha,hb,hc,hj,hy,kk⟩:=h
  have nd:=N2.nd;obtain⟨dx,vp,vr,vj,vm,o1,_,_,oj,om⟩:=hO;obtain⟨ra,us,rb,rfl,q1,q2,q3⟩:=oj.get ha;obtain⟨sa,ws,sb,rfl,p1,p2,p3⟩:=om.get hj.1;have ej:fC n R a b = .int j:=fD G.dis hj.1 hj.2;have ey:fC n (λa b=>R b a) j c = .int y:=fD G.jx hy.1 hy.2;refine⟨_,(az (aX (aF (aW (K:=K) rfl) (aF (aW (K:=K) rfl) (cy (K:=K) rfl (pv 0) rfl) (aF (aW (K:=K) rfl) (aF (aW (K:=K) rfl) (cy (K:=K) rfl (pv 0) rfl) (pv 1) (λ_ _=>rfl)) (pv 2) (λ_ _=>rfl)) (λ_ _=>rfl)) (pv 3) (λ_ _=>rfl)))),?_⟩;exact⟨_,rfl,p,C,dx,_,_,rfl,o1,TC.cl,TC.nM,tG _ _ _ _ _,_,rfl,p,C,dx,_,_,rfl,o1,TC.cl,TC.nJ,tF _ _ _ _ _,_,rfl,ra,us,_,.ref rb,rfl,rfl,ax.of q1,aS q2,_,rfl,rb,_,_,.int j,rfl,rfl,ax.of q3,aS (by rw[fI hb,ej]),sa,ws,_,.ref sb,rfl,rfl,ax.of p1,aS p2,_,rfl,sb,_,_,.int y,rfl,rfl,ax.of p3,aS (by rw[fI hc,ey]),kk⟩
abbrev Cq:Stmt:=top 48
theorem Oh:aU ["order","a","b","c"] ["order"] (aB Cq):=⟨rfl,rfl,rfl,by decide +kernel,rfl,by decide +kernel,by decide +kernel⟩
noncomputable def Df(C:Addr):Sp:=λvs H Q _=>∃(p n:Nat) (R:Nat->Nat->Bool),vs = [.ref p]/\dg C H p n R/\Good n R/\n<=24/\∀v H',Same H H'->QM n (Un n R) v H'->Q v H'
theorem XT {C:Addr} (F:aR K "uneven" "uneven" Cq f fd) (T:Txt mg) (TC:dk K C) (m6:au P w K mg base "join_of_meet" ["order","a","b","c"] 1 (vv C)) (m_:au P w K mg base "meet_of_join" ["order","a","b","c"] 1 (vz C)) :
  aM P w K mg base aN 2 f fd ["order"] (Df C):=by
 refine F.ok Oh (λvs H Q E h=>?_) (λcdv A outer s H vs Q E hr h=>?_)
 ·obtain⟨p,n,R,rfl,_⟩:=h
  rfl
 ·obtain⟨p,n,R,rfl,hO,G,hn,kk⟩:=h
  have nd:=Oh.nd;have en:((n:Int)).toNat=n:=ck n;obtain⟨dx,vp,vr,vj,vm,o1,_,o3,_,_⟩:=id hO;refine⟨_,(ay (cD bT rfl (dI rfl T.range (ag (cy (K:=K) rfl (pv 0) rfl) ah)) (aZ (i:=1) nd rfl (Or.inl rfl))
   (az (cD bT rfl (dI rfl T.range (ag (cy (K:=K) rfl (pv 0) rfl) ah)) (aZ (i:=2) nd rfl (Or.inl rfl))
   (az (cD bT rfl (dI rfl T.range (ag (cy (K:=K) rfl (pv 0) rfl) ah)) (aZ (i:=3) nd rfl (Or.inl rfl))
   (az (cM (PW.pt (qF (fJ (aF (aW (K:=K) rfl) (aF (aW (K:=K) rfl) (cy (K:=K) rfl (pv 0) rfl) (pv 1) (λ_ _=>rfl)) (pv 3) (λ_ _=>rfl))) (qG (bW kB (aQ m6 hr rfl (ag (pv 0) (ag (pv 1) (ag (pv 2) (ag (pv 3) ah (a9 nofun)) (a9 nofun)) (a9 nofun)) (a9 nofun))) (aQ m_ hr rfl (ag (pv 0) (ag (pv 1) (ag (pv 2) (ag (pv 3) ah (a9 nofun)) (a9 nofun)) (a9 nofun)) (a9 nofun))) (bL _))))) (az (aX (ie (ag (pv 1) (ag (pv 2) (ag (pv 3) ah (a9 nofun)) (a9 nofun)) (a9 nofun))))) cU)))))))
   (az (aX uD))),?_⟩
  refine⟨_,rfl,p,C,dx,_,_,rfl,o1,TC.cl,TC.nC,fE _ _ _ _ _,_,rfl,(bI (by omega)).1,(bI (by omega)).2,hZ (lo:=0) (n:=((n:Int)).toNat) (λi σ H2=>∃(v1 v2 v3:Option V),σ = [some (.ref p),v1,v2,v3]/\Same H H2/\∀a b c,a<i->b<n->c<n->¬ Un n R a b c)
   ⟨none,none,none,rfl,Same.refl _,λa b c h=>by omega⟩ ?_ ?_⟩
  ·rintro i σ H2 hi ⟨v1,v2,v3,rfl,s2,qg⟩
   rw[en]at hi;refine⟨_,rfl,p,C,dx,_,_,rfl,s2 _ _ o1,TC.cl,TC.nC,fE _ _ _ _ _,_,rfl,(bI (by omega)).1,(bI (by omega)).2,hZ (lo:=0) (n:=((n:Int)).toNat) (λj σ H3=>∃(v2 v3:Option V),σ = [some (.ref p),some (.int (0+(i:Int))),v2,v3]/\Same H H3/\∀b c,b<j->c<n->¬ Un n R i b c)
    ⟨v2,v3,rfl,s2,λb c h=>by omega⟩ ?_ ?_⟩
   ·rintro j σ H3 hj ⟨v2,v3,rfl,s3,qh⟩
    rw[en]at hj;refine⟨_,rfl,p,C,dx,_,_,rfl,s3 _ _ o1,TC.cl,TC.nC,fE _ _ _ _ _,_,rfl,(bI (by omega)).1,(bI (by omega)).2,hZ (lo:=0) (n:=((n:Int)).toNat) (λk σ H4=>∃(v3:Option V),σ = [some (.ref p),some (.int (0+(i:Int))),some (.int (0+(j:Int))),v3]/\Same H H4/\∀c,c<k->¬ Un n R i j c)
     ⟨v3,rfl,s3,λc h=>by omega⟩ ?_ ?_⟩
    ·rintro k σ H4 hk ⟨v3,rfl,s4,qi⟩
     rw[en]at hk;obtain⟨ra,us,rb,rfl,q1,q2,q3⟩:=(o3.same s4).get hi;obtain⟨m,hm,hm'⟩:=G.meet j k hj hk;obtain⟨x,hx,hx'⟩:=G.join i m hi hm;obtain⟨jj,tS,zS⟩:=G.join i j hi hj;obtain⟨y,hy,hy'⟩:=G.meet jj k tS hk;have next:¬ Un n R i j k->∀c,c<k+1->¬ Un n R i j c:=λh c hc=>by
      by_cases e:c=k
      ·subst e;exact h
      ·exact qi c (by omega)
     refine⟨_,rfl,p,C,dx,_,_,rfl,s4 _ _ o1,TC.cl,TC.nR,zp _ _ _ _ _,_,rfl,ra,us,_,.ref rb,rfl,rfl,ax.of q1,at0 q2,_,rfl,rb,_,_,.bl (R i k),rfl,rfl,ax.of q3,at0 (fI hk),_,rfl,?_⟩;refine bO (λh=>?_) (λh=>?_)
     ·refine⟨_,rfl,_,rfl,_,rfl,_,rfl,p,n,i,j,k,m,x,R,by simp,hO.cN s4,G,hi,hj,hk,⟨hm,hm'⟩,⟨hx,hx'⟩,?_⟩
      refine⟨_,rfl,_,rfl,_,rfl,_,rfl,p,n,i,j,k,jj,y,R,by simp,hO.cN s4,G,hi,hj,hk,⟨tS,zS⟩,⟨hy,hy'⟩,rfl,_,rfl,?_⟩;refine bO (λh2=>?_) (λh2=>?_)
      ·have ne:x≠y:=λz=>by subst z;simp at h2
       refine⟨_,rfl,_,rfl,_,rfl,by show 3<=sizeLine;decide,λt ht=>kk _ _ (s4.trans (Same.put ht)) (.inr ⟨t,i,j,k,rfl,by rw[aA,j5,j5,j5],hi,hj,hk,⟨h,m,x,jj,y,⟨hm,hm'⟩,⟨hx,hx'⟩,⟨tS,zS⟩,⟨hy,hy'⟩,ne⟩,λa' b' c' ha hb hc l=>?_⟩)⟩
       rcases l with l|⟨rfl,l|⟨rfl,l⟩⟩
       ·exact qg a' b' c' l hb hc
       ·exact qh b' c' l hc
       ·exact qi c' l
      ·have e:x=y:=by
        by_cases z:x=y
        ·exact z
        ·exact absurd (by rw[dr (λq=>by injection q with q;omega)];rfl) h2
       refine⟨_,rfl,s4,next λz=>?_⟩;obtain⟨_,m',x',j',y',k1,k2,k3,k4,ne⟩:=z;obtain rfl:=k1.uniq G ⟨hm,hm'⟩;obtain rfl:=k3.uniq G ⟨tS,zS⟩;exact ne ((k2.uniq G ⟨hx,hx'⟩).trans (e.trans (k4.uniq G ⟨hy,hy'⟩).symm))
     ·refine cI ⟨_,rfl,s4,next λz=>h z.1⟩
    ·rintro σ H4 ⟨v3,rfl,s4,qi⟩
     rw[en]at qi;refine⟨_,_,rfl,s4,λb c hb hc=>?_⟩
     by_cases e:b=j
     ·subst e;exact qi c hc
     ·exact qh b c (by omega) hc
   ·rintro σ H3 ⟨v2,v3,rfl,s3,qh⟩
    rw[en]at qh;refine⟨_,_,_,rfl,s3,λa b c ha hb hc=>?_⟩
    by_cases e:a=i
    ·subst e;exact qh b c hb hc
    ·exact qg a b c (by omega) hb hc
  ·rintro σ H2 ⟨v1,v2,v3,rfl,s2,qg⟩
   rw[en]at qg;exact kk _ _ s2 (.inl ⟨rfl,qg⟩)
end
theorem Kd{a b:Nat}(h:Nat.gcd a b=1):Nat.lcm a b=a*b:=by
 unfold Nat.lcm;rw[h,Nat.div_one]
theorem W2{a b c:Nat}(h:a ∣ c)(ha:0<a):Nat.gcd (Nat.lcm a b) c=Nat.lcm a (Nat.gcd b c):=by
 have hg:0<Nat.gcd a b:=Qz _ ha;obtain⟨g,hge⟩:∃g,g=Nat.gcd a b:=⟨_,rfl⟩;rw[<- hge]at hg;obtain⟨a',ea⟩:g ∣ a:=hge▸kU a b;obtain⟨b',eb⟩:g ∣ b:=hge▸wU a b;obtain⟨c',ec⟩:=h;have zN:Nat.gcd a' b'=1:=by
  have h1:g*Nat.gcd a' b'=g*1:=by
   rw[<- Fp,<- ea,<- eb,ja];exact hge.symm
  exact wQ hg h1
 have e1:Nat.lcm a b=a*b':=by
  rw[ea,eb,Nat.lcm_mul_left,Kd zN,dX]
 have e2:Nat.gcd b c=g*Nat.gcd b' c':=by
  rw[eb,ec,ea,dX,Fp,wR b' (a'*c'),Nat.Coprime.gcd_mul_left_cancel c' zN,wR]
 have Ut:Nat.gcd a' (Nat.gcd b' c')=1:=Nat.Coprime.coprime_dvd_right (kU b' c') zN;rw[e1,e2,ec,Fp,ea,Nat.lcm_mul_left,Kd Ut,dX]
section
variable {n:Nat} {l:List Nat} {a b c i j:Nat}
theorem jy(A:Dv.All n l)(hi:i<l.length):l.getD i 0 ∣ n:=(A.mem _).mp (Ev.getD_mem hi)
theorem jz(A:Dv.All n l)(h0:0<n)(hi:i<l.length):0<l.getD i 0:=rJ (jy A hi) h0
theorem kj(A:Dv.All n l){d:Nat}(h:d ∣ n):∃k,k<l.length/\l.getD k 0=d:=Ev.zB ((A.mem d).mpr h)
theorem yx(A:Dv.All n l)(ha:a<l.length)(hb:b<l.length)(h:cz l.length (cH l) a b c):l.getD c 0=Nat.lcm (l.getD a 0) (l.getD b 0):=by
 obtain⟨k,hk,ek⟩:=kj A (wV (jy A ha) (jy A hb));have h1:=h.2 c h.1;have h2:=h.2 k hk;rw[cE,bw,c6,c6,c6]at h1 h2;have q1:=h1.mp (iC _);have q2:=h2.mpr (by rw[ek];exact⟨Nat.dvd_lcm_left _ _,Nat.dvd_lcm_right _ _⟩);rw[ek]at q2;exact Fn q2 (wV q1.1 q1.2)
theorem yy(A:Dv.All n l)(ha:a<l.length)(hb:b<l.length)(h:cA l.length (cH l) a b c):l.getD c 0=Nat.gcd (l.getD a 0) (l.getD b 0):=by
 obtain⟨k,hk,ek⟩:=kj A (dN (kU (l.getD a 0) (l.getD b 0)) (jy A ha));have h1:=h.2 c h.1;have h2:=h.2 k hk;rw[cE,bw,c6,c6,c6]at h1 h2;have q1:=h1.mp (iC _);have q2:=h2.mpr (by rw[ek];exact⟨kU _ _,wU _ _⟩);rw[ek]at q2;exact Fn (Nat.dvd_gcd q1.1 q1.2) q2
theorem Si(A:Dv.All n l)(h0:0<n)(ha:a<l.length)(hb:b<l.length)(hc:c<l.length):¬ Un l.length (cH l) a b c:=by
 rintro⟨hac,m,x,j,y,hm,hx,hj,hy,ne⟩;have e1:=yy A hb hc hm;have e2:=yx A ha hm.1 hx;have e3:=yx A ha hb hj;have e4:=yy A hj.1 hc hy;refine ne (Ev.getD_inj A.nd hx.1 hy.1 ?_);rw[e2,e1,e4,e3,W2 (c6.mp hac) (jz A h0 ha)]
theorem sD(A:Dv.All n l)(h0:0<n)(hi:i<l.length)(hj:j<l.length):bF l.length (cH l) i j=true ↔ ∃p,Dv.Pr p/\l.getD j 0=p*l.getD i 0:=by
 have pi:=jz A h0 hi;rw[lS]
 constructor
 ·rintro⟨hne,hd,hall⟩
  obtain⟨c,ec⟩:=c6.mp hd;have pj:=jz A h0 hj;refine⟨c,⟨?_,λe he=>?_⟩,by rw[ec,cB]⟩
  ·rcases wW c 2 with q|q
   ·exfalso
    match c,q with
    |0,_=>rw[ec]at pj;exact absurd pj (by simp)
    |1,_=>exact hne (Ev.getD_inj A.nd hi hj (by rw[ec,ja]))
   ·exact q
  ·obtain⟨t,ht,et⟩:=kj A (dN (oY (l.getD i 0) he) (ec▸jy A hj))
   rcases hall t ht (c6.mpr (by rw[et];exact Nat.dvd_mul_right ..)) (c6.mpr (by rw[et,ec];exact oY _ he))with q|q
   ·left
    rw[q]at et;exact(wQ pi (by rw[ja];exact et)).symm
   ·right
    rw[q,ec]at et;exact(wQ pi et).symm
 ·rintro⟨p,hp,e⟩
  have hp2:=hp.1;refine⟨λq=>?_,c6.mpr (by rw[e];exact Nat.dvd_mul_left ..),λt ht h1 h2=>?_⟩
  ·rw[<- q]at e
   have:=w4 (l.getD i 0) hp2;omega
  ·obtain⟨d,ed⟩:=c6.mp h1
   have h2:=c6.mp h2;rw[e,ed,cB p]at h2
   rcases hp.2 d (Fo pi h2)with q|q
   ·left
    exact Ev.getD_inj A.nd ht hi (by rw[ed,q,ja])
   ·right
    exact Ev.getD_inj A.nd ht hj (by rw[ed,q,e,cB])
theorem Hn{J N:Nat->Nat->Nat}(A:Dv.All n l)(h0:0<n)(M:Md l.length (cH l) J N):∀(ps:List Nat) (i:Nat),(∀p∈ps,Dv.Pr p)->i<l.length->l.getD i 0=Dv.pd ps->rk M.G i=ps.length
 | [],i,_,hi,e=>by
  refine uI M.G λy hy _ hs=>?_;obtain⟨p,hp,q⟩:=(sD A h0 hy hi).mp hs;have e:l.getD i 0=1:=e;have:=jz A h0 hy;have h2:=oZ hp.1 this;omega
 |p::ps,i,hp,hi,e=>by
  have e:l.getD i 0=p*Dv.pd ps:=e;obtain⟨j,hj,ej⟩:=kj A (dN (show Dv.pd ps ∣ l.getD i 0 by rw[e];exact Nat.dvd_mul_left ..) (jy A hi));have ih:=Hn A h0 M ps j (λq hq=>hp q (bu _ hq)) hj ej;rw[M.By _ j i (aH _) hj hi ((sD A h0 hj hi).mpr ⟨p,hp p (bx ..),by rw[e,ej]⟩),ih,dW]
theorem Ho(A:Dv.All n l)(h0:0<n)(asc:l.Pairwise (· < ·)):0<l.length/\l.getD (l.length - 1) 0=n/\l.getD 0 0=1:=by
 obtain⟨k,hk,ek⟩:=kj A (iC n);obtain⟨z,hz,ez⟩:=kj A (Nat.one_dvd n);have lt:∀{i j:Nat},i<j->j<l.length->l.getD i 0<l.getD j 0:=λ{i j} hij hj=>by
  have:=rC.mp asc i j (by omega) hj hij;rw[aL,aL,aq hj,aq (show i<l.length by omega)];exact this
 refine⟨by omega,?_,?_⟩
 ·by_cases e:k=l.length - 1
  ·rw[<- e,ek]
  ·have h1:=lt (i:=k) (j:=l.length - 1) (by omega) (by omega)
   have h2:=oU h0 (jy A (show l.length - 1<l.length by omega));omega
 ·by_cases e:z=0
  ·rw[e]at ez
   exact ez
  ·have h1:=lt (i:=0) (j:=z) (by omega) hz
   have h2:=jz A h0 (show 0<l.length by omega);omega
theorem Hq(A:Dv.All n l)(h0:0<n)(asc:l.Pairwise (· < ·)):∀(k:Nat) (ps:List Nat) (i:Nat),ps.length=k->(∀p∈ps,Dv.Pr p)->i<l.length->l.getD i 0*Dv.pd ps=n->dB l.length (cH l) (l.length - 1) i*Dv.c7 ps=Dv.fct k:=by
 have G:=zD A h0;obtain⟨tp,et,_⟩:=Ho A h0 asc;intro k
 induction k with
 |zero =>
  intro ps i hk hp hi e;cases wI.mp hk;have e:l.getD i 0=n:=by rw[<- e];exact(ja _).symm
  have:i=l.length - 1:=Ev.getD_inj A.nd hi (by omega) (by rw[e,et]);rw[this,DY];rfl
 |succ k ih =>
  intro ps i hk hp hi e;have pi:=jz A h0 hi;have hne:i≠l.length - 1:=λq=>by
   rw[q,et]at e;have h1:=Dv.Bn hp;rw[hk,iD]at h1;have h2:0<2 ^ k:=Nat.two_pow_pos k;have h3:2<=Dv.pd ps:=by omega
   have:=kW n h3;omega
  rw[PX G hi hne,Dv.Dq];have key:∀j∈bP l.length (cH l) i,l.getD j 0 / l.getD i 0∈ps/\l.getD j 0=l.getD j 0 / l.getD i 0*l.getD i 0/\dB l.length (cH l) (l.length - 1) j*Dv.c7 ps=ps.count (l.getD j 0 / l.getD i 0)*Dv.fct k:=by
   intro j hj;unfold bP at hj;obtain⟨hj1,hj2⟩:=dm.mp hj;have hj1:=bD.mp hj1;obtain⟨p,hpp,ep⟩:=(sD A h0 hi hj1).mp hj2;have ed:l.getD j 0 / l.getD i 0=p:=by rw[ep];exact wZ _ pi
   rw[ed];have hm:p∈ps:=by
    refine hpp.mem hp ?_;have h1:=jy A hj1;rw[ep,<- e,cB p]at h1;exact Fo pi h1
   refine⟨hm,ep,?_⟩;have h2:=ih (ps.erase p) j (by rw[List.length_erase_of_mem hm,hk];rfl) (λq hq=>hp q (List.mem_of_mem_erase hq)) hj1 (by rw[ep,<- e,<- Dv.Bm hm,cB p,dX]);rw[Dv.Tc hm,<- dX,h2,cB]
  rw[fc λj hj=>(key j hj).2.2,<- Dv.Dq];have hD:((bP l.length (cH l) i).map λj=>l.getD j 0 / l.getD i 0).Nodup:=by
   refine fh.mpr (List.Pairwise.imp_of_mem (R:=(·≠·)) (λ{x y} hx hy hxy q=>hxy ?_) (Ep _ List.nodup_range));have hx1:=bD.mp (dm.mp hx).1;have hy1:=bD.mp (dm.mp hy).1;exact Ev.getD_inj A.nd hx1 hy1 (by rw[(key x hx).2.1,(key y hy).2.1,q])
  have hS:=Dv.Ha hD (ps:=ps) λp hm=>by
   have hpp:=hp p hm;obtain⟨j,hj,ej⟩:=kj A (show p*l.getD i 0 ∣ n by rw[<- e,cB p,<- Dv.Bm hm];exact oY _ (Nat.dvd_mul_right ..));refine b9.mpr ⟨j,dm.mpr ⟨bD.mpr hj,(sD A h0 hi hj).mpr ⟨p,hpp,ej⟩⟩,?_⟩;rw[ej];exact wZ _ pi
  rw[bZ]at hS;show((bP l.length (cH l) i).map ((λp=>ps.count p) ∘ λj=>l.getD j 0 / l.getD i 0)).sum*Dv.fct k=Dv.fct (k+1);rw[hS,hk];rfl
end
noncomputable def gf(n:Nat)(R:Nat->Nat->Bool)(e:Nat)(done:List Nat)(x:Nat):Nat:=if x=e then 1 else if x∈done then dB n R e x else 0
theorem PQ{n:Nat}{R:Nat->Nat->Bool}{e z:Nat}{d d':List Nat}(h:z∈d ↔ z∈d'):gf n R e d z=gf n R e d' z:=by
 unfold gf
 by_cases q:z∈d'
 ·rw[if_pos (h.mpr q),if_pos q]
 ·rw[if_neg (λw=>q (h.mp w)),if_neg q]
theorem set_range{n:Nat}{f g:Nat->V}{j:Nat}{v:V}(hj:j<n)(h1:g j=v)(h2:∀x,x<n->x≠j->g x=f x):((List.range n).map f).set j v=(List.range n).map g:=by
 refine gw (by simp) λi a b=>?_;have hi:i<n:=by simpa using b
 rw[List.getElem_set]
 by_cases e:j=i
 ·subst e
  rw[if_pos rfl];simp[h1]
 ·rw[if_neg e]
  simp[h2 i hi (b_ e)]
theorem Gk{n:Nat}{R:Nat->Nat->Bool}(hn:n<=24)(i:Nat):(bP n R i).length<=24:=by
 unfold bP;have:=iw (bF n R i) (List.range n);rw[d4]at this;omega
theorem O1:∀l:List Nat,(l.map λd:Nat=>(d:Int)).sum=((l.sum:Nat):Int)
 | []=>rfl
 |d::l=>by rw[bA,iA,iA,O1 l];push_cast;rfl
section
variable {P:Program} {w:World} {K:W.Frag} {mg:Str->Option Value} {base:Heap} {f:Addr} {fd:FuncData}
abbrev qM:Stmt:=top 43
theorem Nf:aU ["order","above","end","ways","thing"] ["order","above","end"] (aB qM):=⟨rfl,rfl,rfl,by decide +kernel,rfl,by decide +kernel,by decide +kernel⟩
noncomputable def Cu(C Pt:Addr):Sp:=λvs H Q _=>∃(p D n e:Nat) (R:Nat->Nat->Bool),vs = [.ref p,.ref D,.int e]/\dg C H p n R/\Good n R/\n<=24/\H Pt=some (.lam iM iN)/\kN H D n (bP n R)/\e<n /\
 ∀(r:Addr) (H':Hp),Same H H'->H r=none->H' r=some (.lst ((List.range n).map λx=>nV (dB n R e x)))->Q (.ref r) H'
theorem Xh {C Pt:Addr} (F:aR K "climbs_to" "climbs_to" qM f fd) (T:Txt mg) (TC:dk K C) (mZ:au P w K mg base "highest_first" ["order"] 1 (vo C Pt)):aM P w K mg base aN 2 f fd ["order","above","end"] (Cu C Pt):=by
 refine F.ok Nf (λvs H Q E h=>?_) (λcdv A outer s H vs Q E hr h=>?_)
 ·obtain⟨p,D,n,e,R,rfl,_⟩:=h
  rfl
 ·obtain⟨p,D,n,e,R,rfl,hO,G,hn,hP,hA,he,kk⟩:=h
  have nd:=Nf.nd;have en:((n:Int)).toNat=n:=ck n;obtain⟨dx,vp,vr,vj,vm,o1,_⟩:=id hO;refine⟨_,(ay (aV (i:=3) nd rfl (Or.inr rfl) (dc (own:=["thing"]) (fr:=[]) rfl (bQ (aB qM) ["order","above","end","ways","thing"] rfl rfl (by decide +kernel)) (dI rfl T.range (ag (cy (K:=K) rfl (pv 0) rfl) ah)) (λ_ _ _ _=>⟨(aZ (i:=0) (by decide +kernel:(["thing"]:List Str).Nodup) rfl (Or.inl rfl)),dw,aD⟩)))
   (ay (qA aD (qx (pv 3) (pv 2) set_list))
   (ay (cD bT rfl (eB (K:=K) rfl (aQ mZ hr rfl (ag (pv 0) ah))) (aZ (i:=4) nd rfl (Or.inl rfl))
   (az (cM (bW kB (pv 4) (pv 2) (bL _)) (az (qA (cL (RJ (K:=K) rfl rfl) rfl T.sum boot_sum (ag (dc (own:=["higher"]) (fr:=[("ways", 3)]) rfl (bQ (aB qM) ["order","above","end","ways","thing"] rfl rfl (by decide +kernel)) (eB (K:=K) rfl (aF (bB (K:=K) rfl) (pv 1) (pv 4) (λ_ _=>rfl))) (λ_ _ _ _=>⟨(aZ (i:=0) (by decide +kernel:(["higher","ways"]:List Str).Nodup) rfl (Or.inl rfl)),dw,(aF (bB (K:=K) rfl) (pv 1) (pv 0) (λ_ _=>rfl))⟩)) ah)) (qx (pv 3) (pv 4) set_list))) cU)))
   (az (aX (pv 3)))))),?_⟩
  refine⟨_,rfl,p,C,dx,_,_,rfl,o1,TC.cl,TC.nC,fE _ _ _ _ _,_,rfl,(bI (by omega)).1,(bI (by omega)).2,λr hr=>fu (λ_=>.int 0) src_range hr (by rw[en];exact cQ hn) (λi H2 Kt hi hs hk=>hk _ (Same.refl _)) (λH1 hs hl=>?_)⟩;rw[en]at hl;have e1:((List.range n).map λ_=>V.int 0).set e (.int 1)=(List.range n).map λx=>nV (gf n R e [] x):=set_range he (by unfold gf;rw[if_pos rfl];rfl) λx _ hx=>by unfold gf;rw[if_neg hx,if_neg (by simp)];rfl
  refine⟨_,rfl,_,rfl,r,_,_,e,rfl,rfl,hl,by rw[ao,d4];exact qa he,?_⟩;rw[e1];have s2:Same H (upd H1 r (.lst ((List.range n).map λx=>nV (gf n R e [] x)))):=λb o q=>by rw[aG (cx q hr)];exact hs b o q
  refine⟨_,rfl,p,n,R,rfl,hO.cN s2,hn,s2 _ _ hP,λL hs2 H3 s3 nL q3 pm pw=>?_⟩;have rL:r≠L:=λz=>by rw[<- z,aA]at nL;cases nL
  refine⟨L,rfl,⟨_,ai.of q3⟩,jE (K:=K) (a:=L) (xs:=hs2.map nV) (λi σ H4=>∃v4,σ = [some (.ref p),some (.ref D),some (.int e),some (.ref r),v4]/\Same H H4/\H4 r=some (.lst ((List.range n).map λx=>nV (gf n R e (hs2.take i) x)))/\H4 L=some (.lst (hs2.map nV)))
   ⟨none,rfl,s2.trans s3,s3 _ _ aA,q3⟩ (λi σ H4 _ ⟨_,_,_,_,q4⟩=>ai.of q4) ?_ ?_⟩
  ·rintro i y σ H4 hy ⟨v4,rfl,s4,g4,q4⟩
   obtain⟨x,hx,rfl⟩:∃x,hs2[i]?=some x/\y=nV x:=by
    rw[bC]at hy;cases e:hs2[i]? with
    |none=>rw[e]at hy;cases hy
    |some x=>rw[e]at hy;exact⟨x,rfl,(df hy).symm⟩
   have hxn:x<n:=bD.mp (pm.mem_iff.mp (cu hx));have et:hs2.take (i+1)=hs2.take i++[x]:=by rw[iZ,hx];rfl
   refine⟨_,rfl,_,rfl,rfl,_,rfl,bO (λh=>?_) (λh=>?_)⟩
   ·have tV:x≠e:=λz=>by rw[z]at h;simp at h
    obtain⟨DX,b0,qD,qv,qb⟩:=(hA.same s4).get hxn;refine⟨_,rfl,_,rfl,D,DX,_,.ref b0,rfl,rfl,ai.of qD,aS qv,b0,rfl,⟨_,ai.of qb⟩,λD2 hD2=>fu (λj=>nV (dB n R e ((bP n R x).getD j 0))) (src_list (ai.of qb)) hD2 (by rw[ao];exact cQ (Gk hn x)) (λj H5 Kt hj p7 hk=>?_) (λH5 p7 kx=>?_)⟩
    ·rw[ao]at hj
     have eg:=TQ hj;generalize hd:(bP n R x).getD j 0=d at eg hk;have hdm:d∈gA n R x:=by rw[nz hxn,<- hd];exact WL hj
     have hdn:=(gK.mp hdm).2.1;refine⟨_,rfl,_,rfl,r,_,_,nV (dB n R e d),rfl,by rw[eg],ai.of (p7 _ _ g4),?_,hk _ (Same.refl _)⟩;have hw:gf n R e (hs2.take i) d=dB n R e d:=by
      unfold gf
      by_cases z:d=e
      ·rw[if_pos z,z,DY]
      ·rw[if_neg z,if_pos (Cl.ahead (kL G) pw hx hdm (pm.mem_iff.mpr (bD.mpr hdn)))]
     exact aS (by rw[fI hdn,hw])
    ·rw[ao]at kx
     have e5:(List.range (bP n R x).length).map (λj=>nV (dB n R e ((bP n R x).getD j 0)))=(((bP n R x).map λd=>((dB n R e d:Nat):Int)).map V.int):=by
      rw[bZ];refine gw (by simp) λk h1 h2=>?_;have hk:k<(bP n R x).length:=by simpa using h1
      simp[aL,hk]
     rw[e5]at kx;have es:((bP n R x).map λd=>((dB n R e d:Nat):Int)).sum=((dB n R e x:Nat):Int):=by
      rw[PX G hxn tV,<- O1,bZ];rfl
     refine⟨D2,_,rfl,ai.of kx,by rw[ao];have:=Gk (R:=R) hn x;omega,λz hz=>?_,?_⟩
     ·obtain⟨d,hd,rfl⟩:=b9.mp hz
      have hdn:d<n:=(gK.mp (by rw[nz hxn];exact hd:d∈gA n R x)).2.1;have:=aa0 G hn (b:=e) hdn;omega
     ·rw[es]
      have g5:=p7 _ _ g4;refine⟨_,rfl,_,rfl,r,_,_,x,rfl,rfl,g5,by rw[ao,d4];exact qa hxn,?_⟩;refine⟨_,rfl,λb o q=>by rw[aG (cx q hr)];exact p7 _ _ (s4 _ _ q),?_,by rw[aG (b_ rL)];exact p7 _ _ q4⟩;rw[aA,et]
      congr 2
      refine set_range hxn ?_ λz hz hzx=>?_
      ·unfold gf
       rw[if_neg tV,if_pos (by simp)]
      ·rw[PQ (d':=hs2.take i) (by simp[hzx])]
   ·have tV:x=e:=by
     apply wj
     intro z;apply h
     simp only[oH,yu];intro q;injection q with q
     omega
    refine⟨_,rfl,s4,?_,q4⟩;rw[g4]
    congr 2
    refine fc λz hz=>?_
    by_cases z9:z=e
    ·unfold gf
     rw[if_pos z9,if_pos z9]
    ·rw[PQ (d':=hs2.take (i+1)) (by rw[et];simp;rw[tV];intro q;exact absurd q z9)]
  ·rintro σ H4 ⟨v4,rfl,s4,g4,q4⟩
   refine⟨_,rfl,kk r H4 s4 hr ?_⟩;rw[g4]
   congr 2
   refine fc λx hx=>?_;have hx':=bD.mp hx;unfold gf
   by_cases h:x=e
   ·rw[if_pos h,h,DY]
   ·rw[if_neg h,ao,kT,if_pos (pm.mem_iff.mpr hx)]
end
noncomputable def lz {n:Nat} {R:Nat->Nat->Bool} (G:Good n R) (d:List Nat) (y:Nat):Nat:=if d.any (λx=>bF n R x y)then rk G y else 0
theorem behind{n:Nat}{R:Nat->Nat->Bool}{hs:List Nat}{i x z:Nat}(pw:hs.Pairwise (λa b=>dj n R a<=dj n R b))(hi:i<hs.length)(hx:hs[hs.length - 1 - i]?=some x)(hz:z∈hs)(hlt:dj n R x<dj n R z):z∈hs.drop (hs.length - i):=by
 obtain⟨k,hk,e⟩:=iX hz;obtain⟨hj,ex⟩:=bp.mp hx
 by_cases hkj:hs.length - i<=k
 ·rw[List.mem_iff_getElem]
  refine⟨k - (hs.length - i),by rw[E_];omega,?_⟩;rw[List.getElem_drop];have:hs.length - i+(k - (hs.length - i))=k:=by omega
  simp only[this];exact e
 ·by_cases hke:k=hs.length - 1 - i
  ·have:z=x:=by rw[<- e,<- ex];simp only[hke]
   rw[this]at hlt;omega
  ·have h1:=rC.mp pw k (hs.length - 1 - i) hk hj (by omega)
   rw[e,ex]at h1;omega
theorem Sh{hs:List Nat}{i x:Nat}(hi:i<hs.length)(hx:hs[hs.length - 1 - i]?=some x):hs.drop (hs.length - (i+1))=x::hs.drop (hs.length - i):=by
 obtain⟨hj,ex⟩:=bp.mp hx;have e1:hs.length - (i+1)=hs.length - 1 - i:=by omega
 rw[e1,List.drop_eq_getElem_cons hj,ex]
 congr 2
 omega
theorem Vd{n:Nat}{R:Nat->Nat->Bool}{G:Good n R}{hs:List Nat}{i x:Nat}(pw:hs.Pairwise (λa b=>dj n R a<=dj n R b))(pm:hs.Perm (List.range n))(hi:i<hs.length)(hx:hs[hs.length - 1 - i]?=some x):lz G (hs.drop (hs.length - i)) x=rk G x:=by
 unfold lz
 by_cases h:(hs.drop (hs.length - i)).any (λz=>bF n R z x)=true
 ·rw[if_pos h]
 ·rw[if_neg h,uI G]
  intro y hy hxn hs';apply h
  rw[gR];exact⟨y,behind pw hi hx (pm.mem_iff.mpr (bD.mpr hy)) (kL G _ _ (gK.mpr ⟨hy,hxn,hs'⟩)),hs'⟩
section
variable {P:Program} {w:World} {K:W.Frag} {mg:Str->Option Value} {base:Heap} {f:Addr} {fd:FuncData}
abbrev uW:Stmt:=top 50
theorem Nt:aU ["order","above","heights","thing","higher"] ["order"] (aB uW):=⟨rfl,rfl,rfl,by decide +kernel,rfl,by decide +kernel,by decide +kernel⟩
noncomputable def CK(C Pt:Addr):Sp:=λvs H Q _=>∃(p n:Nat) (R:Nat->Nat->Bool) (J N:Nat->Nat->Nat) (M:Md n R J N),vs = [.ref p]/\dg C H p n R/\n<=24/\H Pt=some (.lam iM iN) /\
 ∀D H',Same H H'->H D=none->H' D=some (.lst ((List.range n).map λx=>nV (rk M.G x)))->Q (.ref D) H'
theorem Xr {C Pt:Addr} (F:aR K "heights_of" "heights_of" uW f fd) (T:Txt mg) (TC:dk K C) (nA:mg "reversed" = none) (nh:au P w K mg base "steps_above" ["order"] 4 (vJ C)) (mZ:au P w K mg base "highest_first" ["order"] 1 (vo C Pt)) :
  aM P w K mg base aN 5 f fd ["order"] (CK C Pt):=by
 refine F.ok Nt (λvs H Q E h=>?_) (λcdv A outer s H vs Q E hr h=>?_)
 ·obtain⟨p,n,R,J,N,M,rfl,_⟩:=h
  rfl
 ·obtain⟨p,n,R,J,N,M,rfl,hO,hn,hP,kk⟩:=h
  have nd:=Nt.nd;have en:((n:Int)).toNat=n:=ck n;refine⟨_,(ay (aV (i:=1) nd rfl (Or.inl rfl) (aQ nh hr rfl (ag (pv 0) ah)))
   (ay (qC (i:=2) nd rfl rfl (own:=["thing"]) (fr:=[]) rfl (bQ (aB uW) ["order","above","heights","thing","higher"] rfl rfl (by decide +kernel)) (dI rfl T.range (ag (cy (K:=K) rfl (pv 0) rfl) ah)) (λ_ _ _ _=>⟨(aZ (i:=0) (by decide +kernel:(["thing"]:List Str).Nodup) rfl (Or.inl rfl)),dw,aD⟩))
   (ay (cD bT rfl (Mh (K:=K) rfl rfl nA (ag (aQ mZ hr rfl (ag (pv 0) ah)) ah)) (aZ (i:=3) nd rfl (Or.inl rfl))
   (az (cD bT rfl (eB (K:=K) rfl (aF (bB (K:=K) rfl) (pv 1) (pv 3) (λ_ _=>rfl))) (aZ (i:=4) nd rfl (Or.inl rfl))
   (az (qA (aO eh (aF (bB (K:=K) rfl) (pv 2) (pv 3) (λ_ _=>rfl)) aD) (qx (pv 2) (pv 4) set_list))))))
   (az (aX (pv 2)))))),?_⟩
  refine⟨_,rfl,p,n,R,rfl,hO,hn,λD H1 s1 nD hA=>?_⟩;obtain⟨dx,vp,vr,vj,vm,o1,_⟩:=id (hO.cN s1);refine⟨_,rfl,p,C,dx,_,_,rfl,o1,TC.cl,TC.nC,fE _ _ _ _ _,_,rfl,(bI (by omega)).1,(bI (by omega)).2,λr hr=>fu (λ_=>.int 0) src_range hr (by rw[en];exact cQ hn) (λi H2 Kt hi hs hk=>hk _ (Same.refl _)) (λH2 hs hl=>?_)⟩;rw[en]at hl;have s2:=s1.trans hs;refine⟨_,rfl,p,n,R,rfl,hO.cN s2,hn,s2 _ _ hP,λL hs2 H3 s3 nL q3 pm pw=>?_⟩;have rL:r≠L:=λz=>by rw[<- z,hl]at nL;cases nL
  have hlen:hs2.length=n:=by rw[pm.length_eq,d4]
  have Va:H r=none:=s1.free hr;refine⟨L,_,rfl,ai.of q3,Tq (K:=K) (a:=L) (xs:=hs2.map nV) (λi σ H4=>∃v3 v4,σ = [some (.ref p),some (.ref D),some (.ref r),v3,v4]/\Same H1 H4/\H4 r=some (.lst ((List.range n).map λx=>nV (lz M.G (hs2.drop (hs2.length - i)) x)))/\H4 L=some (.lst (hs2.map nV)))
   ⟨none,none,rfl,hs.trans s3,?_,q3⟩ (λi σ H4 _ ⟨_,_,_,_,_,q4⟩=>ai.of q4) ?_ ?_⟩
  ·rw[s3 _ _ hl,Nat.sub_zero,List.drop_length]
   rfl
  ·rintro i y σ H4 hi hy ⟨v3,v4,rfl,s4,g4,q4⟩
   rw[ao]at hi hy;obtain⟨x,hx,rfl⟩:∃x,hs2[hs2.length - 1 - i]?=some x/\y=nV x:=by
    rw[bC]at hy;cases e:hs2[hs2.length - 1 - i]? with
    |none=>rw[e]at hy;cases hy
    |some x=>rw[e]at hy;exact⟨x,rfl,(df hy).symm⟩
   have hxn:x<n:=bD.mp (pm.mem_iff.mp (cu hx));have own:=Vd (G:=M.G) pw pm hi hx;rw[Sh hi hx];generalize hdn:hs2.drop (hs2.length - i)=dn at g4 own;obtain⟨DX,b0,qD,qv,qb⟩:=(hA.same s4).get hxn;have nb0:b0≠r:=λz=>by
    obtain⟨vs1,b1,Y2,Mu,Ms⟩:=hA.get hxn;rw[s4 _ _ Y2]at qD;cases qD;rw[qv]at Mu;cases Mu;rw[z,hr]at Ms;cases Ms
   refine⟨_,rfl,_,rfl,D,DX,_,.ref b0,rfl,rfl,ai.of qD,aS qv,b0,rfl,⟨_,ai.of qb⟩,jE (K:=K) (a:=b0) (xs:=(bP n R x).map nV) (λj σ H5=>∃v4,σ = [some (.ref p),some (.ref D),some (.ref r),some (nV x),v4]/\Same H1 H5/\H5 r=some (.lst ((List.range n).map λy=>nV (if y∈(bP n R x).take j then rk M.G y else lz M.G dn y)))/\H5 L=some (.lst (hs2.map nV))/\H5 b0=some (.lst ((bP n R x).map nV)))
    ⟨_,rfl,s4,by rw[g4];simp,q4,qb⟩ (λj σ H5 _ ⟨_,_,_,_,_,g⟩=>ai.of g) ?_ ?_⟩
   ·rintro j y σ H5 hy ⟨v4,rfl,s5,g5,q5,Mt⟩
    obtain⟨d,hd,rfl⟩:∃d,(bP n R x)[j]?=some d/\y=nV d:=by
     rw[bC]at hy;cases e:(bP n R x)[j]? with
     |none=>rw[e]at hy;cases hy
     |some x=>rw[e]at hy;exact⟨x,rfl,(df hy).symm⟩
    have hdm:d∈gA n R x:=by rw[nz hxn];exact cu hd
    obtain⟨_,hdn',hst⟩:=gK.mp hdm;have hrk:=M.By _ _ _ (aH _) hxn hdn' hst;have hown:(if x∈(bP n R x).take j then rk M.G x else lz M.G dn x)=rk M.G x:=by
     split
     ·rfl
     ·exact own
    refine⟨_,rfl,_,rfl,r,_,_,nV (rk M.G x),rfl,rfl,ai.of g5,aS (by rw[fI hxn,hown]),_,_,rfl,rfl,?_⟩;refine⟨_,rfl,_,rfl,r,_,_,d,rfl,rfl,g5,by rw[ao,d4];exact qa hdn',?_⟩;refine⟨_,rfl,λb o q=>by rw[aG (cx q hr)];exact s5 _ _ q,?_,by rw[aG (b_ rL)];exact q5,by rw[aG nb0];exact Mt⟩;have et:(bP n R x).take (j+1)=(bP n R x).take j++[d]:=by rw[iZ,hd];rfl
    rw[aA,et]
    congr 2
    refine set_range hdn' ?_ λz hz hzx=>?_
    ·rw[if_pos (by simp),hrk]
     rfl
    ·simp[hzx]
   ·rintro σ H5 ⟨v4,rfl,s5,g5,q5,Mt⟩
    refine⟨_,_,rfl,s5,?_,q5⟩;rw[g5,ao,kT]
    congr 2
    refine fc λy hy=>?_;have hy':=bD.mp hy
    congr 1
    unfold lz;rw[mz]
    by_cases h:y∈bP n R x
    ·have hst:bF n R x y=true:=(gK.mp (by rw[nz hxn];exact h:y∈gA n R x)).2.2
     rw[if_pos h,hst,Bool.true_or,if_pos rfl]
    ·have hst:bF n R x y=false:=by
      cases e:bF n R x y with
      |false=>rfl
      |true=>exact absurd (by rw[<- nz hxn];exact gK.mpr ⟨hxn,hy',e⟩) h
     rw[if_neg h,hst,Bool.false_or]
  ·rintro σ H4 ⟨v3,v4,rfl,s4,g4,q4⟩
   refine⟨_,rfl,kk r H4 (s1.trans s4) Va ?_⟩;rw[g4,ao,Ft,List.drop_zero]
   congr 2
   refine fc λy hy=>?_;have hy':=bD.mp hy
   congr 1
   unfold lz
   by_cases h:hs2.any (λx=>bF n R x y)=true
   ·rw[if_pos h]
   ·rw[if_neg h,uI M.G]
    intro z hz _ hst;apply h
    rw[gR];exact⟨z,pm.mem_iff.mpr (bD.mpr hz),hst⟩
end
section
variable {n:Nat} {R:Nat->Nat->Bool}
theorem Wz(G:Good n R)(no:∀a b c,a<n->b<n->c<n->¬ Un n R a b c):∃J N,Md n R J N:=by
 have hJ:∃J:Nat->Nat->Nat,∀a b,a<n->b<n->cz n R a b (J a b):=⟨λa b=>if h:a<n/\b<n then Classical.choose (G.join a b h.1 h.2)else 0,λa b ha hb=>by
  have h:=Qg (G.join a b ha hb);simp only[ha,hb,and_self,dite_true];exact h⟩
 have hN:∃N:Nat->Nat->Nat,∀a b,a<n->b<n->cA n R a b (N a b):=⟨λa b=>if h:a<n/\b<n then Classical.choose (G.meet a b h.1 h.2)else 0,λa b ha hb=>by
  have h:=Qg (G.meet a b ha hb);simp only[ha,hb,and_self,dite_true];exact h⟩
 obtain⟨J,hJ⟩:=hJ;obtain⟨N,hN⟩:=hN;refine⟨J,N,G,hJ,hN,λa b c ha hb hc hac=>?_⟩;apply wj
 intro ne;have h1:=hN b c hb hc;have h3:=hJ a b ha hb;exact no a b c ha hb hc ⟨hac,_,_,_,_,h1,hJ a _ ha h1.1,h3,hN _ c h3.1 hc,ne⟩
end
noncomputable def Five(n:Nat)(R:Nat->Nat->Bool)(fs:List Int):Prop:=∃b l s h t:Nat,fs = [(b:Int),(l:Int),(s:Int),(h:Int),(t:Int)]/\(b<n/\l<n/\s<n/\h<n/\t<n) /\
 l≠h/\R l h=true/\R s h=false/\R l s=false/\cA n R l s b/\cA n R h s b/\cz n R l s t/\cz n R h s t
theorem Te{n:Nat}{R:Nat->Nat->Bool}{b l s h t:Nat}(hb:b<n)(hl:l<n)(hs:s<n)(hh:h<n)(ht:t<n):Five n R [(b:Int),(l:Int),(s:Int),(h:Int),(t:Int)] ↔
  (l≠h/\R l h=true/\R s h=false/\R l s=false/\cA n R l s b/\cA n R h s b/\cz n R l s t/\cz n R h s t):=by
 constructor
 ·rintro⟨b',l',s',h',t',e,_,k⟩
  simp only[mB,Em,and_true]at e;obtain⟨rfl,rfl,rfl,rfl,rfl⟩:=e;exact k
 ·intro k
  exact⟨b,l,s,h,t,rfl,⟨hb,hl,hs,hh,ht⟩,k⟩
section
variable {P:Program} {w:World} {K:W.Frag} {mg:Str->Option Value} {base:Heap} {f:Addr} {fd:FuncData}
end
section
variable {n:Nat} {R:Nat->Nat->Bool} {a b c l s t m x j y:Nat}
theorem JF(G:Good n R)(hl:l<n)(hs:s<n)(ht:t<n)(h1:R l t=true)(h2:R s t=true)(h3:∀z,z<n->R l z=true->R s z=true->R t z=true):cz n R l s t:=
 ⟨ht,λz hz=>by rw[cE,bw];exact⟨λq=>⟨G.trans hl ht hz h1 q,G.trans hs ht hz h2 q⟩,λq=>h3 z hz q.1 q.2⟩⟩
theorem JG(G:Good n R)(hl:l<n)(hs:s<n)(ht:t<n)(h1:R t l=true)(h2:R t s=true)(h3:∀z,z<n->R z l=true->R z s=true->R z t=true):cA n R l s t:=
 ⟨ht,λz hz=>by rw[cE,bw];exact⟨λq=>⟨G.trans hz ht hl q h1,G.trans hz ht hs q h2⟩,λq=>h3 z hz q.1 q.2⟩⟩
theorem lA(h:cz n R a b c){z:Nat}(hz:z<n)(h1:R a z=true)(h2:R b z=true):R c z=true:=by rw[h.2 z hz,h1,h2];rfl
theorem nY(h:cA n R a b c){z:Nat}(hz:z<n)(h1:R z a=true)(h2:R z b=true):R z c=true:=by rw[h.2 z hz,h1,h2];rfl
theorem Tf(G:Good n R)(ha:a<n)(hb:b<n)(hc:c<n)(hac:R a c=true)(hm:cA n R b c m)(hx:cz n R a m x)(hj:cz n R a b j)(hy:cA n R j c y)(ne:x≠y):Five n R [(m:Int),(x:Int),(b:Int),(y:Int),(j:Int)]:=by
 have lm:=hm.1;have lx:=hx.1;have lj:=hj.1;have ly:=hy.1;obtain⟨m1,m2⟩:=hm.dn G hb hc;obtain⟨x1,x2⟩:=hx.up G ha lm;obtain⟨j1,j2⟩:=hj.up G ha hb;obtain⟨y1,y2⟩:=hy.dn G lj hc;have aj:R a y=true:=nY hy ha j1 hac;have my:R m y=true:=nY hy lm (G.trans lm hb lj m1 j2) m2;have xy:R x y=true:=lA hx ly aj my;have xj:R x j=true:=lA hx lj j1 (G.trans lm hb lj m1 j2);have J1:cz n R x b j:=JF G lx hb lj xj j2 λz hz q1 q2=>lA hj hz (G.trans ha lx hz x1 q1) q2;have J2:cz n R y b j:=JF G ly hb lj y1 j2 λz hz q1 q2=>lA hj hz (G.trans ha ly hz aj q1) q2;have M2:cA n R y b m:=JG G ly hb lm my m1 λz hz q1 q2=>nY hm hz q2 (G.trans hz ly hc q1 y2);have M1:cA n R x b m:=JG G lx hb lm x2 m1 λz hz q1 q2=>nY M2 hz (G.trans hz lx ly q1 xy) q2;refine(Te lm lx hb ly lj).mpr ⟨ne,xy,?_,?_,M1,M2,J1,J2⟩
 ·cases e:R b y with
  |false=>rfl
  |true =>
   have hjy:R j y=true:=lA J2 ly (G.refl y ly) e;have hbm:R b m=true:=nY M2 hb e (G.refl b hb);have hjx:R j x=true:=lA hj lx x1 (G.trans hb lm lx hbm x2);exact absurd (G.anti _ _ lx ly xy (G.trans ly lj lx y1 hjx)) ne
 ·cases e:R x b with
  |false=>rfl
  |true =>
   have UJ:R j b=true:=lA J1 hb e (G.refl b hb);have Vm:R y b=true:=G.trans ly lj hb y1 UJ;have Vn:R y m=true:=nY M2 ly (G.refl y ly) Vm;exact absurd (G.anti _ _ lx ly xy (G.trans ly lm lx Vn x2)) ne
end
section
variable {P:Program} {w:World} {K:W.Frag} {mg:Str->Option Value} {base:Heap} {f:Addr} {fd:FuncData}
abbrev BP:Stmt:=top 49
theorem Nr:aU ["order","triple","a","b","c","low","high"] ["order","triple"] (aB BP):=⟨rfl,rfl,rfl,by decide +kernel,rfl,by decide +kernel,by decide +kernel⟩
noncomputable def CJ(K:W.Frag)(C:Addr):Sp:=λvs H Q _=>∃(p t n a b c:Nat) (R:Nat->Nat->Bool),vs = [.ref p,.ref t]/\dg C H p n R/\Good n R/\ax K H t [.int a,.int b,.int c]/\a<n/\b<n/\c<n/\Un n R a b c /\
 ∀u fs H',Same H H'->H' u=some (.tup (fs.map V.int))->Five n R fs->Q (.ref u) H'
theorem Xq {C:Addr} (F:aR K "five_of" "five_of" BP f fd) (T:Txt mg) (TC:dk K C) (m6:au P w K mg base "join_of_meet" ["order","a","b","c"] 1 (vv C)) (m_:au P w K mg base "meet_of_join" ["order","a","b","c"] 1 (vz C)) :
  aM P w K mg base aN 2 f fd ["order","triple"] (CJ K C):=by
 refine F.ok Nr (λvs H Q E h=>?_) (λcdv A outer s H vs Q E hr h=>?_)
 ·obtain⟨p,t,n,a,b,c,R,rfl,_⟩:=h
  rfl
 ·obtain⟨p,t,n,a,b,c,R,rfl,hO,G,hT,ha,hb,hc,⟨hac,m,x,j,y,hm,hx,hj,hy,ne⟩,kk⟩:=h
  have nd:=Nr.nd;obtain⟨dx,vp,vr,vj,vm,o1,_,_,oj,om⟩:=id hO;have em:fC n (λa b=>R b a) b c = .int m:=fD G.jx hm.1 hm.2;have ej:fC n R a b = .int j:=fD G.dis hj.1 hj.2;obtain⟨ra,us,rb,rfl,q1,q2,q3⟩:=oj.get ha;obtain⟨sa,us',sb,rfl,p1,p2,p3⟩:=om.get hb;refine⟨_,(ay (aV (i:=2) nd rfl (Or.inl rfl) (aF (aW (K:=K) rfl) (pv 1) aD (λ_ _=>rfl)))
   (ay (aV (i:=3) nd rfl (Or.inl rfl) (aF (aW (K:=K) rfl) (pv 1) aD (λ_ _=>rfl)))
   (ay (aV (i:=4) nd rfl (Or.inl rfl) (aF (aW (K:=K) rfl) (pv 1) aD (λ_ _=>rfl)))
   (ay (aV (i:=5) nd rfl (Or.inl rfl) (aQ m6 hr rfl (ag (pv 0) (ag (pv 2) (ag (pv 3) (ag (pv 4) ah (a9 nofun)) (a9 nofun)) (a9 nofun)) (a9 nofun))))
   (ay (aV (i:=6) nd rfl (Or.inl rfl) (aQ m_ hr rfl (ag (pv 0) (ag (pv 2) (ag (pv 3) (ag (pv 4) ah (a9 nofun)) (a9 nofun)) (a9 nofun)) (a9 nofun))))
   (az (aX (ie (ag (aF (aW (K:=K) rfl) (aF (aW (K:=K) rfl) (cy (K:=K) rfl (pv 0) rfl) (pv 3) (λ_ _=>rfl)) (pv 4) (λ_ _=>rfl)) (ag (pv 5) (ag (pv 3) (ag (pv 6) (ag (aF (aW (K:=K) rfl) (aF (aW (K:=K) rfl) (cy (K:=K) rfl (pv 0) rfl) (pv 2) (λ_ _=>rfl)) (pv 3) (λ_ _=>rfl)) ah (a9 nofun)) (a9 nofun)) (a9 nofun)) (a9 nofun)) (a9 nofun)))))))))),?_⟩
  refine⟨_,rfl,t,_,0,.int (a:Int),rfl,rfl,hT,aS (j:=0) rfl,?_⟩;refine⟨_,rfl,t,_,1,.int (b:Int),rfl,rfl,hT,aS (j:=1) rfl,?_⟩;refine⟨_,rfl,t,_,2,.int (c:Int),rfl,rfl,hT,aS (j:=2) rfl,?_⟩;refine⟨_,rfl,_,rfl,_,rfl,_,rfl,p,n,a,b,c,m,x,R,rfl,hO,G,ha,hb,hc,hm,hx,?_⟩;refine⟨_,rfl,_,rfl,_,rfl,_,rfl,p,n,a,b,c,j,y,R,rfl,hO,G,ha,hb,hc,hj,hy,?_⟩;refine⟨_,rfl,p,C,dx,_,_,rfl,o1,TC.cl,TC.nM,tG _ _ _ _ _,_,rfl,sa,us',_,.ref sb,rfl,rfl,ax.of p1,aS p2,_,rfl,sb,_,_,.int (m:Int),rfl,rfl,ax.of p3,aS (by rw[fI hc,em]),_,rfl,_,rfl,_,rfl,
   _,rfl,p,C,dx,_,_,rfl,o1,TC.cl,TC.nJ,tF _ _ _ _ _,_,rfl,ra,us,_,.ref rb,rfl,rfl,ax.of q1,aS q2,_,rfl,rb,_,_,.int (j:Int),rfl,rfl,ax.of q3,aS (by rw[fI hb,ej]),by show 5<=sizeLine;decide,λu hu=>?_⟩
  exact kk u [(m:Int),(x:Int),(b:Int),(y:Int),(j:Int)] _ (Same.put hu) aA (Tf G ha hb hc hac hm hx hj hy ne)
abbrev BM:Stmt:=top 51
theorem Nn:aU ["order","triple"] ["order"] (aB BM):=⟨rfl,rfl,rfl,by decide +kernel,rfl,by decide +kernel,by decide +kernel⟩
noncomputable def vk(C Pt:Addr):Sp:=λvs H Q _=>∃(p n:Nat) (R:Nat->Nat->Bool),vs = [.ref p]/\dg C H p n R/\Good n R/\n<=24/\H Pt=some (.lam iM iN) /\
 (∀(J N:Nat->Nat->Nat) (M:Md n R J N) t D H',Same H H'->H D=none->(∀a b c,a<n->b<n->c<n->¬ Un n R a b c)->H' t=some (.tup [.bl true,.ref D])->H' D=some (.lst ((List.range n).map λx=>nV (rk M.G x)))->Q (.ref t) H') /\
 (∀t u fs a b c H',Same H H'->First n (Un n R) a b c->H' t=some (.tup [.bl false,.ref u])->H' u=some (.tup (fs.map V.int))->Five n R fs->Q (.ref t) H')
theorem Xm {C Pt:Addr} (F:aR K "evenness" "evenness" BM f fd) (T:Txt mg) (yr:au P w K mg base "uneven" ["order"] 2 (Df C)) (ye:au P w K mg base "heights_of" ["order"] 5 (CK C Pt)) (yd:au P w K mg base "five_of" ["order","triple"] 2 (CJ K C)) :
  aM P w K mg base aN 6 f fd ["order"] (vk C Pt):=by
 refine F.ok Nn (λvs H Q E h=>?_) (λcdv A outer s H vs Q E hr h=>?_)
 ·obtain⟨p,n,R,rfl,_⟩:=h
  rfl
 ·obtain⟨p,n,R,rfl,hO,G,hn,hP,k1,k2⟩:=h
  have nd:=Nn.nd;refine⟨_,(ay (aV (i:=1) nd rfl (Or.inl rfl) (aQ yr hr rfl (ag (pv 0) ah)))
   (ay (cM (bW Bg (pv 1) uD (bL _)) (az (aX (ie (ag d0 (ag (aQ ye hr rfl (ag (pv 0) ah)) ah))))) cU)
   (az (aX (ie (ag d0 (ag (aQ yd hr rfl (ag (pv 0) (ag (pv 1) ah))) ah))))))),?_⟩
  refine⟨_,rfl,p,n,R,rfl,hO,G,hn,λv H1 s1 hv=>?_⟩
  rcases hv with⟨rfl,no⟩|⟨t,a,b,c,rfl,g,fst⟩
  ·obtain⟨J,N,M⟩:=Wz G no
   refine⟨_,rfl,rfl,_,rfl,lB ?_⟩;refine⟨_,rfl,p,n,R,J,N,M,rfl,hO.cN s1,hn,s1 _ _ hP,λD H2 s2 nD gD=>⟨by show 2<=sizeLine;decide,λt ht=>?_⟩⟩;exact k1 J N M t D _ (s1.trans (s2.trans (Same.put ht))) (s1.free nD) no aA (Same.put ht _ _ gD)
  ·refine⟨_,rfl,rfl,_,rfl,cI ?_⟩
   refine⟨_,rfl,_,rfl,p,t,n,a,b,c,R,rfl,hO.cN s1,G,ax.of g,fst.la,fst.lb,fst.lc,fst.is,λu fs H2 s2 gu hf=>⟨by show 2<=sizeLine;decide,λt' ht=>?_⟩⟩;exact k2 t' u fs a b c _ (s1.trans (s2.trans (Same.put ht))) fst aA (Same.put ht _ _ gu) hf
abbrev BR:Stmt:=top 44
theorem Nv:aU ["order","a","b"] ["order","a","b"] (aB BR):=⟨rfl,rfl,rfl,by decide +kernel,rfl,by decide +kernel,by decide +kernel⟩
noncomputable def CN(C Pt:Addr):Sp:=λvs H Q _=>∃(p n a b:Nat) (R:Nat->Nat->Bool),vs = [.ref p,.int a,.int b]/\dg C H p n R/\Good n R/\n<=24/\H Pt=some (.lam iM iN)/\a<n/\b<n /\
 ∀H',Same H H'->Q (nV (dB n R b a)) H'
theorem Xt {C Pt:Addr} (F:aR K "how_many" "how_many" BR f fd) (T:Txt mg) (TC:dk K C) (dP:au P w K mg base "need_thing" ["count","number"] 3 lR) (nh:au P w K mg base "steps_above" ["order"] 4 (vJ C))
  (x9:au P w K mg base "climbs_to" ["order","above","end"] 2 (Cu C Pt)):aM P w K mg base aN 5 f fd ["order","a","b"] (CN C Pt):=by
 refine F.ok Nv (λvs H Q E h=>?_) (λcdv A outer s H vs Q E hr h=>?_)
 ·obtain⟨p,n,a,b,R,rfl,_⟩:=h
  rfl
 ·obtain⟨p,n,a,b,R,rfl,hO,G,hn,hP,ha,hb,kk⟩:=h
  have nd:=Nv.nd;obtain⟨dx,vp,vr,vj,vm,o1,_⟩:=id hO;refine⟨_,(ay (dJ (aQ dP hr rfl (ag (cy (K:=K) rfl (pv 0) rfl) (ag (pv 1) ah))))
   (ay (dJ (aQ dP hr rfl (ag (cy (K:=K) rfl (pv 0) rfl) (ag (pv 2) ah))))
   (az (aX (aF (bB (K:=K) rfl) (aQ x9 hr rfl (ag (pv 0) (ag (aQ nh hr rfl (ag (pv 0) ah)) (ag (pv 2) ah (a9 nofun)) (a9 nofun)) (a9 nofun))) (pv 1) (λ_ _=>rfl)))))),?_⟩
  refine⟨_,rfl,p,C,dx,_,_,rfl,o1,TC.cl,TC.nC,fE _ _ _ _ _,_,rfl,⟨n,a,rfl,by omega,by omega⟩,λv1 H1 s1 e1=>?_⟩;refine⟨_,rfl,p,C,dx,_,_,rfl,s1 _ _ o1,TC.cl,TC.nC,fE _ _ _ _ _,_,rfl,⟨n,b,rfl,by omega,by omega⟩,λv2 H2 s2 e2=>?_⟩;have s12:=s1.trans s2;refine⟨_,rfl,_,rfl,p,n,R,rfl,hO.cN s12,hn,λD H3 s3 nD hA=>?_⟩;have gN:=s12.trans s3;refine⟨_,rfl,p,D,n,b,R,rfl,hO.cN gN,G,hn,gN _ _ hP,hA,hb,λr H4 s4 nr g4=>?_⟩;exact⟨_,rfl,r,_,_,nV (dB n R b a),rfl,rfl,ai.of g4,aS (fI ha),kk _ (gN.trans s4)⟩
end
theorem L0{α β:Type}{R:α->β->Prop}:∀{l:List α} {m:List β},Paired R l m->Paired (λa b=>a∈l/\R a b) l m
 |_,_,.nil=>.nil
 |_,_,.cons h r=>.cons ⟨bx ..,h⟩ (Paired.di (L0 r) λ_ _ ⟨x,y⟩=>⟨bu _ x,y⟩)
theorem TT.cg{H:Hp}{v:V}{n:Nat}{g g':Nat->Nat->V}(h:TT H v n g)(e:∀i j,i<n->j<n->g i j=g' i j):TT H v n g':=by
 obtain⟨a,vs,e1,e2,r⟩:=h;refine⟨a,vs,e1,e2,Paired.di (L0 r) λi u ⟨hi,b,e3,e4⟩=>⟨b,e3,?_⟩⟩;rw[e4,fc λj hj=>e i j (bD.mp hi) (bD.mp hj)]
theorem o6.at{C:Addr}{H:Hp}{p n:Nat}{R:Nat->Nat->Bool}(h:o6 C H p n R)(G:Good n R):dg C H p n R:=by
 obtain⟨R',⟨dx,vp,vr,vj,vm,o1,o2,o3,o4,o5⟩,hR⟩:=h;have G':Good n R':=G.congr hR;refine⟨dx,vp,vr,vj,vm,o1,by rw[<- Ya hR];exact o2,o3.cg λi j hi hj=>?_,o4.cg λi j hi hj=>?_,o5.cg λi j hi hj=>?_⟩
 ·show V.bl (R' i j)=V.bl (R i j)
  rw[hR i j hi hj]
 ·obtain⟨c,hc,hx⟩:=G'.join i j hi hj
  rw[fD G'.dis hc hx,fD G.dis hc λx h=>by rw[<- hR c x hc h,<- hR i x hi h,<- hR j x hj h];exact hx x h]
 ·obtain⟨c,hc,hx⟩:=G'.meet i j hi hj
  rw[fD (R:=λa b=>R' b a) G'.jx hc hx,fD (R:=λa b=>R b a) G.jx hc λx h=>by rw[<- hR x c h hc,<- hR x i h hi,<- hR x j h hj];exact hx x h]
theorem Yb(ps qs:List Nat):Dv.pd (ps++qs)=Dv.pd ps*Dv.pd qs:=by
 induction ps with
 |nil=>exact(rH _).symm
 |cons p ps ih =>
  show p*Dv.pd (ps++qs)=p*Dv.pd ps*Dv.pd qs;rw[ih,dX]
theorem HD{K:W.Frag}{H:Hp}{D D':Addr}{zs:List Nat}(h:H D=some (.lst (zs.map nV)))(h':H D'=some (.lst (zs.map nV))):wx K H 1 [.bl true,.ref D] [.bl true,.ref D'] λ_=>true:=by
 refine⟨rfl,λj x y hx hy=>?_⟩
 match j,hx,hy with
 |0,hx,hy =>
  cases hx;cases hy;exact cF.bl 1 true true
 |1,hx,hy =>
  cases hx;cases hy;have:=cF.lst (K:=K) (H:=H) 0 D D' (zs.map nV) (zs.map nV) (λ_=>true) (ai.of h) (ai.of h') rfl λj x y hx hy=>by
   rw[hx]at hy;cases hy;rw[bC]at hx;obtain⟨z,hz,rfl⟩:=mG.mp hx;have:=cF.int (K:=K) (H:=H) 0 (z:Int) (z:Int);rw[r0]at this;exact this
  rw[cn.mpr λ_ _=>rfl]at this;exact this
theorem sE(x:Int)(k:Nat)(hk:0<k):∃r:Nat,r<k/\x % (k:Int)=(r:Int):=
 ⟨(x % (k:Int)).toNat,by have h1:=mn x (show(k:Int)≠0 by omega);have h2:=q0 x (show(0:Int)<k by omega);omega,by have h1:=mn x (show(k:Int)≠0 by omega);omega⟩
theorem X8{n:Nat}{l:List Nat}(A:Dv.All n l)(h0:0<n)(asc:l.Pairwise (· < ·)){ps:List Nat}(h:Dv.PL n ps){k:Nat}(hk:k<=ps.length):∃W,W*Dv.c7 (ps.take k)=Dv.fct k:=by
 have e:Dv.pd (ps.take k)*Dv.pd (ps.drop k)=n:=by rw[<- Yb,Qw];exact h.eq
 obtain⟨i,hi,ei⟩:=kj A (show Dv.pd (ps.drop k) ∣ n from⟨_,by rw[cB];exact e.symm⟩);exact⟨_,Hq A h0 asc k (ps.take k) i (by rw[iY];omega) (λp hp=>h.pr p (List.mem_of_mem_take hp)) hi (by rw[ei,cB];exact e)⟩
section
variable {P:Program} {w:World} {K:W.Frag} {mg:Str->Option Value} {base:Heap} {f:Addr} {fd:FuncData}
abbrev qO:Stmt:=top 61
theorem NZ:aU ["_law_number","_law_draws_here","_law_some","_law_order","_law_j","_law_k","_law_common_here"] ["_law_number","_law_draws_here"] (aB qO):=⟨rfl,rfl,rfl,by decide +kernel,rfl,by decide +kernel,by decide +kernel⟩
noncomputable def CZ(K:W.Frag)(Pt Ps:Addr):Sp:=λvs H Q _=>∃(n d:Nat) (x0 x1:Int),vs = [.int (n:Int),.ref d]/\1<=n/\n<=1000000/\(Dv.divs n).length<=24/\ai K H d [.int x0,.int x1]/\H Pt=some (.lam iM iN)/\H Ps=some (.lam pR pS)/\∀H',Same H H'->Q (.bl true) H'
theorem XH {C Pt Ps:Addr} (F:aR K "_law_numbers_well" "_law_numbers_well" qO f fd) (T:Txt mg) (TC:dk K C) (mV:au P w K mg base "dividers" ["number"] 2 vf) (yb:au P w K mg base "dividing" ["number"] 8 (Cw C Ps)) (mX:au P w K mg base "evenness" ["order"] 6 (vk C Pt)) (yf:au P w K mg base "how_many" ["order","a","b"] 5 (CN C Pt))
  (m5:jY P w K mg base C "join" ["self","a","b"] 4 (vx C)) (m8:jY P w K mg base C "meet" ["self","a","b"] 4 (vy C)) (se:au P w K mg base "_law_prime_parts" ["_law_number"] 1 Dc) (yo:au P w K mg base "_law_orders_of" ["_law_parts"] 1 (C_ K)) (yh:au P w K mg base "_law_common" ["_law_one","_law_other"] 1 Cv) :
  aM P w K mg base aN 9 f fd ["_law_number","_law_draws_here"] (CZ K Pt Ps):=by
 refine F.ok NZ (λvs H Q E h=>?_) (λcdv A outer s H vs Q E hr h=>?_)
 ·obtain⟨n,d,x0,x1,rfl,_⟩:=h
  rfl
 ·obtain⟨n,d,x0,x1,rfl,h1,hn,d_,hd,hP,hPs,kk⟩:=h
  have nd:=NZ.nd;have hu0:=hr.units;have hu2:(A.deeper (envOfC "_law_numbers_well" (aB qO) s.heap.objs.size f cdv)).units+1+1<cLine:=by omega
  obtain⟨A1,asc⟩:=Dv.sC hn h1;have G:=zD A1 h1;obtain⟨l0,etop,Sn⟩:=Ho A1 h1 asc;have hle:∀i,i<(Dv.divs n).length->(Dv.divs n).getD i 0<=1000000:=λi hi=>cp (oU h1 (jy A1 hi)) hn;refine⟨_,(@ay _ _ _ _ _ (aV (i:=2) nd rfl (Or.inl rfl) (aQ mV hr rfl (ag (pv 0) ah)))
   (@ay _ _ _ _ _ (aV (i:=3) nd rfl (Or.inl rfl) (aQ yb hr rfl (ag (pv 0) ah)))
   (@ay _ _ _ _ _ (cM (bW (Bh (K:=K) false 1 rfl hu2) (aQ mX hr rfl (ag (pv 3) ah)) (ie (ag d0 (ag (dc (own:=["_law_one"]) (fr:=[]) rfl (bQ (aB qO) ["_law_number","_law_draws_here","_law_some","_law_order","_law_j","_law_k","_law_common_here"] rfl rfl (by decide +kernel)) (eB (K:=K) rfl (pv 2)) (λ_ _ _ _=>⟨(aZ (i:=0) (by decide +kernel:(["_law_one"]:List Str).Nodup) rfl (Or.inl rfl)),dw,(cL (d7 (K:=K) rfl) rfl T.len eL (ag (aQ se hr rfl (ag (pv 0) ah)) ah))⟩)) ah))) (bL _)) (az (aX d0)) cU)
   (@ay _ _ _ _ _ (aV (i:=4) nd rfl (Or.inl rfl) (aO dv (aF (bB (K:=K) rfl) (pv 1) aD (λ_ _=>rfl)) (cL (d7 (K:=K) rfl) rfl T.len eL (ag (pv 2) ah))))
   (@ay _ _ _ _ _ (aV (i:=5) nd rfl (Or.inl rfl) (aO dv (aF (bB (K:=K) rfl) (pv 1) aD (λ_ _=>rfl)) (cL (d7 (K:=K) rfl) rfl T.len eL (ag (pv 2) ah))))
   (@ay _ _ _ _ _ (aV (i:=6) nd rfl (Or.inl rfl) (aQ yh hr rfl (ag (aF (bB (K:=K) rfl) (pv 2) (pv 4) (λ_ _=>rfl)) (ag (aF (bB (K:=K) rfl) (pv 2) (pv 5) (λ_ _=>rfl)) ah))))
   (@ay _ _ _ _ _ (cM (PW.pt (qH (bW kB (aF (bB (K:=K) rfl) (pv 2) (uC m8 TC.cl hr (pv 3) (ag (pv 4) (ag (pv 5) ah))) (λ_ _=>rfl)) (pv 6) (bL _)) (qI (bW kB (aF (bB (K:=K) rfl) (pv 2) (uC m5 TC.cl hr (pv 3) (ag (pv 4) (ag (pv 5) ah))) (λ_ _=>rfl)) (aO lJ (aO eu (aF (bB (K:=K) rfl) (pv 2) (pv 4) (λ_ _=>rfl)) (aF (bB (K:=K) rfl) (pv 2) (pv 5) (λ_ _=>rfl))) (pv 6)) (bL _))))) (az (aX d0)) cU)
   (az (aX (oq jN (aQ yf hr rfl (ag (pv 3) (ag aD (ag (aO LK (cL (d7 (K:=K) rfl) rfl T.len eL (ag (pv 2) ah)) aD) ah (a9 nofun)) (a9 nofun)) (a9 nofun))) (aQ yo hr rfl (ag (aQ se hr rfl (ag (pv 0) ah)) ah)) (bL _))))))))))),?_⟩
  refine⟨_,rfl,n,rfl,h1,hn,d_,λL H1 s1 hL0 hL=>?_⟩;dsimp only[bq];show cV _ _ _ [some (.int (n:Int)),some (.ref d),some (.ref L),none,none,none,none] _;refine⟨_,rfl,n,rfl,h1,hn,d_,s1 _ _ hPs,λz H2 s2 hOf=>?_⟩;have hO:=hOf.at G;have dA:=s1.trans s2;have hL2:=s2 _ _ hL;dsimp only[bq];show cV _ _ _ [some (.int (n:Int)),some (.ref d),some (.ref L),some (.ref z),none,none,none] _;generalize hl:Dv.divs n=l at *;refine⟨_,rfl,z,l.length,cH l,rfl,hO,G,d_,dA _ _ hP,λJ N M t D H3 s3 T8 hno ht hD=>?_,λt u fs a b c H3 _ hf _ _ _=>absurd hf.is (Si A1 h1 hf.la hf.lb hf.lc)⟩;dsimp only;have gN:=s2.trans s3;have lN:=s1.trans gN;have iL:=gN _ _ hL;refine⟨_,rfl,L,rfl,⟨_,ai.of iL⟩,λD2 hD2=>fu (λi=>nV (rk M.G i)) (src_list (ai.of iL)) hD2 (by rw[ao];exact cQ d_) (λi H4 Kt hi hs kt=>?_) (λH4 s4 jH=>?_)⟩
  ·rw[ao]at hi
   have eg:(l.map nV).getD i .non=nV (l.getD i 0):=by rw[aL,fW hi];rfl
   rw[eg];refine⟨_,rfl,l.getD i 0,rfl,jz A1 h1 hi,hle i hi,λL2 ps H5 s5 abh hL2' ll=>⟨L2,_,rfl,.inl (ai.of hL2'),?_⟩⟩;rw[ao,<- Hn A1 h1 M ps i ll.pr hi ll.eq.symm];exact kt _ s5
  rw[ao]at jH;refine⟨by show 2<=sizeLine;decide,λt2 lu=>?_⟩;have s5:=Same.put lu (o:=.tup [.bl true,.ref D2]);have ig:=s4.trans s5;have zs:∀{X:Hp} {a:Addr},X a=some (.lst ((List.range l.length).map λx=>nV (rk M.G x)))->X a=some (.lst (((List.range l.length).map (rk M.G)).map nV)):=λh=>by rw[h,bZ];rfl
  refine⟨t,t2,_,_,λ_=>true,rfl,rfl,ax.of (ig _ _ ht),ax.of aA,HD (zs (ig _ _ hD)) (zs (s5 _ _ jH)),?_⟩;rw[cn.mpr λ_ _=>rfl];refine⟨_,rfl,cI ?_⟩;have jS:=lN.trans ig;have fT:=ig _ _ iL;have kr:=hO.cN (s3.trans ig);generalize upd H4 t2 (.tup [.bl true,.ref D2])=H5 at jS fT kr ⊢;have el:(((l.map nV).length:Nat):Int)=(l.length:Int):=by rw[ao]
  obtain⟨j,hj,ej⟩:=sE x0 l.length l0;obtain⟨k,hk,ek⟩:=sE x1 l.length l0;dsimp only[Ds];refine jT (λσ' H'=>σ' = [some (.int (n:Int)),some (.ref d),some (.ref L),some (.ref z),some (.int (j:Int)),none,none]/\H'=H5) (λD' _ hnx=>?_) ?_
  ·refine⟨_,rfl,d,_,0,_,rfl,rfl,jS.seq hd,aS (j:=0) rfl,_,rfl,L,_,rfl,.inl (ai.of fT),_,_,rfl,rfl,(by rw[el];omega),?_⟩
   rw[el];dsimp only;rw[ej];exact hnx _ _ ⟨rfl,rfl⟩
  intro σ1 Hx ⟨e1,e2⟩;rw[e1,e2];refine jT (λσ' H'=>σ' = [some (.int (n:Int)),some (.ref d),some (.ref L),some (.ref z),some (.int (j:Int)),some (.int (k:Int)),none]/\H'=H5) (λD' _ hnx=>?_) ?_
  ·refine⟨_,rfl,d,_,1,_,rfl,rfl,jS.seq hd,aS (j:=1) rfl,_,rfl,L,_,rfl,.inl (ai.of fT),_,_,rfl,rfl,(by rw[el];omega),?_⟩
   rw[el];dsimp only;rw[ek];exact hnx _ _ ⟨rfl,rfl⟩
  intro σ2 Hy ⟨e3,e4⟩;rw[e3,e4];refine⟨_,rfl,_,rfl,L,_,_,_,rfl,rfl,ai.of fT,aS (fW hj),_,rfl,_,rfl,L,_,_,_,rfl,rfl,ai.of fT,aS (fW hk),l.getD j 0,l.getD k 0,rfl,hle j hj,hle k hk,λH6 s6=>?_⟩;dsimp only[bq];show cV _ _ _ [some (.int (n:Int)),some (.ref d),some (.ref L),some (.ref z),some (.int (j:Int)),some (.int (k:Int)),some (.int ((Nat.gcd (l.getD j 0) (l.getD k 0):Nat):Int))] _;have ZC:=jS.trans s6;have Ud:=s6 _ _ fT;have zJ:=kr.cN s6;obtain⟨dx,vp,vr,vj,vm,o1,_⟩:=id zJ;have nM:(aJ l.length vp vr vj vm).lookup ("meet" : Str)=none:=tH _ _ _ _ _ (by decide +kernel) (by decide +kernel) (by decide +kernel) (by decide +kernel) (by decide +kernel);obtain⟨cm,hcm⟩:=G.meet j k hj hk;obtain⟨cj,hcj⟩:=G.join j k hj hk;have hM:cA l.length (cH l) j k cm:=hcm;have hJ:cz l.length (cH l) j k cj:=hcj;refine⟨_,rfl,_,rfl,z,dx,_,rfl,o1,nM,_,rfl,_,rfl,z,l.length,j,k,cm,cH l,rfl,zJ,G,hj,hk,hM,λH7 s7=>?_⟩;have BJ:=ZC.trans s7;have Ij:=s7 _ _ Ud;have nE:=zJ.cN s7;refine⟨L,_,_,_,rfl,rfl,ai.of Ij,aS (fW hM.1),_,rfl,rfl,_,rfl,?_⟩;rw[yy A1 hj hk hM];rw[cC rfl];refine cI ?_;obtain⟨yz,DW,vr',DS,DT,o1',_⟩:=id nE;have nJ:(aJ l.length DW vr' DS DT).lookup ("join" : Str)=none:=tH _ _ _ _ _ (by decide +kernel) (by decide +kernel) (by decide +kernel) (by decide +kernel) (by decide +kernel);refine⟨_,rfl,_,rfl,z,yz,_,rfl,o1',nJ,_,rfl,_,rfl,z,l.length,j,k,cj,cH l,rfl,nE,G,hj,hk,hJ,λH8 s8=>?_⟩;have qL:=BJ.trans s8;have hL8:=s8 _ _ Ij;have Uh:=nE.cN s8;have g0:0<Nat.gcd (l.getD j 0) (l.getD k 0):=Qz _ (jz A1 h1 hj);have gl:Nat.gcd (l.getD j 0) (l.getD k 0)<=1000000:=cp (oU (jz A1 h1 hj) (kU _ _)) (hle j hj);have lj:=hle j hj;refine⟨L,_,_,_,rfl,rfl,ai.of hL8,aS (fW hJ.1),_,rfl,_,rfl,L,_,_,_,rfl,rfl,ai.of hL8,aS (fW hj),_,rfl,_,rfl,L,_,_,_,rfl,rfl,ai.of hL8,aS (fW hk),_,_,rfl,rfl,.inl ⟨by omega,by omega⟩,_,rfl,_,_,rfl,rfl,⟨by omega,by omega⟩,rfl,_,rfl,?_⟩;rw[yx A1 hj hk hJ];have Sv:((l.getD j 0:Nat):Int)*((l.getD k 0:Nat):Int) / ((Nat.gcd (l.getD j 0) (l.getD k 0):Nat):Int)=((Nat.lcm (l.getD j 0) (l.getD k 0):Nat):Int):=by
   unfold Nat.lcm;rw[q9,iW]
  dsimp only;have hf:(!decide (nV (Nat.lcm (l.getD j 0) (l.getD k 0))=V.int (((l.getD j 0:Nat):Int)*((l.getD k 0:Nat):Int) / ((Nat.gcd (l.getD j 0) (l.getD k 0):Nat):Int))))=false:=by
   rw[Sv];show(!decide (nV _=nV _))=false;rw[cC rfl];rfl
  rw[hf];refine cI ?_;have Sw:(((l.map nV).length:Nat):Int) - 1=((l.length - 1:Nat):Int):=by rw[ao];omega
  refine⟨_,rfl,_,rfl,L,_,rfl,.inl (ai.of hL8),_,_,rfl,rfl,z,l.length,0,l.length - 1,cH l,by rw[<- Sw];rfl,Uh,G,d_,qL _ _ hP,l0,by omega,λH9 s9=>?_⟩;have ZD:=qL.trans s9;refine⟨_,rfl,n,rfl,h1,hn,λLp ps H10 ZF abk Ue ll=>⟨Lp,ps,rfl,ai.of Ue,Ke ll hn,λk hk=>X8 A1 h1 asc ll hk,λzz Qj ZG hz=>?_⟩⟩;have Vk:=Hq A1 h1 asc ps.length ps 0 rfl ll.pr l0 (by rw[Sn,rH];exact ll.eq);have ez:dB l.length (cH l) (l.length - 1) 0=zz:=Qy (Dv.tE ps) (Vk.trans hz.symm);refine⟨rfl,?_⟩;rw[ez,cC rfl];exact kk _ (ZD.trans (ZF.trans ZG))
end
end My
namespace Fl
noncomputable def Dp(f g:List Nat):Bool:=f.all λx=>g.contains x
noncomputable def eD(w i j:Nat):Bool:=Dp ((aJ w).getD i []) ((aJ w).getD j [])
noncomputable def mR(ms:List Nat)(i j:Nat):Bool:=Nat.beq (Nat.land (ms.getD i 0) (ms.getD j 0)) (ms.getD i 0)
noncomputable def zC(n:Nat)(R:Nat->Nat->Bool):Bool:=(List.range n).all λa=>R a a&&(List.range n).all λb=>(!(R a b&&R b a)||Nat.beq a b)&&(List.range n).any (λc=>(List.range n).all λx=>R c x==(R a x&&R b x))&&(List.range n).any (λc=>(List.range n).all λx=>R x c==(R x a&&R x b))
noncomputable def d8:Nat->List (List Nat)
 |0=>[[0]]
 |1=>[[0],[0,1]]
 |2=>[[0],[0,1],[0,2],[0,3],[0,1,2,3]]
 |_=>[[0],[0,1],[0,2],[0,3],[0,4],[0,5],[0,6],[0,7],[0,1,2,3],[0,1,4,5],[0,1,6,7],[0,2,4,6],[0,2,5,7],[0,3,4,7],[0,3,5,6],[0,1,2,3,4,5,6,7]]
noncomputable def bH:Nat->List Nat
 |0=>[1]
 |1=>[1,3]
 |2=>[1,3,5,9,15]
 |_=>[1,3,5,9,17,33,65,129,15,51,195,85,165,153,105,255]
theorem k9:∀w,w<4->aJ w=d8 w:=by decide +kernel
theorem OJ:∀w,w<4->∀i,i<(d8 w).length->∀j,j<(d8 w).length->Dp ((d8 w).getD i []) ((d8 w).getD j [])=mR (bH w) i j:=by decide +kernel
theorem T2:∀w,w<4->zC (d8 w).length (mR (bH w))=true:=by decide +kernel
theorem T1{n:Nat}{R:Nat->Nat->Bool}(h:zC n R=true):(∀a,a<n->R a a=true)/\(∀a b,a<n->b<n->R a b=true->R b a=true->a=b)/\(∀a b,a<n->b<n->∃c,c<n/\∀x,x<n->R c x=(R a x&&R b x))/\∀a b,a<n->b<n->∃c,c<n/\∀x,x<n->R x c=(R x a&&R x b):=by
 unfold zC at h;simp only[cn,gR,bD,bw,gg,gH,Nat.beq_eq,oH]at h;refine⟨λa ha=>(h a ha).1,λa b ha hb h1 h2=>?_,λa b ha hb=>((h a ha).2 b hb).1.2,λa b ha hb=>((h a ha).2 b hb).2⟩
 rcases((h a ha).2 b hb).1.1 with z|z
 ·rw[h1,h2]at z
  cases z
 ·exact z
theorem tI{w:Nat}(hw:w<4){f:List Nat}(hf:f∈aJ w):f.length<=8/\∀x∈f,x<8:=by
 have h:∀w,w<4->((d8 w).all λf=>decide (f.length<=8)&&f.all λx=>decide (x<8))=true:=by decide +kernel
 have h:=h w hw;rw[k9 w hw]at hf;simp only[cn,bw,cw]at h;exact h f hf
end Fl
namespace L2
open PySem PySem.Spec PyProof.Rows
abbrev yt (P:Program) (w:World) (K:W.Frag) (mg:Str->Option Value) (base:Heap) (ps:List Str) (qual:Str) (scope:Scope) (p:Addr) (cd:Value) (A:Around) (outer:List Env) (s:Shared) (H:Hp):Cx:=
 (kh aN P w K mg base ps qual scope p cd A outer s H E0).lI
section
variable {P:Program} {w:World} {K:W.Frag} {mg:Str->Option Value} {base:Heap} {A:Around} {outer:List Env} {s:Shared} {H:Hp} {p c:Addr} {qual:Str} {params:Arguments} {body:Expr} {scope:Scope}
 {ps:List Str} {vs:List V} {us:List Value} {pm ctv:Value} {Q:VK} {t:TE}
theorem Wa (S:aU ps ps scope) (hr:A.depth<recursionLimit) (hd:A.handled=none) (e0:fK P w K mg base A outer s H) (ho:s.heap.get? p=some (W.kla_obj "<lambda>" qual params body scope [] pm c ctv)) (hcd:s.heap.CodeRec (.ref c) qual)
  (hb:bindArgs (W.kla_fn "<lambda>" qual params body scope [] pm (.ref c) ctv) ⟨us,[]⟩=pure (ps.zip us)) (hl:vs.length=ps.length) (r:Vals vs us)
  (hbody:PE (yt P w K mg base ps qual scope p (.ref c) A outer s H) body t) (hq:t (vs.map some) H Q) :
  codeAny (model P w) A (.call (.ref p) ⟨us,[]⟩) (λr s'=>∃u,r = .ok (.ret u)/\CE outer P w H s Q u s') s:=by
 have lim:s.heap.NoLimit:=e0.mod.nolimit.keeps λb o e=>(e0.bs b o e).1;have hkind:∀y∈ps.zip us,scope.names.lookup y.1=some .local\/(scope.names.lookup y.1=some .cell/\((cellsFrom (s.heap.objs.size+1) scope.names []).lookup y.1).isSome=true):=λ⟨n,v⟩ hy=>by
  rcases S.par n (rB hy).1 with q|q
  ·exact .inl q
  ·exact .inr ⟨q,W.cellsFrom_some _ _ _ (.inl q)⟩
 refine W.kla_callFunE hr ho rfl S.co S.gen rfl hcd ?_;rw[hb];refine ak (wpAny_newFunctionEnv_cells S.kind hkind λenv he s1 x=>?_);subst he;refine⟨lim.keeps x.toInCall.keep,?_⟩;have I:Inv (yt P w K mg base ps qual scope p (.ref c) A outer s H) [] (start ps vs) H s1:=(JD (CX:=aN) S hd e0 hl r x).wish _;have es:start ps vs=vs.map some:=by
  unfold start;rw[hl,Ft];simp
 rw[es]at I;refine W.kla_codeExpr (fO (hbody [] _ _ H Q I hq) (λv s' ⟨x,H',J,rv,q⟩=>?_) λ_ _ z=>False.elim z);exact⟨v,rfl,x,H',J.os,J.bare,J.base,J.hok,rv,q⟩
end
structure Qm (X:Cx) (qual:Str) (ps:List Str) (params:Arguments) (body:Expr) (scope:Scope) (k:Nat) (tb:TE):Prop where
 sc:aU ps ps scope
 cl:bE X.env.cells scope.names [] = []
 bind:∀(pm cd ctv:Value) (us:List Value),us.length=ps.length->bindArgs (W.kla_fn "<lambda>" qual params body scope [] pm cd ctv) ⟨us,[]⟩=pure (ps.zip us)
 run:∀(base:Heap) (A:Around) (outer:List Env) (s:Shared) (H:Hp) (p c:Addr),bj k A->PE (yt X.prog X.w X.K X.mg base ps qual scope p (.ref c) A outer s H) body tb
noncomputable def aap(f7:Addr->Sp->Sp)(qual:Str)(params:Arguments)(body:Expr)(scope:Scope)(tb:TE)(t:TA):TE:=λσ H Q=>t σ H λvs H1=>∃p,cY H1 p qual params body scope [] /\
 f7 p (λws H' Q' _=>cY H' p qual params body scope []/\tb (ws.map some) H' Q') vs H1 Q E0
section
variable {X:Cx} {x qual:Str} {k k' kl m:Nat} {f7:Addr->Sp->Sp} {ps qs:List Str} {params:Arguments} {body:Expr} {scope:Scope} {tb:TE} {p0 pos:Pos}
theorem Yf {e:Expr} {t1:TE} {cc Pt:Addr} {bV:Pos} (c:mh X.prog X.w X.K X.mg x ps k kl m f7) (T:TabAt X.base X.mg cc Pt) (hcode:X.env.code = .ref cc) (hr:bj k' X.A) (hg:Gl X x) (B:Qm X (X.env.qual ++ "<lambda>") qs params body scope kl tb) (hx:Passes aN X E0) (hm:qs.length=m) (h1:PE X e t1) (hk:k<=k':=by decide)
  (hdb:(x==("__debug__" : Str))=false:=by decide) (hdef:defaultsOf params X.env=([],[]):=by rfl) (he:starEach [e,.Lambda params body scope bV] X.env = [(false,eval e X.env),(false,eval (.Lambda params body scope bV) X.env)]:=by rfl) :
  PE X (.Call (.Name x p0) [e,.Lambda params body scope bV] [] pos) (aap f7 (X.env.qual ++ "<lambda>") params body scope tb (lT t1 (lT (qY Pt bV (X.env.qual ++ "<lambda>") params body scope []) vM))):=by
 have he2:starEach [Expr.Lambda params body scope bV] X.env = [(false,eval (.Lambda params body scope bV) X.env)]:=rfl;have Jd:PE X (.Lambda params body scope bV) (qY Pt bV (X.env.qual ++ "<lambda>") params body scope (bE X.env.cells scope.names [])):=uB T hcode (λok y hy hk=>absurd hk (B.sc.K4 y hy)) hdef;rw[B.cl]at Jd;have ha:PA X [e,.Lambda params body scope bV] (lT t1 (lT (qY Pt bV (X.env.qual ++ "<lambda>") params body scope []) vM)):=ag h1 (ag Jd ah he2) he;obtain⟨f,fd,F,hmg,kp,b⟩:=c.ex;intro pins s σ H Q I h;refine je (qd I hg hmg ?_ hdb);refine W.callWith_K (h₀:=X.base) I.ok.mod.jK kp (aC (ha pos pins s σ H _ I h) λus s1 ⟨vs,H1,I1,r,p,L,q⟩=>⟨I1.bU,?_⟩) (by rw[he,he2]) (by rw[he2];rfl);have LO:oO X.prog X.w X.K X.mg X.base kl p m (λws H' Q' _=>cY H' p (X.env.qual ++ "<lambda>") params body scope []/\tb (ws.map some) H' Q'):=by
  refine⟨λA outer s2 H2 us vs Q' lq e2 r hl ⟨L2,hq⟩=>?_⟩;obtain⟨c,pm,ctv,ho,hcd⟩:=L2.get e2.hok;exact Wa B.sc lq.depth lq.hd e2 ho hcd (B.bind _ _ _ _ (by rw[<- r.length,hl,hm])) (hl.trans hm.symm) r (B.run X.base A outer s2 H2 p c lq) hq
 have FF:=F X.base p _ LO;have hl:us.length=ps.length:=by rw[<- r.length];exact FF.len _ _ _ _ q
 have hb:=b s1 us I1.bU (by rw[j8];exact hl);rw[j8]at hb;refine mN (fM (FF.run X.A X.stack s1 H1 ⟨us,[]⟩ us vs Q E0 (hr.mono hk) I1.env0 hb r q) λr s' hq=>?_);cases r with
 |error e=>exact hx pins σ H1 s1 e s' I1 hq
 |ok fl =>
  cases fl with
  |ret u=>exact I1.after hq
  |next=>exact False.elim hq
  |brk=>exact False.elim hq
  |cont=>exact False.elim hq
end
end L2
namespace My
open PySem PySem.Spec PyProof.Rows L2
theorem zE{wd:Nat}(hw:wd<4):Good (Fl.aJ wd).length (Fl.eD wd):=by
 obtain⟨h1,h2,h3,h4⟩:=Fl.T1 (Fl.T2 wd hw);have G:Good (Fl.d8 wd).length (Fl.mR (Fl.bH wd)):=⟨h1,h2,h3,h4⟩;rw[Fl.k9 wd hw];exact G.congr λa b ha hb=>by
  unfold Fl.eD;rw[Fl.k9 wd hw];exact Fl.OJ wd hw a ha b hb
theorem uy{α β:Type}{R:α->β->Prop}{b:β}:∀{l:List α} {m:List β} {i:Nat},Paired R l m->m[i]?=some b->∃a,l[i]?=some a/\R a b
 |_,_,0,.cons h _,e=>by cases e;exact⟨_,rfl,h⟩
 |_,_,i+1,.cons _ r,e=>by
  obtain⟨b,h1,h2⟩:=uy (i:=i) r (by simpa using e);exact⟨b,by simpa using h1,h2⟩
theorem zm:∀g:List Nat,(g.map nV).all jD=true
 | []=>rfl
 |_::g=>by rw[bA,Er,zm g];rfl
theorem Jv(m:Nat):∀F:List Nat,inV (nV m) (F.map nV)=decide (m∈F)
 | []=>by simp[inV]
 |x::r=>by
  have ih:=Jv m r;unfold inV at ih ⊢;rw[bA,mz,ih];have e:jC (nV x) (nV m)=decide (x=m):=by
   show((x:Int)==(m:Int))=decide (x=m);rw[cE];simp;omega
  rw[e];rw[cE];simp only[gg,cw,aY]
  constructor
  ·rintro(h|h)
   ·exact .inl h.symm
   ·exact .inr h
  ·rintro(h|h)
   ·exact .inl h.symm
   ·exact .inr h
theorem Ju(x:Nat)(g:List Nat):inV (nV x) (g.map nV)=g.contains x:=by
 rw[Jv,cE,cw];simp
theorem all_range(g:List Nat)(p:Nat->Bool):((List.range g.length).map λk=>p (g.getD k 0)).all id=g.all p:=by
 have e:(List.range g.length).map (λk=>p (g.getD k 0))=g.map p:=by
  refine gw (by simp) λi h1 h2=>?_;have hi:i<g.length:=by simpa using h1
  rw[rj,EY,rj,aL,aq hi];rfl
 rw[e,List.all_map];rfl
section
variable {P:Program} {w:World} {K:W.Frag} {mg:Str->Option Value} {base:Heap} {f:Addr} {fd:FuncData}
abbrev qQ:Stmt:=top 36
theorem Oe:aU ["width"] ["width"] (aB qQ):=⟨rfl,rfl,rfl,by decide +kernel,rfl,by decide +kernel,by decide +kernel⟩
abbrev qV:Pos:=⟨151,38,151,91⟩
abbrev qW:Str:=("sums_order" : Str) ++ ".<locals>." ++ "<lambda>"
abbrev aai:Scope:=match fA qQ with
 | [.Return (some (.Call _ [_,.Lambda _ _ sc _] _ _)) _]=>sc
 |_=>aB qQ
noncomputable def De(C Pt Ps:Addr):Sp:=λvs H Q _=>∃wd:Nat,vs = [.int (wd:Int)]/\wd<4/\H Pt=some (.lam nu ny)/\H Ps=some (.lam qV qW)/\∀z H',Same H H'->o6 C H' z (Fl.aJ wd).length (Fl.eD wd)->Q (.ref z) H'
theorem XS {C c Pt Ps:Addr} (F:aR K "sums_order" "sums_order" qQ f fd) (hc:fd.code = .ref c) (tb:TabAt base mg c Ps) (T:Txt mg) (TC:dk K C) (mY:au P w K mg base "fields_of" ["width"] 3 (vn Pt)) (ng:mh P w K mg "order_by" ["things","is_at_most"] 7 1 2 (vE K C)):aM P w K mg base aN 8 f fd ["width"] (De C Pt Ps):=by
 refine F.uq hc Oe (λvs H Q E h=>?_) (λA outer s H vs Q E hr h=>?_)
 ·obtain⟨wd,rfl,_⟩:=h
  rfl
 ·obtain⟨wd,rfl,hw,Uj,hP,kk⟩:=h
  have nd:=Oe.nd;refine⟨_,(az (aX (Yf (qs:=["one","other"]) ng tb rfl hr rfl ⟨⟨rfl,rfl,rfl,by decide +kernel,rfl,by decide +kernel,by decide +kernel⟩,rfl,λ_ _ _ us hl=>match us,hl with | [_,_],_=>rfl,λ_ _ _ _ _ _ _ hrL=>(cL (Rp (K:=K) rfl rfl) rfl T.all boot_all (ag (dc (own:=["row"]) (fr:=[("other", 1)]) rfl (bQ aai ["one","other"] rfl rfl (by decide +kernel)) (kF (K:=K) rfl (pv 0)) (λ_ _ _ _=>⟨(aZ (i:=0) (by decide +kernel:(["row","other"]:List Str).Nodup) rfl (Or.inl rfl)),dw,(oq (Lz (K:=K) rfl) (pv 0) (pv 1) (by with_unfolding_all rfl))⟩)) ah))⟩ qq rfl (aQ mY hr rfl (ag (pv 0) ah))))),?_⟩;refine⟨_,rfl,wd,rfl,hw,Uj,λlb H1 s1 U0 ⟨us,hlb,zU⟩=>?_⟩;refine⟨s1 _ _ hP,λq H2 s2 hq lh=>?_⟩;have dA:=s1.trans s2;have iP:us.length=(Fl.aJ wd).length:=(dh zU).symm;obtain⟨l1,l2⟩:=Fl.zo hw;refine⟨q,lh,lb,us,Fl.eD wd,rfl,ai.of (s2 _ _ hlb),by omega,by omega,⟨_,_,_,_,_,lh⟩,by rw[iP];exact zE hw,λi j x y H' Q' hx hy s' hQ=>⟨lh.same s',?_⟩,λz H' s' pZ=>kk z H' (dA.trans s') (by rw[iP]at pZ;exact pZ)⟩;obtain⟨g1,hg1,t1,rfl,h1⟩:=uy zU hx;obtain⟨g2,hg2,t2,rfl,h2⟩:=uy zU hy;have h1':=s' _ _ (s2 _ _ h1);have h2':=s' _ _ (s2 _ _ h2);obtain⟨a1,a2⟩:=Fl.tI hw (cu hg1);refine⟨_,rfl,t1,rfl,⟨_,ax.of h1'⟩,λD hD=>fu (λk=>.bl (g2.contains (g1.getD k 0))) (oz (ax.of h1')) hD (cQ (by rw[ao];omega)) (λk H3 Kt hk hs hkt=>?_) (λH3 hs hl=>?_)⟩
  ·rw[ao]at hk
   have ek:(g1.map nV).getD k .non=nV (g1.getD k 0):=by rw[aL,Aw hk];rfl
   refine⟨_,rfl,_,rfl,t2,_,rfl,.inr (ax.of (hs _ _ h2')),by rw[ek];rfl,zm _,?_⟩;rw[ek];show Kt (.bl (inV (nV (g1.getD k 0)) (g2.map nV))) H3;rw[Ju];exact hkt _ (Same.refl _)
  ·refine⟨D,(List.range (g1.map nV).length).map λk=>g2.contains (g1.getD k 0),rfl,ai.of (by rw[bZ];exact hl),?_⟩
   have e:(((List.range (g1.map nV).length).map λk=>g2.contains (g1.getD k 0)).all id)=Fl.eD wd i j:=by
    unfold Fl.eD Fl.Dp;rw[aL,hg1,aL,hg2,ao,all_range g1 λx=>g2.contains x];rfl
   rw[e];exact hQ _ hs
end
end My
namespace Fl
noncomputable def nN(w:Nat):Nat:=(bH w).length
noncomputable def jF(w i j:Nat):Nat:=(bH w).findIdx λm=>Nat.beq (Nat.land ((bH w).getD i 0) m) ((bH w).getD i 0)&&Nat.beq (Nat.land ((bH w).getD j 0) m) ((bH w).getD j 0)
noncomputable def nF(w i j:Nat):Nat:=(bH w).findIdx λm=>Nat.beq m (Nat.land ((bH w).getD i 0) ((bH w).getD j 0))
noncomputable def hF(w i:Nat):Nat:=[0,0,1,0,2,0,0,0,3].getD ((d8 w).getD i []).length 0
noncomputable def GX(w:Nat):Bool:=(List.range (nN w)).all λa=>(List.range (nN w)).all λb=>Nat.blt (jF w a b) (nN w)&&Nat.blt (nF w a b) (nN w)&&(List.range (nN w)).all λc =>
 (mR (bH w) (jF w a b) c==(mR (bH w) a c&&mR (bH w) b c))&&(mR (bH w) c (nF w a b)==(mR (bH w) c a&&mR (bH w) c b))&&(!mR (bH w) a c||Nat.beq (jF w a (nF w b c)) (nF w (jF w a b) c))
theorem RN:∀w,w<4->GX w=true:=by decide +kernel
noncomputable def GR(w:Nat):Bool:=(List.range (nN w)).all λi=>(Nat.beq (hF w i) 0&&(List.range (nN w)).all λj=>Nat.beq j i || !mR (bH w) j i) ||
 (List.range i).any λj=>mR (bH w) j i&&Nat.beq (hF w i) (hF w j+1)&&(List.range (nN w)).all λt=>!(mR (bH w) j t&&mR (bH w) t i)||Nat.beq t j||Nat.beq t i
theorem RM:∀w,w<4->GR w=true:=by decide +kernel
noncomputable def sums(f g:List Nat):List Nat:=(List.range 8).filter λr=>f.any λx=>g.any λy=>Nat.beq (Nat.xor x y) r
noncomputable def GZ(w:Nat):Bool:=(List.range (nN w)).all λa=>(List.range (nN w)).all λb=>decide (sums ((d8 w).getD a []) ((d8 w).getD b [])=(d8 w).getD (jF w a b) []) &&
 decide (((d8 w).getD a []).filter (λx=>((d8 w).getD b []).contains x)=(d8 w).getD (nF w a b) [])
theorem RP:∀w,w<4->GZ w=true:=by decide +kernel
theorem Av:∀w,w<4->nN w=(d8 w).length:=by decide +kernel
section
variable {w:Nat} (hw:w<4)
include hw
theorem kA:nN w=(aJ w).length:=by rw[k9 w hw,Av w hw]
theorem ik{i j:Nat}(hi:i<nN w)(hj:j<nN w):eD w i j=mR (bH w) i j:=by
 unfold eD;rw[k9 w hw];exact OJ w hw i (by rw[<- Av w hw];exact hi) j (by rw[<- Av w hw];exact hj)
theorem Ab{a b:Nat}(ha:a<nN w)(hb:b<nN w):jF w a b<nN w/\nF w a b<nN w/\∀c,c<nN w->mR (bH w) (jF w a b) c=(mR (bH w) a c&&mR (bH w) b c)/\mR (bH w) c (nF w a b)=(mR (bH w) c a&&mR (bH w) c b)/\(mR (bH w) a c=true->jF w a (nF w b c)=nF w (jF w a b) c):=by
 have h:=RN w hw;unfold GX at h;rw[cn]at h;have h:=h a (bD.mpr ha);rw[cn]at h;have h:=h b (bD.mpr hb);rw[bw,bw,cn]at h;refine⟨Nat.blt_eq.mp h.1.1,Nat.blt_eq.mp h.1.2,λc hc=>?_⟩;have h:=h.2 c (bD.mpr hc);rw[bw,bw,gg]at h;refine⟨eq_of_beq h.1.1,eq_of_beq h.1.2,λhac=>?_⟩
 rcases h.2 with q|q
 ·rw[hac]at q;cases q
 ·exact mF q
theorem Uo{i:Nat}(hi:i<nN w):(hF w i=0/\∀j,j<nN w->j≠i->mR (bH w) j i=false)\/∃j,j<i/\mR (bH w) j i=true/\hF w i=hF w j+1/\∀t,t<nN w->mR (bH w) j t=true->mR (bH w) t i=true->t=j\/t=i:=by
 have h:=RM w hw;unfold GR at h;rw[cn]at h;have h:=h i (bD.mpr hi);rw[gg]at h
 rcases h with h|h
 ·rw[bw,cn]at h
  refine .inl ⟨mF h.1,λj hj hne=>?_⟩;have q:=h.2 j (bD.mpr hj);rw[gg]at q
  rcases q with q|q
  ·exact absurd (mF q) hne
  ·simpa using q
 ·rw[gR]at h
  obtain⟨j,hj,q⟩:=h;rw[bw,bw,cn]at q;refine .inr ⟨j,bD.mp hj,q.1.1,mF q.1.2,λt ht h1 h2=>?_⟩;have z:=q.2 t (bD.mpr ht);rw[h1,h2,gg,gg]at z
  rcases z with(z|z)|z
  ·cases z
  ·exact .inl (mF z)
  ·exact .inr (mF z)
theorem ZQ{a b:Nat}(ha:a<nN w)(hb:b<nN w):sums ((aJ w).getD a []) ((aJ w).getD b [])=(aJ w).getD (jF w a b) []/\((aJ w).getD a []).filter (λx=>((aJ w).getD b []).contains x)=(aJ w).getD (nF w a b) []:=by
 rw[k9 w hw];have h:=RP w hw;unfold GZ at h;rw[cn]at h;have h:=h a (bD.mpr ha);rw[cn]at h;have h:=h b (bD.mpr hb);rw[bw]at h;exact⟨fX h.1,fX h.2⟩
end
theorem Kz{f g:List Nat}(hf:∀x∈f,x<8)(hg:∀x∈g,x<8){r:Nat}:r∈sums f g ↔ ∃x∈f,∃y∈g,r=x ^^^ y:=by
 unfold sums;rw[dm,gR]
 constructor
 ·rintro⟨_,x,hx,h⟩
  rw[gR]at h;obtain⟨y,hy,h⟩:=h;exact⟨x,hx,y,hy,(mF h).symm⟩
 ·rintro⟨x,hx,y,hy,e⟩
  refine⟨bD.mpr ?_,x,hx,?_⟩
  ·rw[e]
   exact Nat.xor_lt_two_pow (n:=3) (hf x hx) (hg y hy)
  ·rw[gR]
   exact⟨y,hy,by rw[show Nat.xor x y=r from e.symm];exact Nat.beq_refl r⟩
theorem O4(f g:List Nat):(sums f g).Pairwise (· < ·):=Ep _ wM
end Fl
namespace L2
open PySem PySem.Spec PyProof.Rows
noncomputable def jw(ks:List Int):List (Int × Value):=ks.map λk=>(k,Value.bool true)
noncomputable def wk(P:Program)(w:World)(h:Heap)(d:Addr)(ks:List Int):Prop:=(d==sysModules)=false/\ks.length<=1000/\h.DictOf (intKind P w) d (jw ks)
noncomputable def gq(P:Program)(w:World)(d:Addr)(ks:List Int):HO:=.ext λh=>wk P w h d ks
theorem Hi{P:Program}{w:World}{H:Hp}{h:Heap}{d:Addr}{ks:List Int}(g:wk P w h d ks):a8 P w H h d (gq P w d ks):=
 ⟨g,let⟨_,_,o,_,_,e,_⟩:=g;⟨o,e⟩,λh1 h2 g k=>let⟨a,b,o,es,ep,e,r⟩:=g;⟨a,b,o,es,ep,k _ e,r⟩⟩
noncomputable def dz(ks:List Int)(k:Int):List Int:=if k∈ks then ks else ks++[k]
theorem Mq(ks:List Int)(k:Int):(dz ks k).length<=ks.length+1:=by
 unfold dz
 split
 ·omega
 ·simp
theorem aag(ks:List Int)(k:Int):PySem.stored (jw ks) k (.bool true)=jw (dz ks k):=by
 unfold PySem.stored dz jw
 by_cases h:k∈ks
 ·rw[if_pos h,if_pos (by rw[Es,gR];exact⟨k,h,by simp⟩),bZ]
  refine fc λq _=>?_;show(if q=k then(q,Value.bool true)else(q,Value.bool true))=_
  split<;>rfl
 ·have hn:¬ ((ks.map λk=>(k,Value.bool true)).any λkv=>decide (kv.1=k))=true:=by
   rw[Es,gR];rintro⟨q,hq,e⟩;have e:q=k:=by simpa using e
   exact h (e▸hq)
  rw[if_neg h,if_neg hn,d5];rfl
noncomputable def aar(P:Program)(w:World):TE:=λ_ H Q=>∀p,H p=none->Q (.ref p) (upd H p (gq P w p []))
noncomputable def ZL(P:Program)(w:World)(td ty tv:TE):TS:=λD σ H=>tv σ H λv H1=>td σ H1 λx H2=>ty σ H2 λy H3=>v = .bl true/\∃(d:Addr) (ks:List Int) (k:Int),x = .ref d/\y = .int k/\H3 d=some (gq P w d ks)/\ks.length<1000/\D.nx σ (upd H3 d (gq P w d (dz ks k)))
noncomputable def Za(P:Program)(w:World):List V->Hp->VK->Prop:=λvs H Q=>∃d ks,vs = [.ref d]/\H d=some (gq P w d ks)/\∀l,H l=none->Q (.ref l) (upd H l (.lst (ks.map V.int)))
theorem aaV{ks:List Int}:∀{us:List Value},us.length=ks.length->(∀(j:Nat) (v:Value),us[j]?=some v->∃(k:Int) (x:Value),(jw ks)[j]?=some (k,x)/\Value.isInt k v=true)->Vals (ks.map V.int) us:=by
 induction ks with
 |nil=>intro us h _;rw[wI.mp h];exact .nil
 |cons k ks ih =>
  intro us h q;cases us with
  |nil=>cases h
  |cons u us =>
   obtain⟨k',x,e,i⟩:=q 0 u rfl;obtain⟨t,rfl⟩:=xA i;have e:some (k,Value.bool true)=some (k',x):=e;cases e;exact .cons ⟨t,rfl⟩ (ih (Nat.succ.inj h) λj v hv=>q (j+1) v hv)
section
variable {X:Cx} {pins:List (Addr × Obj)} {σ:St} {H:Hp} {s:Shared} {A:Around} {E:Value->Shared->Prop} {d:Addr} {ks:List Int}
theorem Hh(I:Inv X pins σ H s)(e:H d=some (gq X.prog X.w d ks)):wk X.prog X.w s.heap d ks:=(show a8 X.prog X.w H s.heap d (gq X.prog X.w d ks)from I.hok d _ e).1
theorem Yl{pos:Pos}:PE X (.Dict [] [] pos) (aar X.prog X.w):=λpins s σ H Q I h =>
 wpAny_Dict_empty ⟨.ref s.heap.objs.size,_,I.laid (a:=s.heap.objs.size) (o:=gq X.prog X.w s.heap.objs.size []) (t':=s.toks) (λ_ _ q=>aI _ q) (aH _) (Hi ⟨kf.mpr (b_ (a_ I.big)),bM _,Heap.DictOf.new s.heap⟩),rfl,h _ (I.hok.fresh (aH _))⟩
theorem YK{o i value:Expr}{td ty tv:TE}{pos pos':Pos}(ho:PE X o td)(hi:PE X i ty)(hv:PE X value tv)(hs:swapsWith value (some (.Subscript o i pos')) pos.line X.env=pure false):PS X (.Assign [.Subscript o i pos'] value pos) (ZL X.prog X.w td ty tv):=by
 intro pins s σ H D I h;refine FV (aC (hv pins s σ H _ I h) λr s1 ⟨v,H1,I1,rv,q1⟩=>aC (ho pins s1 σ H1 _ I1 q1) λu s2 ⟨x,H2,I2,rx,q2⟩=>aC (hi pins s2 σ H2 _ I2 q2) λiv s3 ⟨y,H3,I3,ry,ev,d,ks,k,ex,ey,h1,h2,q3⟩=>?_) hs;subst ev ex ey;obtain rfl:u=Value.ref d:=rx;obtain rfl:r = .bool true:=rv;obtain⟨t,rfl⟩:∃t,iv = .int k t:=ry;obtain⟨lo,z,dd⟩:=Hh I3 h1;have big:(1000:Nat)<=sizeLine:=by decide +kernel
 refine wpAny_setItem_pairs (knd:=intKind X.prog X.w) (hsz:=by unfold jw;rw[ao];omega) (intKind_is _ _ k t) dd λh' fz hs=>⟨σ,_,?_,q3⟩;rw[aag]at fz;have hl:=Mq ks k;obtain⟨q,hq⟩:∃q,h'.get? d=some q:=let⟨q,_,_,hq,_⟩:=fz;⟨q,hq⟩
 exact pT I3 (by rw[h1];exact True.intro) hs ⟨q,hq⟩ (Hi ⟨lo,by omega,fz⟩)
theorem Rv (hr:bj 0 X.A):cX X (.type "list") (Za X.prog X.w):=by
 intro pins s σ H vs us Q I r h;obtain⟨d,ks,rfl,e,q⟩:=h;obtain⟨u,rfl,ru⟩:=r.one;obtain rfl:u = .ref d:=ru;obtain⟨lo,z,dd⟩:=Hh I e;have big:(1000:Nat)<=sizeLine:=by decide +kernel
 have hl:(jw ks).length=ks.length:=by unfold jw;rw[ao]
 obtain⟨o,es,ep,x⟩:=id dd;refine W.kdl_call (W.kdl_dict (knd:=intKind X.prog X.w) (kvs:=jw ks) (ep:=ep) lo) hr.hd ⟨o,es,x⟩ (by omega) λh' tk acc c' keep hD hacc=>?_;refine⟨.ref s.heap.objs.size,_,I.laid (t':=tk) (o:=.lst (ks.map V.int)) keep (aH _) ⟨by rw[ao];omega,acc.toList,c',aaV (by rw[eY,hacc.1,hl]) (λj v hv=>hacc.2 j v (by rw[<- oF];exact hv)),?_⟩,rfl,q _ I.fresh⟩;rw[hD]
end
end L2
namespace My
open PySem PySem.Spec PyProof.Rows L2
theorem HY(r:Int):∀zs ks:List Int,r∈zs.foldl dz ks ↔ r∈ks\/r∈zs
 | [],ks=>by simp
 |z::zs,ks=>by
  rw[wD,HY r zs (dz ks z),aY];unfold dz
  split
  ·rename_i h
   constructor
   ·rintro(q|q)
    ·exact .inl q
    ·exact .inr (.inr q)
   ·rintro(q|q|q)
    ·exact .inl q
    ·exact .inl (q▸h)
    ·exact .inr q
  ·rw[iz,gT,or_assoc]
theorem H_:∀(zs ks:List Int),ks.Nodup->(zs.foldl dz ks).Nodup
 | [],_,h=>h
 |z::zs,ks,h=>by
  rw[wD];refine H_ zs _ ?_;unfold dz
  split
  ·exact h
  ·rename_i hn
   exact rA.mpr ⟨h,by simp,λx hx y hy e=>by simp at hy;subst hy;subst e;exact hn hx⟩
theorem HX:∀zs ks:List Int,(zs.foldl dz ks).length<=ks.length+zs.length
 | [],ks=>aH _
 |z::zs,ks=>by
  rw[wD];have h:=HX zs (dz ks z);have h2:=Mq ks z;rw[dW];omega
noncomputable def sumZ(f g:List Nat):List Int:=f.flatMap λx=>g.map λy=>((x ^^^ y:Nat):Int)
theorem sumZ_snoc{f g:List Nat}{i:Nat}(hi:i<f.length):sumZ (f.take (i+1)) g=sumZ (f.take i) g++g.map λy=>((f[i] ^^^ y:Nat):Int):=by
 unfold sumZ;rw[iZ,aq hi,List.flatMap_append];simp
theorem aaj(f g:List Nat)(hf:f.length<=8)(hg:g.length<=8):(sumZ f g).length<=64:=by
 have h:∀f:List Nat,(sumZ f g).length=f.length*g.length:=λf=>by
  unfold sumZ
  induction f with
  |nil=>simp
  |cons x f ih=>rw[wB,de,ih,ao,dW,Nat.succ_mul,Nat.add_comm]
 rw[h];exact cp (oZ hf hg) (by decide)
theorem O5{f g:List Nat}(hf:∀x∈f,x<8)(hg:∀x∈g,x<8):((sumZ f g).foldl dz []).Perm (Fl.nI (Fl.sums f g)):=by
 have W7:(Fl.nI (Fl.sums f g)).Nodup:=fh.mpr (List.Pairwise.imp (S:=λa b:Nat=>((a:Nat):Int)≠(b:Int)) (λ{a b} h e=>by omega) (Fl.O4 f g));refine(Qv (H_ _ _ Fd) W7).mpr λr=>?_;rw[HY];unfold sumZ Fl.nI;rw[wK,b9]
 constructor
 ·rintro(h|⟨x,hx,h⟩)
  ·cases h
  ·obtain⟨y,hy,e⟩:=b9.mp h
   exact⟨x ^^^ y,(Fl.Kz hf hg).mpr ⟨x,hx,y,hy,rfl⟩,e⟩
 ·rintro⟨z,hz,e⟩
  obtain⟨x,hx,y,hy,e2⟩:=(Fl.Kz hf hg).mp hz;exact .inr ⟨x,hx,b9.mpr ⟨y,hy,by rw[<- e2];exact e⟩⟩
theorem aak{f g:List Nat}(hf:∀x∈f,x<8)(hg:∀x∈g,x<8){ms:List Int}(hp:ms.Perm ((sumZ f g).foldl dz []))(hs:ms.Pairwise (·<=·)):ms=Fl.nI (Fl.sums f g):=
 Ct (hp.trans (O5 hf hg)) hs (fh.mpr (List.Pairwise.imp (S:=λa b:Nat=>((a:Nat):Int)<=(b:Int)) (λ{a b} h=>by omega) (Fl.O4 f g)))
section
variable {wd:Nat} (hw:wd<4)
include hw
theorem zk{a b:Nat}(ha:a<(Fl.aJ wd).length)(hb:b<(Fl.aJ wd).length):cz (Fl.aJ wd).length (Fl.eD wd) a b (Fl.jF wd a b):=by
 rw[<- Fl.kA hw]at ha hb ⊢;obtain⟨h1,h2,h3⟩:=Fl.Ab hw ha hb;refine⟨h1,λx hx=>?_⟩;rw[Fl.ik hw h1 hx,Fl.ik hw ha hx,Fl.ik hw hb hx];exact(h3 x hx).1
theorem zl{a b:Nat}(ha:a<(Fl.aJ wd).length)(hb:b<(Fl.aJ wd).length):cA (Fl.aJ wd).length (Fl.eD wd) a b (Fl.nF wd a b):=by
 rw[<- Fl.kA hw]at ha hb ⊢;obtain⟨h1,h2,h3⟩:=Fl.Ab hw ha hb;refine⟨h2,λx hx=>?_⟩;rw[Fl.ik hw hx h2,Fl.ik hw hx ha,Fl.ik hw hx hb];exact(h3 x hx).2.1
theorem Ti{a b c:Nat}(ha:a<(Fl.aJ wd).length)(hb:b<(Fl.aJ wd).length)(hc:c<(Fl.aJ wd).length):¬ Un (Fl.aJ wd).length (Fl.eD wd) a b c:=by
 rintro⟨hac,m,x,j,y,hm,hx,hj,hy,ne⟩;have G:=zE hw;have e1:=hm.uniq G (zl hw hb hc);subst e1;have e2:=hx.uniq G (zk hw ha hm.1);have e3:=hj.uniq G (zk hw ha hb);subst e3;have e4:=hy.uniq G (zl hw hj.1 hc);refine ne (e2.trans (Eq.trans ?_ e4.symm));rw[<- Fl.kA hw]at ha hb hc;rw[Fl.ik hw ha hc]at hac;exact((Fl.Ab hw ha hb).2.2 c hc).2.2 hac
theorem Tj{J N:Nat->Nat->Nat}(M:Md (Fl.aJ wd).length (Fl.eD wd) J N):∀i,i<(Fl.aJ wd).length->rk M.G i=Fl.hF wd i:=by
 intro i
 induction i using Nat.strongRecOn with
 |ind i ih =>
  intro hi;have hi':i<Fl.nN wd:=by rw[Fl.kA hw];exact hi
  rcases Fl.Uo hw hi' with⟨e,h⟩|⟨j,hj,h1,e,h⟩
  ·rw[e]
   refine uI M.G λy hy _ hs=>?_;obtain⟨q1,q2,_⟩:=lS.mp hs;have hy':y<Fl.nN wd:=by rw[Fl.kA hw];exact hy
   rw[Fl.ik hw hy' hi',h y hy' q1]at q2;cases q2
  ·have hjl:j<(Fl.aJ wd).length:=by omega
   have hj':j<Fl.nN wd:=by omega
   have hs:bF (Fl.aJ wd).length (Fl.eD wd) j i=true:=lS.mpr ⟨by omega,by rw[Fl.ik hw hj' hi'];exact h1,λt ht q1 q2=>by
    have ht':t<Fl.nN wd:=by rw[Fl.kA hw];exact ht
    rw[Fl.ik hw hj' ht']at q1;rw[Fl.ik hw ht' hi']at q2;exact h t ht' q1 q2⟩
   rw[M.By _ j i (aH _) hjl hi hs,ih j hj hjl,e]
end
theorem zv{l:List (List Nat)}{i:Nat}(h:i<l.length):l.getD i []∈l:=by
 rw[aL,aq h];exact gB h
theorem Ux:∀{m:Nat},m<=8->([.int 0,.int 0,.int 1,.int 0,.int 2,.int 0,.int 0,.int 0,.int 3]:List V)[m]?=some (nV (([0,0,1,0,2,0,0,0,3]:List Nat).getD m 0))
 |0,_|1,_|2,_|3,_|4,_|5,_|6,_|7,_|8,_=>rfl
 |m+9,h=>absurd h (by omega)
theorem Py{K:W.Frag}{H:Hp}(g:List Nat):wx K H 0 (g.map nV) (g.map nV) λ_=>true:=by
 refine⟨rfl,λj x y hx hy=>?_⟩;rw[hx]at hy;cases hy;rw[bC]at hx;obtain⟨z,hz,rfl⟩:=mG.mp hx;have:=cF.int (K:=K) (H:=H) 0 (z:Int) (z:Int);rw[r0]at this;exact this
theorem mj.keep{H H':Hp}{l:Addr}{wd:Nat}(h:mj H l wd)(s:Same H H'):mj H' l wd:=let⟨us,e,p⟩:=h;⟨us,s _ _ e,Paired.di p λ_ _ ⟨t,e,h⟩=>⟨t,e,s _ _ h⟩⟩
theorem mj.get{H:Hp}{l:Addr}{wd:Nat}(h:mj H l wd){i:Nat}(hi:i<(Fl.aJ wd).length):∃us t,H l=some (.lst us)/\us.length=(Fl.aJ wd).length/\us[i]?=some (.ref t)/\H t=some (.tup (((Fl.aJ wd).getD i []).map nV)):=by
 obtain⟨us,e,p⟩:=h;have hl:=(dh p).symm;have hi2:i<us.length:=by omega
 obtain⟨g,hg,t,e1,e2⟩:=uy p (aq hi2);refine⟨us,t,e,hl,by rw[aq hi2,e1],?_⟩;rw[e2,aL,hg];rfl
section
variable {P:Program} {w:World} {K:W.Frag} {mg:Str->Option Value} {base:Heap} {f:Addr} {fd:FuncData}
abbrev lP:Stmt:=top 62
theorem NR:aU ["_law_width","_law_draws_here","_law_some","_law_order","_law_j","_law_k","_law_sums","_law_one","_law_other"] ["_law_width","_law_draws_here"] (aB lP):=⟨rfl,rfl,rfl,by decide +kernel,rfl,by decide +kernel,by decide +kernel⟩
noncomputable def CG(K:W.Frag)(Pt Pu Pv:Addr):Sp:=λvs H Q _=>∃(wd d:Nat) (x0 x1:Int),vs = [.int (wd:Int),.ref d]/\wd<4/\ai K H d [.int x0,.int x1]/\H Pt=some (.lam iM iN)/\H Pu=some (.lam nu ny)/\H Pv=some (.lam qV qW)/\∀H',Same H H'->Q (.bl true) H'
theorem Xp {C Pt Pu Pv:Addr} (F:aR K "_law_fields_well" "_law_fields_well" lP f fd) (T:Txt mg) (TC:dk K C) (mY:au P w K mg base "fields_of" ["width"] 3 (vn Pu)) (yq:au P w K mg base "sums_order" ["width"] 8 (De C Pu Pv)) (mX:au P w K mg base "evenness" ["order"] 6 (vk C Pt))
  (m5:jY P w K mg base C "join" ["self","a","b"] 4 (vx C)) (m8:jY P w K mg base C "meet" ["self","a","b"] 4 (vy C)) :
  aM P w K mg base aN 9 f fd ["_law_width","_law_draws_here"] (CG K Pt Pu Pv):=by
 refine F.ok NR (λvs H Q E h=>?_) (λcdv A outer s H vs Q E hr h=>?_)
 ·obtain⟨n,d,x0,x1,rfl,_⟩:=h
  rfl
 ·obtain⟨wd,d,x0,x1,rfl,hw,hd,hP,Iv,hPv,kk⟩:=h
  have nd:=NR.nd;have hr0:=hr.mono (bM _);have hu0:=hr.units;have hu1:(A.deeper (envOfC "_law_fields_well" (aB lP) s.heap.objs.size f cdv)).units+1+0<cLine:=by omega
  have hu2:(A.deeper (envOfC "_law_fields_well" (aB lP) s.heap.objs.size f cdv)).units+1+1<cLine:=by omega
  have G:=zE hw;obtain⟨l0,t7⟩:=Fl.zo hw;refine⟨_,(@ay _ _ _ _ _ (aV (i:=2) nd rfl (Or.inr rfl) (aQ mY hr rfl (ag (pv 0) ah)))
   (@ay _ _ _ _ _ (aV (i:=3) nd rfl (Or.inl rfl) (aQ yq hr rfl (ag (pv 0) ah)))
   (@ay _ _ _ _ _ (cM (bW (Bh (K:=K) false 1 rfl hu2) (aQ mX hr rfl (ag (pv 3) ah)) (ie (ag d0 (ag (dc (own:=["_law_rows"]) (fr:=[]) rfl (bQ (aB lP) ["_law_width","_law_draws_here","_law_some","_law_order","_law_j","_law_k","_law_sums","_law_one","_law_other"] rfl rfl (by decide +kernel)) (eB (K:=K) rfl (pv 2)) (λ_ _ _ _=>⟨(aZ (i:=0) (by decide +kernel:(["_law_rows"]:List Str).Nodup) rfl (Or.inl rfl)),dw,(aF (bB (K:=K) rfl) (ic (Bj [0,0,1,0,2,0,0,0,3] rfl)) (cL (d7 (K:=K) rfl) rfl T.len eL (ag (pv 0) ah)) (λ_ _=>rfl))⟩)) ah))) (bL _)) (az (aX d0)) cU)
   (@ay _ _ _ _ _ (aV (i:=4) nd rfl (Or.inl rfl) (aO dv (aF (bB (K:=K) rfl) (pv 1) aD (λ_ _=>rfl)) (cL (d7 (K:=K) rfl) rfl T.len eL (ag (pv 2) ah))))
   (@ay _ _ _ _ _ (aV (i:=5) nd rfl (Or.inr rfl) (aO dv (aF (bB (K:=K) rfl) (pv 1) aD (λ_ _=>rfl)) (cL (d7 (K:=K) rfl) rfl T.len eL (ag (pv 2) ah))))
   (@ay _ _ _ _ _ (aV (i:=6) nd rfl (Or.inl rfl) Yl)
   (@ay _ _ _ _ _ (cD bT rfl (kF (K:=K) rfl (aF (bB (K:=K) rfl) (pv 2) (pv 4) (λ_ _=>rfl))) (aZ (i:=7) nd rfl (Or.inl rfl))
   (az (cD bT rfl (kF (K:=K) rfl (aF (bB (K:=K) rfl) (pv 2) (pv 5) (λ_ _=>rfl))) (aZ (i:=8) nd rfl (Or.inl rfl))
   (az (YK (pv 6) (aO LQ (pv 7) (pv 8)) d0 rfl)))))
   (@ay _ _ _ _ _ (cM (bW (Bh (K:=K) false 0 rfl hu1) (aF (bB (K:=K) rfl) (pv 2) (uC m5 TC.cl hr (pv 3) (ag (pv 4) (ag (pv 5) ah))) (λ_ _=>rfl)) (eA (iJ (K:=K) rfl) rfl T.tuple iI (ag (cL (GP (K:=K) rfl hr0) rfl T.sorted xZ (ag (eA (Rv hr0) rfl T.list r6 (ag (pv 6) ah)) ah)) ah)) (bL _)) (az (aX d0)) cU)
   (az (aX (oq (X3 (K:=K) false 0 rfl hu1) (aF (bB (K:=K) rfl) (pv 2) (uC m8 TC.cl hr (pv 3) (ag (pv 4) (ag (pv 5) ah))) (λ_ _=>rfl)) (eA (iJ (K:=K) rfl) rfl T.tuple iI (ag (dc (own:=["_law_row"]) (fr:=[("_law_some", 2),("_law_k", 5)]) rfl (bQ (aB lP) ["_law_width","_law_draws_here","_law_some","_law_order","_law_j","_law_k","_law_sums","_law_one","_law_other"] rfl rfl (by decide +kernel)) (kF (K:=K) rfl (aF (bB (K:=K) rfl) (pv 2) (pv 4) (λ_ _=>rfl))) (λ_ _ _ _=>⟨(aZ (i:=0) (by decide +kernel:(["_law_row","_law_some","_law_k"]:List Str).Nodup) rfl (Or.inl rfl)),(lK (bW (Lz (K:=K) rfl) (pv 0) (aF (bB (K:=K) rfl) (pv 1) (pv 2) (λ_ _=>rfl)) (by with_unfolding_all rfl))),(pv 0)⟩)) ah)) (bL _)))))))))))),?_⟩
  refine⟨_,rfl,wd,rfl,hw,Iv,λL H1 s1 hL0 hL=>?_⟩;dsimp only[bq];show cV _ _ _ [some (.int (wd:Int)),some (.ref d),some (.ref L),none,none,none,none,none,none] _;refine⟨_,rfl,wd,rfl,hw,s1 _ _ Iv,s1 _ _ hPv,λz H2 s2 hOf=>?_⟩;have hO:=hOf.at G;have dA:=s1.trans s2;dsimp only[bq];show cV _ _ _ [some (.int (wd:Int)),some (.ref d),some (.ref L),some (.ref z),none,none,none,none,none] _;refine⟨_,rfl,z,_,Fl.eD wd,rfl,hO,G,by omega,dA _ _ hP,λJ N M t D H3 s3 T8 hno ht hD=>?_,λt u fs a b c H3 _ hf _ _ _=>absurd hf.is (Ti hw hf.la hf.lb hf.lc)⟩;dsimp only;have gN:=s2.trans s3;have lN:=s1.trans gN;have iL:=hL.keep gN;obtain⟨us,hus,hup⟩:=id iL;have iP:us.length=(Fl.aJ wd).length:=(dh hup).symm;refine⟨_,rfl,L,rfl,⟨_,ai.of hus⟩,λD2 hD2=>fu (λi=>nV (rk M.G i)) (src_list (ai.of hus)) hD2 (cQ (by omega)) (λi H4 Kt hi hs kt=>?_) (λH4 s4 jH=>?_)⟩
  ·have hi':i<(Fl.aJ wd).length:=by omega
   obtain⟨us',t',e1,_,e3,e4⟩:=iL.get hi';rw[hus]at e1;cases e1;have eg:us.getD i .non = .ref t':=by rw[aL,e3];rfl
   rw[eg];have hsm:=(Fl.tI hw (zv hi')).1;refine⟨by show 9<=sizeLine;decide,λq hq=>⟨_,rfl,t',_,rfl,.inr (ax.of ((hs.trans (Same.put hq)) _ _ e4)),q,_,_,nV (rk M.G i),rfl,rfl,ai.of aA,?_,kt _ (Same.put hq)⟩⟩;rw[ao,Tj hw M i hi'];unfold Fl.hF;rw[<- Fl.k9 wd hw];exact aS (Ux hsm)
  rw[iP]at jH;refine⟨by show 2<=sizeLine;decide,λt2 lu=>?_⟩;have s5:=Same.put lu (o:=.tup [.bl true,.ref D2]);have ig:=s4.trans s5;have zs:∀{X:Hp} {a:Addr},X a=some (.lst ((List.range (Fl.aJ wd).length).map λx=>nV (rk M.G x)))->X a=some (.lst (((List.range (Fl.aJ wd).length).map (rk M.G)).map nV)):=λh=>by rw[h,bZ];rfl
  refine⟨t,t2,_,_,λ_=>true,rfl,rfl,ax.of (ig _ _ ht),ax.of aA,HD (zs (ig _ _ hD)) (zs (s5 _ _ jH)),?_⟩;rw[cn.mpr λ_ _=>rfl];refine⟨_,rfl,cI ?_⟩;have jS:=lN.trans ig;have fT:=iL.keep ig;have kr:=hO.cN (s3.trans ig);generalize upd H4 t2 (.tup [.bl true,.ref D2])=H5 at jS fT kr ⊢;obtain⟨us5,Jn,Vi⟩:=id fT;have tU:us5.length=(Fl.aJ wd).length:=(dh Vi).symm;obtain⟨j,hj,ej⟩:=sE x0 (Fl.aJ wd).length (by omega);obtain⟨k,hk,ek⟩:=sE x1 (Fl.aJ wd).length (by omega);dsimp only[Ds];refine jT (λσ' H'=>σ' = [some (.int (wd:Int)),some (.ref d),some (.ref L),some (.ref z),some (.int (j:Int)),none,none,none,none]/\H'=H5) (λD' _ hnx=>?_) ?_
  ·refine⟨_,rfl,d,_,0,_,rfl,rfl,jS.seq hd,aS (j:=0) rfl,_,rfl,L,_,rfl,.inl (ai.of Jn),_,_,rfl,rfl,(by rw[tU];omega),?_⟩
   rw[tU];dsimp only;rw[ej];exact hnx _ _ ⟨rfl,rfl⟩
  intro σ1 Hx ⟨e1,e2⟩;rw[e1,e2];refine jT (λσ' H'=>σ' = [some (.int (wd:Int)),some (.ref d),some (.ref L),some (.ref z),some (.int (j:Int)),some (.int (k:Int)),none,none,none]/\H'=H5) (λD' _ hnx=>?_) ?_
  ·refine⟨_,rfl,d,_,1,_,rfl,rfl,jS.seq hd,aS (j:=1) rfl,_,rfl,L,_,rfl,.inl (ai.of Jn),_,_,rfl,rfl,(by rw[tU];omega),?_⟩
   rw[tU];dsimp only;rw[ek];exact hnx _ _ ⟨rfl,rfl⟩
  intro σ2 Hy ⟨e3,e4⟩;rw[e3,e4];refine jT (λσ' H'=>∃dd,σ' = [some (.int (wd:Int)),some (.ref d),some (.ref L),some (.ref z),some (.int (j:Int)),some (.int (k:Int)),some (.ref dd),none,none]/\H5 dd=none/\Same H5 H'/\H' dd=some (gq P w dd [])) (λD' _ hnx=>λdd hdd=>hnx _ _ ⟨dd,rfl,hdd,Same.put hdd,aA⟩) ?_;rintro σ3 H6 ⟨dd,rfl,hdd,s6,Uu⟩;obtain⟨usj,tj,j1,j2,j3,j4⟩:=fT.get hj;obtain⟨usk,tk,k1,k2,k3,k4⟩:=fT.get hk;generalize hA:(Fl.aJ wd).getD j []=A1 at j4;generalize hB:(Fl.aJ wd).getD k []=B1 at k4;obtain⟨A8,Ax⟩:=Fl.tI hw (zv hj);obtain⟨B8,Bx⟩:=Fl.tI hw (zv hk);rw[hA]at A8 Ax;rw[hB]at B8 Bx;refine jT (λσ' H'=>∃v7 v8,σ' = [some (.int (wd:Int)),some (.ref d),some (.ref L),some (.ref z),some (.int (j:Int)),some (.int (k:Int)),some (.ref dd),v7,v8]/\Same H5 H'/\H' dd=some (gq P w dd ((sumZ A1 B1).foldl dz []))) (λD' _ hnx=>?_) ?_
  ·refine⟨_,rfl,_,rfl,L,_,_,_,rfl,rfl,ai.of (s6 _ _ j1),aS j3,tj,rfl,⟨_,ax.of (s6 _ _ j4)⟩,Ib (K:=K) (a:=tj) (xs:=A1.map nV) (λi σ H'=>∃v7 v8,σ = [some (.int (wd:Int)),some (.ref d),some (.ref L),some (.ref z),some (.int (j:Int)),some (.int (k:Int)),some (.ref dd),v7,v8]/\Same H5 H'/\H' dd=some (gq P w dd ((sumZ (A1.take i) B1).foldl dz [])))
    ⟨none,none,rfl,s6,Uu⟩ (λi σ H' _ ⟨_,_,_,s',_⟩=>ax.of (s' _ _ j4)) ?_ ?_⟩
   ·rintro i x σ H8 hx ⟨v7,v8,rfl,s8,tQ⟩
    have hi:i<A1.length:=by have:=(bp.mp hx).1;rwa [ao]at this
    rw[bC,aq hi]at hx;obtain rfl:nV A1[i]=x:=df hx;have Uq:=Ax _ (gB hi);dsimp only[bq];refine⟨_,rfl,_,rfl,L,_,_,_,rfl,rfl,ai.of (s8 _ _ k1),aS k3,tk,rfl,⟨_,ax.of (s8 _ _ k4)⟩,Ib (K:=K) (a:=tk) (xs:=B1.map nV) (λm σ H'=>∃v8,σ = [some (.int (wd:Int)),some (.ref d),some (.ref L),some (.ref z),some (.int (j:Int)),some (.int (k:Int)),some (.ref dd),some (nV A1[i]),v8]/\Same H5 H'/\H' dd=some (gq P w dd ((sumZ (A1.take i) B1++(B1.take m).map λy=>((A1[i] ^^^ y:Nat):Int)).foldl dz [])))
     ⟨v8,rfl,s8,by rw[List.take_zero,List.map_nil,j8];exact tQ⟩ (λm σ H' _ ⟨_,_,s',_⟩=>ax.of (s' _ _ k4)) ?_ ?_⟩
    ·rintro m y σ H9 hy ⟨v8,rfl,s9,zP⟩
     have hm:m<B1.length:=by have:=(bp.mp hy).1;rwa [ao]at this
     rw[bC,aq hm]at hy;obtain rfl:nV B1[m]=y:=df hy;have hb8:=Bx _ (gB hm);dsimp only[bq];have hlen:((sumZ (A1.take i) B1++(B1.take m).map λy=>((A1[i] ^^^ y:Nat):Int)).foldl dz []).length<1000:=by
      have h1:=HX (sumZ (A1.take i) B1++(B1.take m).map λy=>((A1[i] ^^^ y:Nat):Int)) [];have h2:=aaj (A1.take i) B1 (by rw[iY];omega) B8;rw[de,ao,iY,rn]at h1;omega
     refine⟨_,rfl,_,rfl,_,rfl,_,_,rfl,rfl,rfl,dd,_,((A1[i] ^^^ B1[m]:Nat):Int),rfl,by dsimp only;rw[P8 Uq hb8],zP,hlen,some (nV B1[m]),rfl,vd hdd s9,?_⟩;rw[aA,iZ,aq hm,d5,<- List.append_assoc,wC (l':=List.map _ (Option.toList _))];rfl
    ·rintro σ H9 ⟨v8,rfl,s9,zP⟩
     refine⟨_,_,rfl,s9,?_⟩;rw[zP,sumZ_snoc hi,ao,kT]
   ·rintro σ H8 ⟨v7,v8,rfl,s8,tQ⟩
    rw[ao,kT]at tQ;exact hnx _ _ ⟨v7,v8,rfl,s8,tQ⟩
  rintro σ4 H7 ⟨v7,v8,rfl,s7,Uv⟩;have nE:=kr.cN s7;obtain⟨dx,vp,vr,vj,vm,o1,_⟩:=id nE;have nJ:(aJ (Fl.aJ wd).length vp vr vj vm).lookup ("join" : Str)=none:=tH _ _ _ _ _ (by decide +kernel) (by decide +kernel) (by decide +kernel) (by decide +kernel) (by decide +kernel);have hJ:=zk hw hj hk;have hM:=zl hw hj hk;obtain⟨esum,Hw⟩:=Fl.ZQ hw (show j<Fl.nN wd by rw[Fl.kA hw];exact hj) (show k<Fl.nN wd by rw[Fl.kA hw];exact hk);rw[hA,hB]at esum Hw;obtain⟨usJ,tJ,J1,J2,J3,J4⟩:=fT.get hJ.1;obtain⟨usM,tM,M1,M2,M3,M4⟩:=fT.get hM.1;rw[<- esum]at J4;rw[<- Hw]at M4;refine⟨_,rfl,_,rfl,z,dx,_,rfl,o1,nJ,_,rfl,_,rfl,z,_,j,k,_,Fl.eD wd,rfl,nE,G,hj,hk,hJ,λH8 s8=>?_⟩;have M9:=s7.trans s8;have hsl:(Fl.sums A1 B1).length<=8:=by unfold Fl.sums;exact cp (iw _ _) (by rw[d4];exact aH _)
  have hpm:=O5 Ax Bx;have hkl:((sumZ A1 B1).foldl dz []).length<=8:=by rw[hpm.length_eq,Fl.Au];exact hsl
  refine⟨L,_,_,_,rfl,rfl,ai.of (M9 _ _ J1),aS J3,_,rfl,dd,_,rfl,s8 _ _ Uv,λl1 hl1=>?_⟩;have t1:=Same.put hl1 (o:=.lst (((sumZ A1 B1).foldl dz []).map V.int));refine⟨l1,_,rfl,ai.of aA,by omega,λp ms hp hml hms=>?_⟩;obtain⟨hmp,hmo⟩:=hms (by omega);have yC:=aak Ax Bx hmp hmo;have t2:=Same.put hp (o:=.lst (ms.map V.int));refine⟨p,_,rfl,.inl ⟨ai.of aA,λq hq=>?_⟩⟩;have t3:=Same.put hq (o:=.tup (ms.map V.int));have uN:=M9.trans (t1.trans (t2.trans t3));have eq1:ms.map V.int=(Fl.sums A1 B1).map nV:=by rw[yC,ug]
  refine⟨tJ,q,(Fl.sums A1 B1).map nV,(Fl.sums A1 B1).map nV,λ_=>true,rfl,rfl,ax.of (uN _ _ J4),ax.of (by rw[aA,eq1]),Py _,?_⟩;rw[cn.mpr λ_ _=>rfl];refine⟨_,rfl,cI ?_⟩;generalize upd (upd (upd H8 l1 _) p _) q _=Qj at uN ⊢;have Io:=kr.cN uN;obtain⟨yz,DW,vr',DS,DT,o1',_⟩:=id Io;have nM:(aJ (Fl.aJ wd).length DW vr' DS DT).lookup ("meet" : Str)=none:=tH _ _ _ _ _ (by decide +kernel) (by decide +kernel) (by decide +kernel) (by decide +kernel) (by decide +kernel);refine⟨_,rfl,_,rfl,z,yz,_,rfl,o1',nM,_,rfl,_,rfl,z,_,j,k,_,Fl.eD wd,rfl,Io,G,hj,hk,hM,λH12 s12=>?_⟩;have ox:=uN.trans s12;refine⟨L,_,_,_,rfl,rfl,ai.of (ox _ _ M1),aS M3,_,rfl,_,rfl,L,_,_,_,rfl,rfl,ai.of (ox _ _ j1),aS j3,tj,rfl,⟨_,ax.of (ox _ _ j4)⟩,λD3 T9=>ni (λm=>B1.contains (A1.getD m 0)) (λm=>nV (A1.getD m 0)) (oz (ax.of (ox _ _ j4))) T9 (cQ (by rw[ao];omega)) (λm Qk Kt Kf hm hs hkt hkf=>?_) (λQk ZJ Jb=>?_)⟩
  ·rw[ao]at hm
   have em:(A1.map nV).getD m .non=nV (A1.getD m 0):=by rw[aL,Aw hm];rfl
   rw[em];have M7:=ox.trans hs;refine⟨_,rfl,_,rfl,_,rfl,L,_,_,_,rfl,rfl,ai.of (M7 _ _ k1),aS k3,tk,_,rfl,.inr (ax.of (M7 _ _ k4)),rfl,zm _,_,rfl,?_⟩;rw[Ju];exact bO (λh=>⟨_,rfl,hkt _ h (Same.refl _)⟩) (λh=>hkf _ (by simpa using h) (Same.refl _))
  ·rw[ao,MP A1 (λx=>B1.contains x) nV]at Jb
   refine⟨D3,_,rfl,.inl ⟨ai.of Jb,λq2 hq2=>?_⟩⟩;have t4:=Same.put hq2 (o:=.tup ((A1.filter λx=>B1.contains x).map nV));have M8:=ox.trans (ZJ.trans t4);refine⟨tM,q2,_,_,λ_=>true,rfl,rfl,ax.of (M8 _ _ M4),ax.of aA,Py _,?_⟩;rw[cn.mpr λ_ _=>rfl];exact kk _ (jS.trans M8)
end
end My
namespace L2
open PySem PySem.Spec PyProof.Rows
abbrev Tab:=Addr × Addr × Pos × Str
noncomputable def eW(tabs:List Tab)(b:Addr):Option HO:=(tabs.find? λt=>decide (t.2.1=b)).map λt=>.lam t.2.2.1 t.2.2.2
noncomputable def pz(tabs:List Tab)(H:Hp):Prop:=∀b o,eW tabs b=some o->H b=some o
theorem Pw{tabs:List Tab}{b:Addr}{o:HO}(h:eW tabs b=some o):∃t∈tabs,t.2.1=b/\o = .lam t.2.2.1 t.2.2.2:=by
 unfold eW at h;cases e:tabs.find? λt=>decide (t.2.1=b)with
 |none=>rw[e]at h;cases h
 |some t =>
  rw[e]at h;cases h;exact⟨t,List.mem_of_find?_eq_some e,fX (List.find?_some (p:=λt:Tab=>decide (t.2.1=b)) e),rfl⟩
theorem Wd{P:Program}{w:World}{K:W.Frag}{mg mb:Str->Option Value}{CX:gj}{k:Nat}{fa a:Addr}{fd:FuncData}{x:Str}{sp:Sp}{s₁:Shared}{vs:List Value}{ns:List Int}{tabs:List Tab}
  (KX:K.In s₁.heap) (hns:s₁.heap.Ns mainGlobals mg) (hb:s₁.heap.Ns builtinsNs mb) (hbb:∀x:Str,x ≠ "__name__" -> mb x=bootBuiltins x) (hlim:s₁.heap.NoLimit) (hg:s₁.gens = #[])
  (hbm:∃bm ob,mg "__builtins__" = some (.ref bm)/\bm≠builtinsNs/\s₁.heap.get? bm=some ob/\ob.cls = .type "module" /\ ob.dict=some builtinsNs/\ob.data = .plain)
  (hT:∀t∈tabs,W.CodeHd s₁.heap t.1 t.2.1/\s₁.heap.get? t.2.1=some (W.tabObj #[])) (Uc:W.noTabs K=true)
  (ha:s₁.heap.get? a=some {cls:=.type "list", data:=.seq vs.toArray}) (hi:IntsAre vs ns) (hl:ns.length<=sizeLine) (hr:bj k callerA)
  (F:∀base:Heap,K.In base->base.Ns mainGlobals mg->(∀t∈tabs,TabAt base mg t.1 t.2.1)->aM P w K mg base CX k fa fd [x] sp) (hbind:∀(s:Shared) (u:Value),BindsTo s fd ⟨[u],[]⟩ [(x,u)])
  (hsp:∀H:Hp,ai K H a (ns.map V.int)->pz tabs H->sp [.ref a] H (λv H'=>v = .bl true/\pz tabs H') λ_ _ _=>False)
  (zG:∀H e s',CX [] H s₁ (λ_ _ _=>False) e s'->False) :
  codeAny (model P w) callerA (.call (.ref fa) ⟨[.ref a],[]⟩) (λr s'=>r = .ok (.ret (.bool true))/\OldK s₁.heap s'.heap/\s'.os=s₁.os/\AllBare s'.gens) s₁:=by
 have rv:=vU hi;have lenV:=hi.length;have oB:∀{b:Addr} {o:HO},eW tabs b=some o->∃t∈tabs,t.2.1=b/\o = .lam t.2.2.1 t.2.2.2/\s₁.heap.get? b=some (W.tabObj #[]):=λ{b o} e=>by
  obtain⟨t,h1,h2,h3⟩:=Pw e;exact⟨t,h1,h2,h3,by rw[<- h2];exact(hT t h1).2⟩
 have aT:eW tabs a=none:=by
  cases e:eW tabs a with
  |none=>rfl
  |some o =>
   obtain⟨_,_,_,_,q⟩:=oB e;rw[ha]at q;cases q
 have KT:∀b o,eW tabs b=some o->K.lookup b=none:=λb o e=>by
  obtain⟨_,_,_,_,q⟩:=oB e;cases hk:K.lookup b with
  |none=>rfl
  |some ob =>
   have e2:=KX b ob hk;rw[q]at e2;cases e2;have h2:=cn.mp Uc (b,_) (W.mem_of_lookupK hk);exact absurd (show false=true from h2) Bool.false_ne_true
 have core:∀H:Hp,(∀b o,H b=some o->eW tabs b=some o\/(b=a/\∃o' xs,o = .cT o' (.lst xs)))->pz tabs H->ai K H a (ns.map V.int)->bJ P w H s₁.heap->(H a≠none->K.lookup a=none) ->
   codeAny (model P w) callerA (.call (.ref fa) ⟨[.ref a],[]⟩) (λr s'=>r = .ok (.ret (.bool true))/\OldK s₁.heap s'.heap/\s'.os=s₁.os/\AllBare s'.gens) s₁:=by
  intro H hO ku hS hok hK;have free:∀{b:Addr} {o:Obj},s₁.heap.get? b=some o->o.cls≠.none->o.cls≠.type "list" -> H b=none:=λ{b o} e c1 c2=>by
   cases q:H b with
   |none=>rfl
   |some u =>
    rcases hO b u q with z|⟨z,_⟩
    ·obtain⟨_,_,_,_,z2⟩:=oB z
     rw[e]at z2;cases z2;exact absurd rfl c1
    ·rw[z,ha]at e;cases e
     exact absurd rfl c2
  have rZ:∀{b:Addr} {o:Obj},s₁.heap.get? b=some o->H b=none->(fF s₁.heap H).get? b=some o:=λe n=>zQ e n;have jM:∀{b:Addr} {o:Obj} {es:Array DictEntry} {ep:Nat},s₁.heap.get? b=some o->o.data = .dict es ep->H b=none:=λ{b o es ep} e d=>by
   cases q:H b with
   |none=>rfl
   |some u =>
    rcases hO b u q with z|⟨z,_⟩
    ·obtain⟨_,_,_,_,z2⟩:=oB z
     rw[e]at z2;cases z2;cases d
    ·rw[z,ha]at e;cases e
     cases d
  have um:∀{b:Addr} {m:Str->Option Value},s₁.heap.Ns b m->(fF s₁.heap H).Ns b m:=λ{b m} ⟨o,es,ep,e,d,r⟩=>⟨o,es,ep,rZ e (jM e d),d,r⟩;have Ii:K.In (fF s₁.heap H):=λb o e=>rZ (KX b o e) (by
   cases q:H b with
   |none=>rfl
   |some u =>
    rcases hO b u q with z|⟨z,_⟩
    ·rw[KT b u z]at e;cases e
    ·subst z
     rw[hK (by rw[q];simp)]at e;cases e)
  have hM:Mod K mg (fF s₁.heap H):=⟨Ii,um hns,⟨mb,um hb,hbb⟩,let⟨mc,h1,h2⟩:=hlim;⟨mc,um h1,h2⟩⟩;have e0:fK P w K mg (fF s₁.heap H) callerA [] s₁ H:=⟨rfl,hM,λb o e=>Be e,oV (I_ _ _),trivial,λb hb=>absurd (show b∈([]:List Addr)from hb) (by simp),hok,.of_eq hg⟩;have Ul:∀t∈tabs,TabAt (fF s₁.heap H) mg t.1 t.2.1:=λt ht=>by
   refine⟨?_,?_⟩
   ·obtain⟨o,vs,file,tf,flags,tg,inF,text,tt,q1,q2,r⟩:=(hT t ht).1
    exact⟨o,vs,file,tf,flags,tg,inF,text,tt,rZ q1 (free q1 (by rw[q2];intro z;cases z) (by rw[q2];decide)),q2,r⟩
   ·obtain⟨bm,ob,q1,q2,q3,q4,r⟩:=hbm
    exact⟨bm,ob,q1,q2,rZ q3 (free q3 (by rw[q4];intro z;cases z) (by rw[q4];decide)),q4,r⟩
  refine fM ((F _ Ii (um hns) Ul).run callerA [] s₁ H ⟨[.ref a],[]⟩ [.ref a] [.ref a] _ _ hr e0 (hbind s₁ (.ref a)) (.cons rfl .nil) (hsp H hS ku)) λr s' h=>?_;cases r with
  |error e=>exact(zG H e s' h).elim
  |ok fl =>
   cases fl with
   |next=>exact False.elim h
   |brk=>exact False.elim h
   |cont=>exact False.elim h
   |ret u =>
    obtain⟨v,H',os,bare,un,hok',r',q,hT'⟩:=h;have q':v = .bl true:=q;subst q';obtain rfl:u=Value.bool true:=r';have key:∀b o,s₁.heap.get? b=some o->s'.heap.get? b=some o\/(isCodeTable s₁.heap b/\o=W.tabObj #[]/\∃ps,s'.heap.get? b=some (W.tabObj ps)):=λb o e=>by
     cases q:H b with
     |none=>exact .inl (un.keep b o e q (by intro z;exact absurd (show b∈([]:List Addr)from z) (by simp)) (by simp))
     |some u =>
      rcases hO b u q with z|⟨rfl,ob,xs,rfl⟩
      ·obtain⟨t,t1,t2,t3,z2⟩:=oB z
       rw[e]at z2;cases z2;subst t3;obtain⟨ps,p1,_⟩:=(show a8 P w H' s'.heap b (.lam t.2.2.1 t.2.2.2)from hok' b _ (hT' b _ z));refine .inr ⟨?_,rfl,ps,p1⟩;have:=((hT t t1).1.tab (hT t t1).2).isCodeTable;rw[t2]at this;exact this
      ·have z2:=un.jG b ob _ q
       obtain⟨e1,_⟩:=hok b _ q;obtain⟨e2,_⟩:=hok' b _ z2;rw[e]at e1;cases e1;exact .inl e2
    refine⟨rfl,⟨λb o e=>?_,λb o e=>?_⟩,os,bare⟩
    ·rcases key b o e with z|⟨z1,rfl,ps,z2⟩
     ·exact .inl z
     ·exact .inr (.inl ⟨z1,rfl,#[],ps,rfl,by rw[Array.empty_append];exact z2⟩)
    ·rcases key b o e with z|⟨_,_,ps,z2⟩
     ·exact⟨o,z⟩
     ·exact⟨_,z2⟩
 have Pn:∀(H:Hp) b o,eW tabs b=some o->a8 P w H s₁.heap b o:=λH b o e=>by
  obtain⟨t,_,_,rfl,q⟩:=oB e;exact⟨#[],q,trivial,λcv z=>by cases z⟩
 cases hk:K.lookup a with
 |some o =>
  have e:=KX a o hk;rw[ha]at e;cases e;exact core (eW tabs) (λb o e=>.inl e) (λb o e=>e) (.inr ⟨_,vs.toArray,_,hk,rfl,rfl,rfl,by rw[bG,lenV];exact hl,by simpa using rv⟩) (λb u z=>Pn _ b u z) λz=>absurd aT z
 |none =>
  refine core (λb=>if b=a then some (.cT {cls:=.type "list", data:=.seq vs.toArray} (.lst (ns.map V.int)))else eW tabs b) (λb o e=>?_) (λb o e=>?_) (.inl (.inr ⟨{cls:=.type "list", data:=.seq vs.toArray},if_pos rfl⟩)) (λb u z=>?_) λ_=>hk
  ·by_cases hb:b=a
   ·have z':=(if_pos hb).symm.trans e
    cases z';exact .inr ⟨hb,_,_,rfl⟩
   ·exact .inl ((if_neg hb).symm.trans e)
  ·have hb:b≠a:=λz=>by rw[z,aT]at e;cases e
   exact(if_neg hb).trans e
  ·by_cases hb:b=a
   ·have z':=(if_pos hb).symm.trans z
    cases z';subst hb;exact⟨ha,by rw[ao];exact hl,vs,_,rv,ha⟩
   ·exact Pn _ b u ((if_neg hb).symm.trans z)
theorem aaY{l:W.OpenLaw}{n k:Nat}{q:Program}{loose:List Str}{XP:(Str->Option Value)->Heap->Prop}{YP:World->Heap->Prop}{d:DefRec}{K:Params->W.Frag}{CX:World->gj}{sp:World->Sp}{x:Str}{tabs:List Tab}(hn:l.most=some n)(hn2:n<=sizeLine)(hdf:d.params.defaults = [])(hr:bj k callerA)(hY:∀(w:World) (h:Heap),YP w h->(K w.params).In h)(hT:∀(w:World) (h:Heap),YP w h->(∀t∈tabs,W.codeHdIn (K w.params) t.1 t.2.1=true/\h.get? t.2.1=some (W.tabObj #[]))/\W.noTabs (K w.params)=true)(F:∀(w:World) (mg:Str->Option Value) (fa:Addr) (h:Heap),(K w.params).In h->h.Ns mainGlobals mg->mg d.name=some (.ref fa)->∃fd:FuncData,(∀(s:Shared) (u:Value),BindsTo s fd ⟨[u],[]⟩ [(x,u)])/\∀base:Heap,(K w.params).In base->base.Ns mainGlobals mg->(∀t∈tabs,TabAt base mg t.1 t.2.1)->aM l.prog w (K w.params) mg base (CX w) k fa fd [x] (sp w))(hsp:∀(w:World) (H:Hp) (a:Addr) (ns:List Int),ns.length<=n->ai (K w.params) H a (ns.map V.int)->pz tabs H->sp w [.ref a] H (λv H'=>v = .bl true/\pz tabs H') λ_ _ _=>False)(zG:∀(w:World) (H:Hp) (s:Shared) (e:Value) (s':Shared),CX w [] H s (λ_ _ _=>False) e s'->False):W.WalkO q loose XP YP l.row.toRowW d [] (λf vs=>PySem.call f vs):=by
 refine Ee.Q7 hn hdf λw s₀ s₁ mg mb fa o pm cd doc a vs ns G Y ho hd hcd hmg hobj hints hlen hg=>?_;have KX:=hY w _ Y;obtain⟨fd,hb,hF⟩:=F w mg fa _ KX G.T.g hmg;obtain⟨t1,t2⟩:=hT w _ Y;exact Wd KX G.T.g G.T.b G.T.builtins G.T.nolimit hg G.T.bmain (λt ht=>⟨W.codeHd_of_K KX (t1 t ht).1,(t1 t ht).2⟩) t2 hobj hints (cp hlen hn2) hr hF hb (λH hS ku=>hsp w H a ns hlen hS ku) λH e s'=>zG w H s₁ e s'
end L2
namespace My
open PySem PySem.Spec PyProof.Rows L2
theorem RT{K:W.Frag}{x:Str}{c Pt f:Addr}{st:Stmt}{fd:FuncData}(ht:W.tabIn K x=some (c,Pt))(a:W.nsIn K mainGlobals x=some (some (.ref f)))(F:aR K x x st f fd):fd.code = .ref c:=by
 obtain⟨oc,od,kV,doc,pm,an,cdv,ct,osl,rfl,lk,hcd⟩:=F.ex;unfold W.tabIn at ht;rw[a]at ht;simp only[lk]at ht;show cdv = .ref c;cases cdv with
 |ref c2 =>
  dsimp only at ht
  split at ht
  ·split at ht
   ·cases ht;rfl
   ·cases ht
  ·cases ht
 |_=>cases ht
theorem aE.sf{P:Program}{w:World}{K:W.Frag}{mg:Str->Option Value}{base h:Heap}{x:Str}{st:Stmt}{ps:List Str}{k:Nat}{sp:Sp}{c Pt:Addr}(A:aE K x st)(X:K.In h)(G:h.Ns mainGlobals mg)(hb:Ef x st ps)(ht:W.tabIn K x=some (c,Pt))(ok:∀{f:Addr} {fd:FuncData},aR K x x st f fd->fd.code = .ref c->aM P w K mg base aN k f fd ps sp):au P w K mg base x ps k sp:=by
 obtain⟨f,fd,a,F⟩:=A.ex;exact⟨f,fd,ok F (RT ht a F),W.mg_of X G a,F.kp,F.binds hb⟩
theorem vO{K:W.Frag}{x:Str}{f c P:Addr}{oc co:Value}{od cd':Option Addr}{fd:FuncData}{osl sl:Array (Option Value)}{vs:Array Value}(a:W.nsIn K mainGlobals x=some (some (.ref f)))(l:K.lookup f=some ⟨oc,od,.func fd,osl⟩)(hc:fd.code = .ref c)(l2:K.lookup c=some ⟨co,cd',.fields vs,sl⟩)(hv:(vs[11]?:Option Value)=some (.ref P)):W.tabIn K x=some (c,P):=by
 unfold W.tabIn;rw[a];simp only[l,hc,l2,hv]
noncomputable def vw(K:W.Frag)(Pt Ps Pu Pv:Addr):Sp:=λvs H Q _=>∃(a:Nat) (ns:List Int),vs = [.ref a]/\ai K H a (ns.map V.int)/\ns.length<=63/\H Pt=some (.lam iM iN)/\H Ps=some (.lam pR pS)/\H Pu=some (.lam nu ny)/\H Pv=some (.lam qV qW)/\∀H',H' Pt=some (.lam iM iN)->H' Ps=some (.lam pR pS)->H' Pu=some (.lam nu ny)->H' Pv=some (.lam qV qW)->Q (.bl true) H'
theorem aaX{l:W.OpenLaw}{q:Program}{loose:List Str}{XP:(Str->Option Value)->Heap->Prop}{YP:World->Heap->Prop}{d:DefRec}{K:Params->W.Frag}{c Pt c1 Ps c2 Pu c3 Pv:Addr}(hn:l.most=some 63)(hdf:d.params.defaults = [])(hY:∀(w:World) (h:Heap),YP w h->(K w.params).In h/\h.get? Pt=some (W.tabObj #[])/\h.get? Ps=some (W.tabObj #[])/\h.get? Pu=some (W.tabObj #[])/\h.get? Pv=some (W.tabObj #[]))(hT:∀w:World,W.codeHdIn (K w.params) c Pt=true)(hT1:∀w:World,W.codeHdIn (K w.params) c1 Ps=true)(hT2:∀w:World,W.codeHdIn (K w.params) c2 Pu=true)(p4:∀w:World,W.codeHdIn (K w.params) c3 Pv=true)(hno:∀w:World,W.noTabs (K w.params)=true)(hne:(Pt≠Ps/\Pt≠Pu/\Pt≠Pv)/\(Ps≠Pu/\Ps≠Pv)/\Pu≠Pv)(F:∀(w:World) (mg:Str->Option Value) (fa:Addr) (h:Heap),(K w.params).In h->h.Ns mainGlobals mg->mg d.name=some (.ref fa) ->
   ∃fd:FuncData,(∀(s:Shared) (u:Value),BindsTo s fd ⟨[u],[]⟩ [("_law_script", u)])/\∀base:Heap,(K w.params).In base->base.Ns mainGlobals mg->TabAt base mg c Pt->TabAt base mg c1 Ps->TabAt base mg c2 Pu->TabAt base mg c3 Pv->aM l.prog w (K w.params) mg base aN 40 fa fd ["_law_script"] (vw (K w.params) Pt Ps Pu Pv)) :
  W.WalkO q loose XP YP l.row.toRowW d [] (λf vs=>PySem.call f vs):=
 L2.aaY (n:=63) (k:=40) (x:= "_law_script") (CX:=λ_=>aN) (sp:=λw=>vw (K w.params) Pt Ps Pu Pv) (tabs:=[(c,Pt,iM,iN),(c1,Ps,pR,pS),(c2,Pu,nu,ny),(c3,Pv,qV,qW)]) hn (by decide) hdf ⟨rfl,by decide,by decide,rfl⟩ (λw h Y=>(hY w h Y).1)
  (λw h Y=>⟨λt ht=>by
   rcases aY.mp ht with rfl|ht
   ·exact⟨hT w,(hY w h Y).2.1⟩
   ·rcases aY.mp ht with rfl|ht
    ·exact⟨hT1 w,(hY w h Y).2.2.1⟩
    ·rcases aY.mp ht with rfl|ht
     ·exact⟨hT2 w,(hY w h Y).2.2.2.1⟩
     ·obtain rfl:=gT.mp ht
      exact⟨p4 w,(hY w h Y).2.2.2.2⟩,hno w⟩)
  (λw mg fa h KX G hmg=>by
   obtain⟨fd,h1,h2⟩:=F w mg fa h KX G hmg;exact⟨fd,h1,λbase kb nb tb=>h2 base kb nb (tb _ (bx ..)) (tb _ (bu _ (bx ..))) (tb _ (bu _ (bu _ (bx ..)))) (tb _ (bu _ (bu _ (bu _ (gT.mpr rfl)))))⟩)
  (λw H a ns hl hS ku=>⟨a,ns,rfl,hS,hl,ku Pt _ (by unfold eW;simp),ku Ps _ (by unfold eW;simp[hne.1.1]),ku Pu _ (by unfold eW;simp[hne.1.2.1,hne.2.1.1]),ku Pv _ (by unfold eW;simp[hne.1.2.2,hne.2.1.2,hne.2.2]),λH' hP zK hP2 zM=>⟨rfl,λb o e=>by
   obtain⟨t,t1,t2,t3⟩:=Pw e
   rcases aY.mp t1 with rfl|t1
   ·rw[<- t2,t3]
    exact hP
   ·rcases aY.mp t1 with rfl|t1
    ·rw[<- t2,t3]
     exact zK
    ·rcases aY.mp t1 with rfl|t1
     ·rw[<- t2,t3]
      exact hP2
     ·obtain rfl:=gT.mp t1
      rw[<- t2,t3];exact zM⟩⟩) λ_ _ _ _ _ z=>z
theorem R0 {K:W.Frag} {mg:Str->Option Value} {a:Addr} {od:Option Addr} {n:Nat} {t1 t2 t3 t4:Tok} {sl:Array (Option Value)} (e:mg "ROW_COUNTS" = some (.ref a)) (l:K.lookup a=some ⟨.type "tuple", od,.seq #[.int 1 t1,.int 2 t2,.int 4 t3,.int 8 t4] n,sl⟩):Eh K mg:=
 ⟨a,e,λ_=>.inr ⟨_,_,_,l,rfl,rfl,by show 4<=sizeLine;decide,show Vals [.int 1,.int 2,.int 4,.int 8] [.int 1 t1,.int 2 t2,.int 4 t3,.int 8 t4]from .cons ⟨_,rfl⟩ (.cons ⟨_,rfl⟩ (.cons ⟨_,rfl⟩ (.cons ⟨_,rfl⟩ .nil)))⟩⟩
section
variable {P:Program} {w:World} {K:W.Frag} {mg:Str->Option Value} {base:Heap} {f:Addr} {fd:FuncData}
abbrev oy:Stmt:=top 63
theorem NC:aU ["_law_script","_law_cell","_law_draws_here","_law_number"] ["_law_script"] (aB oy):=⟨rfl,rfl,rfl,by decide +kernel,rfl,by decide +kernel,by decide +kernel⟩
theorem Xx {Pt Ps Pu Pv:Addr} (F:aR K "law" "law" oy f fd) (T:Txt mg) (yj:au P w K mg base "_law_draws" ["_law_cell","_law_many"] 2 Cy) (ym:au P w K mg base "_law_number_of" ["_law_draws_here"] 1 (CW K)) (yi:au P w K mg base "_law_dividers" ["_law_number"] 1 CT)
  (yn:au P w K mg base "_law_numbers_well" ["_law_number","_law_draws_here"] 9 (CZ K Pt Ps)) (yk:au P w K mg base "_law_fields_well" ["_law_width","_law_draws_here"] 9 (CG K Pt Pu Pv)):aM P w K mg base aN 10 f fd ["_law_script"] (vw K Pt Ps Pu Pv):=by
 refine F.ok NC (λvs H Q E h=>?_) (λcdv A outer s H vs Q E hr h=>?_)
 ·obtain⟨a,ns,rfl,_⟩:=h
  rfl
 ·obtain⟨a,ns,rfl,hS,hns,zK,hP2,zM,Ui,kk⟩:=h
  have nd:=NC.nd;refine⟨_,(@ay _ _ _ _ _ (cD bT rfl (eB (K:=K) rfl (aO uw (ic (ag aD (ag aD ah))) (qw (qR (K:=K) rfl) (pv 0) uG (ow aD)))) (aZ (i:=1) nd rfl (Or.inl rfl))
   (@ay _ _ _ _ _ (aV (i:=2) nd rfl (Or.inl rfl) (aQ yj hr rfl (ag (pv 1) (ag aD ah))))
   (@ay _ _ _ _ _ (aV (i:=3) nd rfl (Or.inl rfl) (aQ ym hr rfl (ag (qw (qR (K:=K) rfl) (pv 2) uG (ow aD)) ah)))
   (@ay _ _ _ _ _ (cM (PW.pt (qF (bW jO (cL (d7 (K:=K) rfl) rfl T.len eL (ag (aQ yi hr rfl (ag (pv 3) ah)) ah)) aD (bL _)) (qG (iS (fJ (aQ yn hr rfl (ag (pv 3) (ag (qw (qR (K:=K) rfl) (pv 2) (ow aD) (ow aD)) ah)))))))) (az (aX d0)) cU)
   (az (cM (iS (fJ (aQ yk hr rfl (ag (aO dv (aF (bB (K:=K) rfl) (pv 2) aD (λ_ _=>rfl)) aD) (ag (qw (qR (K:=K) rfl) (pv 2) (ow aD) uG) ah))))) (az (aX d0)) cU))))))
   (az (aX d0))),?_⟩
  refine⟨by show 2<=sizeLine;decide,λp1 hp1=>⟨_,rfl,_,rfl,a,_,rfl,(Same.put hp1).seq hS,λp2 hp2=>?_⟩⟩;obtain⟨ms,yC,hms⟩:=R7 ns none (some 6);rw[yC];refine⟨p1,p2,_,_,rfl,rfl,Same.put hp2 _ _ aA,aA,by rw[ao];show 2+ms.length<=sizeLine;exact fL (gO (by omega)),λp3 hp3=>?_⟩;generalize hB:upd (upd (upd H p1 _) p2 _) p3 _=B;have uO:Same H B:=by rw[<- hB];exact((Same.put hp1).trans (Same.put hp2)).trans (Same.put hp3)
  have hl3:B p3=some (.lst (([0,5]++ms).map V.int)):=by rw[<- hB,aA,d5];rfl
  have zL:=uO _ _ zK;have Ip:=uO _ _ hP2;have Iq:=uO _ _ zM;have Ir:=uO _ _ Ui;refine⟨p3,rfl,⟨_,ai.of hl3⟩,jE (K:=K) (a:=p3) (xs:=([0,5]++ms).map V.int) (λi σ H6=>∃(v1 v2 v3:Option V),σ = [some (.ref a),v1,v2,v3]/\Same B H6)
   ⟨none,none,none,rfl,Same.refl _⟩ (λi σ H6 _ ⟨_,_,_,_,s6⟩=>ai.of (s6 _ _ hl3)) ?_ ?_⟩
  ·rintro i x σ H1 hx ⟨v1,v2,v3,rfl,s1⟩
   obtain⟨z,hz,rfl⟩:=b9.mp (cu hx);dsimp only[bq];show cV _ _ _ [some (.ref a),some (.int z),v2,v3] _;refine⟨_,rfl,z,8,rfl,by decide,λd ds H2 s2 hd0 hd hdl hds=>?_⟩;dsimp only[bq];show cV _ _ _ [some (.ref a),some (.int z),some (.ref d),v3] _;obtain⟨x0,x1,x2,x3,x4,x5,x6,x7,rfl⟩:∃x0 x1 x2 x3 x4 x5 x6 x7:Int,ds = [x0,x1,x2,x3,x4,x5,x6,x7]:=by
    match ds,hdl with
    | [x0,x1,x2,x3,x4,x5,x6,x7],_=>exact⟨x0,x1,x2,x3,x4,x5,x6,x7,rfl⟩
   have s12:=s1.trans s2;refine⟨_,rfl,_,rfl,d,_,rfl,ai.of hd,λq1 hq1=>?_⟩;have t2:=Same.put hq1 (o:=.lst ([x0,x1,x2].map V.int));refine⟨q1,[x0,x1,x2],rfl,ai.of aA,λy hy=>hds y (by simp at hy ⊢;omega),rfl,λn H3 s3 hn1 hn2=>?_⟩;dsimp only[bq];show cV _ _ _ [some (.ref a),some (.int z),some (.ref d),some (.int (n:Int))] _;have gN:=s12.trans (t2.trans s3);have zO:=s3 _ _ (t2 _ _ hd);obtain⟨r,U_,er⟩:∃r:Nat,r<4/\x5 % 4=(r:Int):=⟨(x5 % 4).toNat,by omega,by omega⟩;refine jT (λσ' H'=>σ' = [some (.ref a),some (.int z),some (.ref d),some (.int (n:Int))]/\Same H3 H') (λD' _ hnx=>?_) ?_
   ·refine⟨_,rfl,n,rfl,hn1,hn2,λLd md H4 s4 abi hLd hml _=>⟨Ld,_,rfl,.inl (ai.of hLd),_,_,rfl,rfl,_,rfl,?_⟩⟩
    refine bO (λh=>?_) (λh=>hnx _ _ ⟨rfl,s4⟩);have d_:(Dv.divs n).length<=24:=by
     have:(((md.map V.int).length:Nat):Int)<=24:=fX h;rw[ao,hml]at this;omega
    refine⟨_,rfl,_,rfl,_,rfl,_,rfl,d,_,rfl,ai.of (s4 _ _ zO),λq2 hq2=>?_⟩;have t3:=Same.put hq2 (o:=.lst [.int x3,.int x4]);have uK:=gN.trans (s4.trans t3);exact⟨n,q2,x3,x4,rfl,hn1,hn2,d_,ai.of aA,uK _ _ zL,uK _ _ Ip,λH5 s5=>⟨_,rfl,cI (hnx _ _ ⟨rfl,s4.trans (t3.trans s5)⟩)⟩⟩
   rintro σ' H4 ⟨rfl,s4⟩;have uK:=gN.trans s4;refine⟨_,rfl,d,_,5,_,rfl,rfl,ai.of (s4 _ _ zO),aS (j:=5) rfl,_,_,rfl,rfl,(by show(0:Int)<4;decide),?_⟩;refine⟨_,rfl,_,rfl,d,_,rfl,ai.of (s4 _ _ zO),λq2 hq2=>?_⟩;have t3:=Same.put hq2 (o:=.lst [.int x6,.int x7]);have uL:=uK.trans t3;refine⟨r,q2,x6,x7,by dsimp only;rw[er];rfl,U_,ai.of aA,uL _ _ zL,uL _ _ Iq,uL _ _ Ir,λH6 s6=>⟨_,rfl,cI ⟨_,_,_,rfl,uL.trans s6⟩⟩⟩
  ·rintro σ H6 ⟨v1,v2,v3,rfl,s6⟩
   exact kk _ (s6 _ _ zL) (s6 _ _ Ip) (s6 _ _ Iq) (s6 _ _ Ir)
end
end My
noncomputable def PySem.W.Fast.tw2843526361380138703 : PySem.Program := PySem.Challenge.pw_evenclimb_k64_whole_made_orders
theorem PySem.W.Fast.te2843526361380138703 : PySem.Challenge.pw_evenclimb_k64_whole_made_orders = PySem.W.Fast.tw2843526361380138703 := rfl
structure PySem.W.Fast:Prop where (te13984821689563193845 tw18426165322601643181 tw12999179870789276329 tw5443928207581242210 tw3960763540530845438 tw10901622393400574690 tw6538532765817460167 tw16889215173188770338 tw2721959565747528468 tw17363252477718237391 tw245441758247620287 tw8032592380264615136 tw16933946261139739289 tw4360532091272552105 tw3743362175977707636 tw5771355579207456272 tw12389601850109153620 tw13245775322634766121 tw13242690219657624500 tw12829487301076530211 tw979595572327971088 tw17415365448341940284 tw10330237522041406625 tw5978594489280435815 tw18248216242062149283 tw2024193528245478655 tw8249771841241990673 tw16119279144149290580 tw17908521971766326277 tw3640371587724597169 tw5529553709210239979 tw9475360393577709906 tw8112659076616182338 tw3531971384203247810 tw10583739494345575691 tw2268498761635465715 tw7313719392570668285 tw1636900681411084404 tw3904323694000823618 tw5430773977262303513 tw17725989973898768173 tw2607850587220925802 tw3680357377405798516 tw12887618281122935929 tw2870475772643661773 tw10416482707335895309 tw10456147313818927229 tw3447497178546866981 tw3593272293874387936 tw1404754313937620359 tw15446478032193870584 tw3476572161611996107 tw11416696995471854289 tw16378892498103281648 tw13001545946868538134 tw2515108798114010235 tw9438689561754846253 tw10636578310866624864 tw5908297137082026123 tw12123591458919169155 tw11333905733448244275 tw10209648964901127657 tw15267143528050184865 tw1662548267723338377 tw5088239609788902434 tw11845442702921142915 tw1923285952252541953 tw9213940503387175424 tw15734592285705001137 tw3406816462824252865 tw1485140340643415735 tw1554034621485799811 tw661082881392116402 tw5382846849513913882 tw3042785686200926400 tw1724563660665467200 tw4239455959358837256 tw9682291164324655441 tw12691886765520623696 tw9679870577089039417 tw274945295151220056 tw11352516555518933139 tw3855988014977139381 tw434130329341150883 tw3035278841120743263 tw15937568779277668091 tw6582086208822884704 tw13628665140036435548 tw8317703916061405604 tw10466597433579022100 tw6183183878407211033 tw435990382240039949 tw11680441189320934546 tw972681159307418058 tw13797096394985569802 tw6060867843728303177 tw10473907215503569493 tw948110146088213334 tw17345394423648730048 tw2102776695771663189 tw15350975259641285093 tw17994450355946923541 tw12265442508697624687 tw9816454861305628454 tw4349128049896077948 tw4146799021644642761 tw3981262141103167441 tw11781987492255352183 tw7692283330434767830 tw11510894253975016559 tw3451311101244552606 tw8725291207955976117 tw1306912395969146715 tw6560449095156758946 tw17677256701776441402 tw5880369508912204796 tw704850691762667445 tw9882981332120512591 tw3461563110790959137 tw4899390410154967520 tw15267352678335000860 tw4456732714574553085 tw6845012195652386136 tw13474113260501138056 tw432427320053643581 tw8142737225680499666 tw7766145729678266968 tw7583442272267515315 tw14132937937905760162 tw9839053187570400372 tw2084811450350338900 tw6912540183840278728 tw16754639296848487672 tw3380579563127146030 tw5314582005520098749 tw15708250067412952339 tw16533400479419128470 tw9059739825700207813 tw16319297887687456692 tw10899283986635565918 tw823203368450181537 tw9682840768969445273 tw4644864144261595831 tw1793623225607536995 tw982740989804257028 tw13129609940056052918 tw15867880447606178245 tw10018815289701935831 tw10511927451916444233 tw9934133097292082531 tw15730584787539661617 tw489978559043322759 tw15048428165805563376 tw14557804556781858213 tw8047842323790194489 tw6485509204203868000 tw2926314531320290970 tw11223690783054102391 tw1748083251107706268 tw13530687797656706990 tw1009486497039637805 tw8049598041075779676 tw91189333791842393 tw7085888682534020056 tw11198883571772580766 tw17156122519926257814 tw5271639271407461441 tw16034689948125911534 tw18189370529063797168 tw10416357961137565253 tw2519820788710748161 tw4373897587869116807 tw356517935487004192 tw12371766681652251369 tw11028167607745759235 tw18363096288593842750 tw2457493917578670695 tw10863288351424923352 tw6487881211979478680 tw9097033038316124709 tw1685031628727933300 tw12952317385120060692 tw2758917097249222479 tw13115543298053066368 tw4784365275974765589 tw7631585072916320994 tw614348499977562284 tw7383464349367469587 tw96328084323188147 tw1593653008955120915 tw15651501141579246831 tw10221320199247953452 tw6749560404797943024 tw4002412443491398955 tw11138757658236737292 tw10505773527924414937 tw915116653751679230 tw2538174775426651616 tw17668998398696236466 tw5970468604997494937 tw16688663227945181094 tw13683376128696492622 tw1184452497523835186 tw4660889469964962011 tw2416564140077669876 tw16401360812498319569 tw7724716212783248277 tw3982110665164984246 tw3453554940782572128 tw16874145931021710163 tw16399326983450557542 tw12498877435332541574 tw16221751558171157373 tw4368606144960326003 tw14671239696194648162 tw5608844200070634709 tw4638209971945073935 tw18090322127862320881 tw12310423173407129320 tw12167469151363293805 tw2450560313208919645 tw8346676050255621433 tw6348264244851396454 tw1066605661707486122 tw9141377902224449819 tw7348737891520158735 tw6950835499245425544 tw2848198939993966120 tw2313955354343280674 tw1913755242246911289 tw16881534703322429519 tw16408788906848178351 tw16152344287819401989 tw14508871211549591085 tw12749245644954138964 tw12074009530121226512 tw114595529691686766 tw11304040695150771014 tw2734409131431808550 tw9591703702080926818 tw8398466343078188014 tw7883533984115983060 tw7009943258885569049 tw6924330141103766111 tw3829809223122189033 tw2745701901798727228 tw2450119495772697207 tw18128460207086151270 tw17147837063784252110 tw16751933468197883304 tw1653018572141933789 tw15891632189189785626 tw15862675880870278830 tw15626508226824090432 tw15569051319249414160 tw14933116610290364663 tw14782558415507107232 tw13918505073732933929 tw12262971860740080425 tw11601642098348154402 tw11399051309657121895 tw10324844925067282560 tw10187144320128482279 tw10192140041984074680 tw4372850293080938909 tw15375904896793622377 tw12118347639848615780 tw3687417889132251339 tw3680886467959159392 tw15100700937633658308 tw1252147124176023857 tw18270692766371644588 tw7166796528603058587 tw16293875868931172537 tw12980544015443206093 tw8542754926269888622:True)
namespace My
open PySem PySem.Spec PyProof.Rows L2
theorem us0{C:List Value->Prop}(h:C []):∀us:List Value,us.length=0->C us:=λ_ e=>wI.mp e▸h
theorem vT{C:List Value->Prop}{n:Nat}(h:∀(a:Value) (us:List Value),us.length=n->C (a::us)):∀us:List Value,us.length=n+1->C us:=λus e=>by
 cases us with
 |nil=>cases e
 |cons a r=>exact h a r (Nat.succ.inj e)
theorem cW{C:List Value->Prop}(h:∀a0,C [a0]):∀us:List Value,us.length=1->C us:=vT λa=>us0 (C:=λr=>C (a::r)) (h a)
theorem bX{C:List Value->Prop}(h:∀a0 a1,C [a0,a1]):∀us:List Value,us.length=2->C us:=vT λa=>cW (C:=λr=>C (a::r)) (h a)
theorem f9{C:List Value->Prop}(h:∀a0 a1 a2,C [a0,a1,a2]):∀us:List Value,us.length=3->C us:=vT λa=>bX (C:=λr=>C (a::r)) (h a)
theorem PK{C:List Value->Prop}(h:∀a0 a1 a2 a3,C [a0,a1,a2,a3]):∀us:List Value,us.length=4->C us:=vT λa=>f9 (C:=λr=>C (a::r)) (h a)
set_option maxHeartbeats 0 in
theorem all_mk {l:W.OpenLaw} {w:World} {K:W.Frag} {h:Heap} {mg:Str->Option Value} {fa C c0 P0 c1 P1 c2 P2 c3 P3:Addr} (X:K.In h) (G:h.Ns mainGlobals mg) (hfa:mg "law" = some (.ref fa)) (tx:mQ K)
  (cO:ClsAt K "Order" "Order.__init__" uP C) (nC:W.findIn K (.ref C) "count" = some none) (nP:W.findIn K (.ref C) "pairs" = some none) (nR:W.findIn K (.ref C) "reach" = some none) (nJ:W.findIn K (.ref C) "joins" = some none) (nM:W.findIn K (.ref C) "meets" = some none)
  (ht:W.tabIn K "highest_first" = some (c0,P0))
  (ht1:W.tabIn K "dividing" = some (c1,P1))
  (lu:W.tabIn K "fields_of" = some (c2,P2))
  (zY:W.tabIn K "sums_order" = some (c3,P3))
  (Ay:W.nsIn K mainGlobals "reversed" = some none)
  (Az:W.nsIn K mainGlobals "set" = some none)
  {aaI:Tok} (Bc:W.nsIn K mainGlobals "MOST_DIVIDED" = some (some (.int 1000000 aaI)))
  {aaJ:Tok} (Bd:W.nsIn K mainGlobals "ROOT_OF_MOST_DIVIDED" = some (some (.int 1000 aaJ)))
  {Gj W6:Nat} {R9:Option Addr} {tR1 tR2 tR3 tR4:Tok} {ZP:Array (Option Value)} (Bb:W.nsIn K mainGlobals "ROW_COUNTS" = some (some (.ref Gj)))
  (Ap:K.lookup Gj=some ⟨.type "tuple", R9,.seq #[.int 1 tR1,.int 2 tR2,.int 4 tR3,.int 8 tR4] W6,ZP⟩)
  (sQ:aE K "is_whole" BX)
  (sP:aE K "is_thing" BW)
  (sY:aE K "need_thing" Cp)
  (sS:aE K "need_count" Ci)
  (sW:aE K "need_pairs" Cm)
  (sZ:aE K "own_row" u5)
  (sM:aE K "either" uS)
  (tu:aE K "shared" u9)
  (sJ:aE K "column" uQ)
  (tq:aE K "reach_of" qP)
  (tD:aE K "twos" vb)
  (sV:aE K "need_one_way" Ck)
  (sO:aE K "ends_with" uU)
  (sN:aE K "ends_of" uT)
  (sU:aE K "need_ends" Cj)
  (tm:aE K "pairs_of" u6)
  (yW:aE K "_law_mixed" Cb)
  (yU:aE K "_law_draws" Ca)
  (yX:aE K "_law_number_of" Cd)
  (y8:MethAt K C "join" "Order.join" BK)
  (y9:MethAt K C "meet" "Order.meet" BL)
  (za:aE K "order_by" u3)
  (yF:aE K "dividers" qN)
  (yG:aE K "dividing" uR)
  (yT:aE K "_law_dividers" uZ)
  (yI:aE K "field_with" uV)
  (yJ:aE K "fields_of" lO)
  (y7:aE K "_law_prime_parts" Ce)
  (y6:aE K "_law_orders_of" u0)
  (yS:aE K "_law_common" B_)
  (yO:aE K "is_below" BV)
  (yP:aE K "is_step" uY)
  (zc:aE K "steps" u_)
  (zf:aE K "steps_above" va)
  (yM:aE K "highest_first" uX)
  (yQ:aE K "join_of_meet" BZ)
  (y_:aE K "meet_of_join" Cg)
  (zi:aE K "uneven" Cq)
  (yE:aE K "climbs_to" qM)
  (yL:aE K "heights_of" uW)
  (yK:aE K "five_of" BP)
  (yH:aE K "evenness" BM)
  (yN:aE K "how_many" BR)
  (yZ:aE K "_law_numbers_well" qO)
  (zh:aE K "sums_order" qQ)
  (yV:aE K "_law_fields_well" lP)
  (yR:aE K "law" oy) :
  ∃fd:FuncData,(∀(s:Shared) (v:Value),BindsTo s fd ⟨[v],[]⟩ [("_law_script", v)])/\∀base:Heap,K.In base->base.Ns mainGlobals mg->TabAt base mg c0 P0->TabAt base mg c1 P1->TabAt base mg c2 P2->TabAt base mg c3 P3->aM l.prog w K mg base aN 40 fa fd ["_law_script"] (vw K P0 P1 P2 P3):=by
 have T:=tx.txt X G;have TC:dk K C:=⟨cO.cl,nC,nP,nR,nJ,nM⟩;obtain⟨f,fd,a,F⟩:=yR.ex;have e:=hfa.symm.trans (W.mg_of X G a);cases e;obtain⟨oc,od,kV,doc,pm,an,cdv,ct,osl,rfl,lk,hcd⟩:=id F.ex;refine⟨W.fnOf "law" "law" (hV oy) (fA oy) (aB oy) .none kV doc pm an cdv ct,λs v=>.of_eq rfl,λbase _ _ tb tb1 tb2 tb3=>?_⟩;have nA:=W.mg_none_of X G Ay;have zu:=W.mg_none_of X G Az;have DN:∃t,mg "MOST_DIVIDED" = some (.int 1000000 t):=⟨_,W.mg_of X G Bc⟩;have DP:∃t,mg "ROOT_OF_MOST_DIVIDED" = some (.int 1000 t):=⟨_,W.mg_of X G Bd⟩;have Du:=R0 (W.mg_of X G Bb) Ap;have eN:au l.prog w K mg base "is_whole" ["value"] 1 lQ:=sQ.cal X G (λ_ _ _ _ _ _=>cW λ_=>rfl) (λF=>Lh F T);have pG:au l.prog w K mg base "is_thing" ["count","number"] 2 vt:=sP.cal X G (λ_ _ _ _ _ _=>bX λ_ _=>rfl) (λF=>Le F T eN);have dP:au l.prog w K mg base "need_thing" ["count","number"] 3 lR:=sY.cal X G (λ_ _ _ _ _ _=>bX λ_ _=>rfl) (λF=>Lq F T pG);have pH:au l.prog w K mg base "need_count" ["count"] 2 vA:=sS.cal X G (λ_ _ _ _ _ _=>cW λ_=>rfl) (λF=>Li F T eN);have pK:au l.prog w K mg base "need_pairs" ["count","pairs"] 4 (vD K):=sW.cal X G (λ_ _ _ _ _ _=>bX λ_ _=>rfl) (λF=>Ln F T dP);have pL:au l.prog w K mg base "own_row" ["count","thing"] 1 vF:=sZ.cal X G (λ_ _ _ _ _ _=>bX λ_ _=>rfl) (λF=>Ls F T);have pD:au l.prog w K mg base "either" ["one","other"] 1 vg:=sM.cal X G (λ_ _ _ _ _ _=>bX λ_ _=>rfl) (λF=>K_ F T);have pO:au l.prog w K mg base "shared" ["one","other"] 1 vI:=tu.cal X G (λ_ _ _ _ _ _=>bX λ_ _=>rfl) (λF=>Lx F T);have pC:au l.prog w K mg base "column" ["rows","place"] 1 ve:=sJ.cal X G (λ_ _ _ _ _ _=>bX λ_ _=>rfl) (λF=>K9 F T);have pN:au l.prog w K mg base "reach_of" ["count","pairs"] 2 (vH K):=tq.cal X G (λ_ _ _ _ _ _=>bX λ_ _=>rfl) (λF=>Lw F T pL pD);have ju:au l.prog w K mg base "twos" ["count"] 1 qT:=tD.cal X G (λ_ _ _ _ _ _=>cW λ_=>rfl) (λF=>Ly F T);have pJ:au l.prog w K mg base "need_one_way" ["count","reach"] 2 vC:=sV.cal X G (λ_ _ _ _ _ _=>bX λ_ _=>rfl) (λF=>Lk F T ju);have pE:au l.prog w K mg base "ends_with" ["rows","things","thing"] 2 (vi K):=sO.cal X G (λ_ _ _ _ _ _=>f9 λ_ _ _=>rfl) (λF=>Lb F T pO);have mW:au l.prog w K mg base "ends_of" ["rows"] 3 (vh K):=sN.cal X G (λ_ _ _ _ _ _=>cW λ_=>rfl) (λF=>La F T pE);have pI:au l.prog w K mg base "need_ends" ["count","joins","meets"] 2 vB:=sU.cal X G (λ_ _ _ _ _ _=>f9 λ_ _ _=>rfl) (λF=>Lj F T ju);have pM:au l.prog w K mg base "pairs_of" ["count","reach"] 1 vG:=tm.cal X G (λ_ _ _ _ _ _=>bX λ_ _=>rfl) (λF=>Lv F T);have sd:oI l.prog w K mg base C "Order" ["self","count","pairs"] 5 (vq K C):=cO.cal X G (λ_ _ _ _ _ _=>f9 λ_ _ _=>rfl) (λF=>Lc F T TC pH pK pN pJ mW pC pI pM);have yl:au l.prog w K mg base "_law_mixed" ["_law_cell","_law_place"] 1 CV:=yW.cal X G (λ_ _ _ _ _ _=>bX λ_ _=>rfl) (λF=>XC F T);have yj:au l.prog w K mg base "_law_draws" ["_law_cell","_law_many"] 2 Cy:=yU.cal X G (λ_ _ _ _ _ _=>bX λ_ _=>rfl) (λF=>Xl F T yl);have ym:au l.prog w K mg base "_law_number_of" ["_law_draws_here"] 1 (CW K):=yX.cal X G (λ_ _ _ _ _ _=>cW λ_=>rfl) (λF=>XF F T);have m5:jY l.prog w K mg base C "join" ["self","a","b"] 4 (vx C):=y8.cal (λ_ _ _ _ _ _=>f9 λ_ _ _=>rfl) (λF=>Xz F T TC dP);have m8:jY l.prog w K mg base C "meet" ["self","a","b"] 4 (vy C):=y9.cal (λ_ _ _ _ _ _=>f9 λ_ _ _=>rfl) (λF=>XB F T TC dP);have ng:mh l.prog w K mg "order_by" ["things","is_at_most"] 7 1 2 (vE K C):=by
  obtain⟨f,fd,a,F⟩:=za.ex;refine⟨f,fd,λbase p kH LO=>?_,W.mg_of X G a,F.kp,F.binds (λ_ _ _ _ _ _=>bX λ_ _=>rfl)⟩;have eN:au l.prog w K mg base "is_whole" ["value"] 1 lQ:=sQ.cal X G (λ_ _ _ _ _ _=>cW λ_=>rfl) (λF=>Lh F T);have pG:au l.prog w K mg base "is_thing" ["count","number"] 2 vt:=sP.cal X G (λ_ _ _ _ _ _=>bX λ_ _=>rfl) (λF=>Le F T eN);have dP:au l.prog w K mg base "need_thing" ["count","number"] 3 lR:=sY.cal X G (λ_ _ _ _ _ _=>bX λ_ _=>rfl) (λF=>Lq F T pG);have pH:au l.prog w K mg base "need_count" ["count"] 2 vA:=sS.cal X G (λ_ _ _ _ _ _=>cW λ_=>rfl) (λF=>Li F T eN);have pK:au l.prog w K mg base "need_pairs" ["count","pairs"] 4 (vD K):=sW.cal X G (λ_ _ _ _ _ _=>bX λ_ _=>rfl) (λF=>Ln F T dP);have pL:au l.prog w K mg base "own_row" ["count","thing"] 1 vF:=sZ.cal X G (λ_ _ _ _ _ _=>bX λ_ _=>rfl) (λF=>Ls F T);have pD:au l.prog w K mg base "either" ["one","other"] 1 vg:=sM.cal X G (λ_ _ _ _ _ _=>bX λ_ _=>rfl) (λF=>K_ F T);have pO:au l.prog w K mg base "shared" ["one","other"] 1 vI:=tu.cal X G (λ_ _ _ _ _ _=>bX λ_ _=>rfl) (λF=>Lx F T);have pC:au l.prog w K mg base "column" ["rows","place"] 1 ve:=sJ.cal X G (λ_ _ _ _ _ _=>bX λ_ _=>rfl) (λF=>K9 F T);have pN:au l.prog w K mg base "reach_of" ["count","pairs"] 2 (vH K):=tq.cal X G (λ_ _ _ _ _ _=>bX λ_ _=>rfl) (λF=>Lw F T pL pD);have ju:au l.prog w K mg base "twos" ["count"] 1 qT:=tD.cal X G (λ_ _ _ _ _ _=>cW λ_=>rfl) (λF=>Ly F T);have pJ:au l.prog w K mg base "need_one_way" ["count","reach"] 2 vC:=sV.cal X G (λ_ _ _ _ _ _=>bX λ_ _=>rfl) (λF=>Lk F T ju);have pE:au l.prog w K mg base "ends_with" ["rows","things","thing"] 2 (vi K):=sO.cal X G (λ_ _ _ _ _ _=>f9 λ_ _ _=>rfl) (λF=>Lb F T pO);have mW:au l.prog w K mg base "ends_of" ["rows"] 3 (vh K):=sN.cal X G (λ_ _ _ _ _ _=>cW λ_=>rfl) (λF=>La F T pE);have pI:au l.prog w K mg base "need_ends" ["count","joins","meets"] 2 vB:=sU.cal X G (λ_ _ _ _ _ _=>f9 λ_ _ _=>rfl) (λF=>Lj F T ju);have pM:au l.prog w K mg base "pairs_of" ["count","reach"] 1 vG:=tm.cal X G (λ_ _ _ _ _ _=>bX λ_ _=>rfl) (λF=>Lv F T);have sd:oI l.prog w K mg base C "Order" ["self","count","pairs"] 5 (vq K C):=cO.cal X G (λ_ _ _ _ _ _=>f9 λ_ _ _=>rfl) (λF=>Lc F T TC pH pK pN pJ mW pC pI pM);exact XX F T sd LO
 have mV:au l.prog w K mg base "dividers" ["number"] 2 vf:=yF.cal X G (λ_ _ _ _ _ _=>cW λ_=>rfl) (λF=>Xj F T nA DN DP eN);have yb:au l.prog w K mg base "dividing" ["number"] 8 (Cw C P1):=yG.sf X G (λ_ _ _ _ _ _=>cW λ_=>rfl) ht1 (λF hc=>Xk F hc tb1 T TC mV ng);have yi:au l.prog w K mg base "_law_dividers" ["_law_number"] 1 CT:=yT.cal X G (λ_ _ _ _ _ _=>cW λ_=>rfl) (λF=>Xy F T);have yc:au l.prog w K mg base "field_with" ["field","row"] 2 Cz:=yI.cal X G (λ_ _ _ _ _ _=>bX λ_ _=>rfl) (λF=>Xn F T zu);have mY:au l.prog w K mg base "fields_of" ["width"] 3 (vn P2):=yJ.sf X G (λ_ _ _ _ _ _=>cW λ_=>rfl) lu (λF hc=>Xo F hc tb2 T Du eN yc);have se:au l.prog w K mg base "_law_prime_parts" ["_law_number"] 1 Dc:=y7.cal X G (λ_ _ _ _ _ _=>cW λ_=>rfl) (λF=>XM F T);have yo:au l.prog w K mg base "_law_orders_of" ["_law_parts"] 1 (C_ K):=y6.cal X G (λ_ _ _ _ _ _=>cW λ_=>rfl) (λF=>XJ F T);have yh:au l.prog w K mg base "_law_common" ["_law_one","_law_other"] 1 Cv:=yS.cal X G (λ_ _ _ _ _ _=>bX λ_ _=>rfl) (λF=>Xi F T);have pF:au l.prog w K mg base "is_below" ["order","a","b"] 1 (CP C):=yO.cal X G (λ_ _ _ _ _ _=>f9 λ_ _ _=>rfl) (λF=>Xu F T TC);have yg:au l.prog w K mg base "is_step" ["order","a","b"] 2 (CQ C):=yP.cal X G (λ_ _ _ _ _ _=>f9 λ_ _ _=>rfl) (λF=>Xv F T TC pF);have yp:au l.prog w K mg base "steps" ["order"] 3 (Dd C):=zc.cal X G (λ_ _ _ _ _ _=>cW λ_=>rfl) (λF=>XR F T TC yg);have nh:au l.prog w K mg base "steps_above" ["order"] 4 (vJ C):=zf.cal X G (λ_ _ _ _ _ _=>cW λ_=>rfl) (λF=>XQ F T TC yp);have mZ:au l.prog w K mg base "highest_first" ["order"] 1 (vo C P0):=yM.sf X G (λ_ _ _ _ _ _=>cW λ_=>rfl) ht (λF hc=>Xs F hc tb T TC);have m6:au l.prog w K mg base "join_of_meet" ["order","a","b","c"] 1 (vv C):=yQ.cal X G (λ_ _ _ _ _ _=>PK λ_ _ _ _=>rfl) (λF=>Xw F T TC);have m_:au l.prog w K mg base "meet_of_join" ["order","a","b","c"] 1 (vz C):=y_.cal X G (λ_ _ _ _ _ _=>PK λ_ _ _ _=>rfl) (λF=>XD F T TC);have yr:au l.prog w K mg base "uneven" ["order"] 2 (Df C):=zi.cal X G (λ_ _ _ _ _ _=>cW λ_=>rfl) (λF=>XT F T TC m6 m_);have x9:au l.prog w K mg base "climbs_to" ["order","above","end"] 2 (Cu C P0):=yE.cal X G (λ_ _ _ _ _ _=>f9 λ_ _ _=>rfl) (λF=>Xh F T TC mZ);have ye:au l.prog w K mg base "heights_of" ["order"] 5 (CK C P0):=yL.cal X G (λ_ _ _ _ _ _=>cW λ_=>rfl) (λF=>Xr F T TC nA nh mZ);have yd:au l.prog w K mg base "five_of" ["order","triple"] 2 (CJ K C):=yK.cal X G (λ_ _ _ _ _ _=>bX λ_ _=>rfl) (λF=>Xq F T TC m6 m_);have mX:au l.prog w K mg base "evenness" ["order"] 6 (vk C P0):=yH.cal X G (λ_ _ _ _ _ _=>cW λ_=>rfl) (λF=>Xm F T yr ye yd);have yf:au l.prog w K mg base "how_many" ["order","a","b"] 5 (CN C P0):=yN.cal X G (λ_ _ _ _ _ _=>f9 λ_ _ _=>rfl) (λF=>Xt F T TC dP nh x9);have yn:au l.prog w K mg base "_law_numbers_well" ["_law_number","_law_draws_here"] 9 (CZ K P0 P1):=yZ.cal X G (λ_ _ _ _ _ _=>bX λ_ _=>rfl) (λF=>XH F T TC mV yb mX yf m5 m8 se yo yh);have yq:au l.prog w K mg base "sums_order" ["width"] 8 (De C P2 P3):=zh.sf X G (λ_ _ _ _ _ _=>cW λ_=>rfl) zY (λF hc=>XS F hc tb3 T TC mY ng);have yk:au l.prog w K mg base "_law_fields_well" ["_law_width","_law_draws_here"] 9 (CG K P0 P2 P3):=yV.cal X G (λ_ _ _ _ _ _=>bX λ_ _=>rfl) (λF=>Xp F T TC mY yq mX m5 m8);exact(Xx F T yj ym yi yn yk).mono (by decide)
end My
open PySem PySem.W PyProof.Rows
set_option maxRecDepth 100000 in
set_option maxHeartbeats 0 in
theorem PySem.Challenge.cw_evenclimb_k64_whole_made_orders_holds : PySem.Challenge.rw_evenclimb_k64_whole_made_orders.Holds := by
 w_on;o_law;k_head;(case hw=>w_witness2)
 k_fill
 refine' My.aaX (l:=PySem.Challenge.rw_evenclimb_k64_whole_made_orders) rfl rfl (λw h Y=>⟨PySem.W.km_in_of Y,xB Y _ (List.Mem.tail _ (List.Mem.tail _ (List.Mem.head _))),xB Y _ (List.Mem.tail _ (List.Mem.tail _ (List.Mem.tail _ (List.Mem.head _)))),xB Y _ (List.Mem.tail _ (List.Mem.head _)),xB Y _ (List.Mem.head _)⟩) ?hT ?hT1 ?hT2 ?p4 ?noT ?hne ?F
 case F =>
  intro w mg fa h KX G hmg
  refine' My.all_mk KX G hmg ?tx ?cO ?nC ?nP ?nR ?nJ ?nM ?ht ?ht1 ?lu ?zY ?Ay ?Az ?Bc ?Bd ?Bb ?Ap ?sQ ?sP ?sY ?sS ?sW ?sZ ?sM ?tu ?sJ ?tq ?tD ?sV ?sO ?sN ?sU ?tm ?yW ?yU ?yX ?y8 ?y9 ?za ?yF ?yG ?yT ?yI ?yJ ?y7 ?y6 ?yS ?yO ?yP ?zc ?zf ?yM ?yQ ?y_ ?zi ?yE ?yL ?yK ?yH ?yN ?yZ ?zh ?yV ?yR
  (case tx=>(refine' My.mQ.mk' ?l1 ?l2 ?l3 ?l4 ?l5 ?l6 ?l7 ?l8 ?l9 ?l10 ?Ai ?Aj ?Ak ?Al ?Am ?t7 ?m);(case l1=>k_is);(case l2=>k_is);(case l3=>k_is);(case l4=>k_is);(case l5=>k_is);(case l6=>k_is);(case l7=>k_is);(case l8=>k_is);(case l9=>k_is);(case l10=>k_is);(case Ai=>k_is);(case Aj=>k_is);(case Ak=>k_is);(case Al=>k_is);(case Am=>k_is);(case t7=>k_is);(case m=>k_is);skip)
  (case cO=>(refine' My.ClsAt.mk' ?ns ?pg ?hd ?po ?sa ?mk ?kc ?a ?i ?l ?c ?k);(case ns=>k_is);(case pg=>k_is);(case hd=>k_is);(case po=>k_is);(case sa=>k_is);(case mk=>k_is);(case kc=>k_is);(case a=>k_is);(case i=>k_is);(case l=>k_is);(case c=>k_is);(case k=>k_is))
  (case nC|nP|nR|nJ|nM=>k_is)
  (case ht|ht1|lu|zY=>((refine' My.vO ?a ?l ?c ?l2 ?v);(case a=>k_is);(case l=>k_is);(case c=>exact rfl);(case l2=>k_is);(case v=>exact rfl)))
  (case Ay|Az|Bc|Bd|Bb|Ap=>k_is)
  (case sQ|sP|sY|sS|sW|sZ|sM|tu|sJ|tq|tD|sV|sO|sN|sU|tm|yW|yU|yX=>(refine' My.aE.mk' ?a ?l ?c ?k);(case a=>k_is);(case l=>k_is);(case c=>k_is);(case k=>k_is))
  (case y8|y9=>(refine' My.MethAt.mk' ?a ?i ?l ?c ?k);(case a=>k_is);(case i=>k_is);(case l=>k_is);(case c=>k_is);(case k=>k_is))
  (case za|yF|yG|yT|yI|yJ|y7|y6|yS|yO|yP|zc|zf|yM|yQ|y_|zi|yE|yL|yK|yH|yN|yZ|zh|yV|yR=>(refine' My.aE.mk' ?a ?l ?c ?k);(case a=>k_is);(case l=>k_is);(case c=>k_is);(case k=>k_is))
 case hT=>(intro w;kernel_rfl)
 case hT1=>(intro w;kernel_rfl)
 case hT2=>(intro w;kernel_rfl)
 case p4=>(intro w;kernel_rfl)
 case hne=>decide
 case noT=>(intro w;kernel_rfl)
