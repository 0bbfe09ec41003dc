import PyProof.Rows.All
import KE.KNest
import Lean
import OpenK.AllK
import PyProof.EqAt
import PyProof.EqKinds
import PyProof.NeKinds
import PyProof.Rows.Range3
import PyProof.Rows.SetFrom
import PyProof.TupleCall
import Wide.All
import Wide.FinOn
import PySem.Challenge.RW_evenclimb_k57_whole_orders_put_together
set_option Elab.async false
set_option linter.all false
set_option maxRecDepth 100000
set_option maxHeartbeats 8000000
set_option bootstrap.genMatcherCode false
noncomputable section
noncomputable def ah:=@PySem.wpAny_bind
noncomputable def aq:=@if_neg
noncomputable def az:=@PyProof.Rows.wpS_bind
noncomputable def aC:=@if_pos
noncomputable def aG:=@List.length_map
noncomputable def aI:=@List.getElem?_eq_getElem
noncomputable def aK:=@PySem.wpAny_pure
noncomputable def aP:=@PyProof.Rows.wpS_pure
noncomputable def aU:=@PySem.Heap.get?_push_of_some
noncomputable def aY:=@Nat.le_refl
noncomputable def a9:=@PySem.Heap.lt_size
noncomputable def bh:=@List.getD_eq_getElem?_getD
noncomputable def bu:=@Int.toNat_natCast
noncomputable def bC:=@List.mem_cons
noncomputable def bD:=@List.getElem?_eq_some_iff
noncomputable def bH:=@Bool.and_eq_true
noncomputable def bI:=@Nat.ne_of_lt
noncomputable def bJ:=@PySem.Heap.get?_push_size
noncomputable def bT:=@List.mem_cons_of_mem
noncomputable def b_:=@PySem.PassesOwn.never
noncomputable def cu:=@List.mem_map
noncomputable def cw:=@List.size_toArray
noncomputable def cC:=@List.mem_cons_self
noncomputable def cE:=@List.map_cons
noncomputable def cK:=@PySem.Paired.length
noncomputable def cM:=@List.mem_range
noncomputable def cT:=@List.getElem?_map
noncomputable def cU:=@List.length_append
noncomputable def cV:=@List.mem_of_getElem?
noncomputable def cW:=@Nat.zero_le
noncomputable def cZ:=@Ne.symm
noncomputable def dg:=@Int.zero_add
noncomputable def dh:=@List.length_range
noncomputable def di:=@Nat.le_trans
noncomputable def dr:=@PyProof.Rows.wpS_forRange
noncomputable def du:=@PyProof.Rows.wpS_mono
noncomputable def dE:=@Nat.lt_of_lt_of_le
noncomputable def dF:=@PySem.boot_len
noncomputable def dJ:=@Bool.false_ne_true
noncomputable def dU:=@Bool.true_and
noncomputable def dW:=@Option.some.inj
noncomputable def d6:=@List.map_map
noncomputable def d7:=@List.mem_filter
noncomputable def d8:=@PySem.W.mg_none_of
noncomputable def eh:=@decide_eq_true
noncomputable def eX:=@Bool.eq_iff_iff
noncomputable def eY:=@PySem.Heap.size_push
noncomputable def fz:=@List.length_cons
noncomputable def fA:=@List.not_mem_nil
noncomputable def fH:=@decide_eq_false
noncomputable def fL:=@or_false
noncomputable def fQ:=@List.mem_append_right
noncomputable def fS:=@List.nodup_cons
noncomputable def fT:=@List.sum_cons
noncomputable def gw:=@Array.length_toList
noncomputable def gF:=@List.lookup_cons
noncomputable def gG:=@Nat.le_of_lt
noncomputable def gH:=@PySem.F.plainAttrs_list
noncomputable def gX:=@Bool.false_and
noncomputable def gZ:=@List.map_congr_left
noncomputable def g6:=@Nat.lt_irrefl
noncomputable def g9:=@Nat.mul_comm
noncomputable def g_:=@Nat.ne_of_gt
noncomputable def hX:=@PyProof.Rows.wpS_get
noncomputable def hZ:=@PySem.codeAny_mono
noncomputable def h6:=@PySem.wpAny_mono
noncomputable def h7:=@PySem.wpAny_setField_rec
noncomputable def ic:=@beq_iff_eq
noncomputable def iH:=@List.getElem?_append_right
noncomputable def iI:=@List.length_filter_le
noncomputable def iJ:=@List.map_append
noncomputable def iK:=@List.mem_append
noncomputable def iM:=@PySem.W.kia_one
noncomputable def iN:=@PySem.mem_of_lookup
noncomputable def iO:=@PySem.wpAny_call_entry
noncomputable def iP:=@PySem.wpAny_field
noncomputable def iQ:=@PySem.wpAny_holding
noncomputable def jg:=@List.flatMap_cons
noncomputable def jh:=@List.getElem?_append_left
noncomputable def ji:=@List.getElem?_range
noncomputable def jk:=@List.pairwise_map
noncomputable def jn:=@PyProof.Rows.wpS_modify
noncomputable def jo:=@PySem.wpAny_seqItems
noncomputable def jH:=@if_false
noncomputable def jI:=@if_true
noncomputable def jX:=@Array.getElem?_eq_getElem
noncomputable def j4:=@List.ext_getElem
noncomputable def j5:=@List.length_take
noncomputable def j6:=@List.mem_singleton
noncomputable def j7:=@Nat.succ_mul
noncomputable def j9:=@PySem.wpAny_truthy_bool
noncomputable def k0:=@Bool.false_eq_true
noncomputable def k8:=@List.getElem_of_mem
noncomputable def k_:=@PySem.F.called_set
noncomputable def lg:=@PySem.codeAny_builtin
noncomputable def lh:=@PySem.wpAny_Call_Name_kw
noncomputable def ll:=@PySem.wpAny_attempt
noncomputable def lq:=@PySem.wpAny_callSpecial?_slot
noncomputable def lr:=@PySem.wpAny_rule
noncomputable def mH:=@Int.one_mul
noncomputable def mK:=@List.filterMap_cons
noncomputable def mL:=@List.getElem_mem
noncomputable def mM:=@List.mem_flatMap
noncomputable def mN:=@List.take_length
noncomputable def mO:=@Nat.mul_assoc
noncomputable def mR:=@PyProof.Rows.callWith_type1
noncomputable def mS:=@PySem.F.slot_list_append
noncomputable def mU:=@PySem.wpAny_passesOwn
noncomputable def mY:=@beq_eq_false_iff_ne
noncomputable def oo:=@of_decide_eq_true
noncomputable def oJ:=@Array.toList_push
noncomputable def oK:=@Bool.not_eq_true'
noncomputable def oP:=@Decidable.byContradiction
noncomputable def oR:=@Int.emod_nonneg
noncomputable def oX:=@List.all_eq_true
noncomputable def oY:=@List.any_eq_true
noncomputable def oZ:=@List.append_nil
noncomputable def o5:=@List.find?_cons
noncomputable def o6:=@List.length_drop
noncomputable def o7:=@List.range_succ
noncomputable def o8:=@List.take_add_one
noncomputable def o9:=@List.take_of_length_le
noncomputable def pe:=@Nat.and_assoc
noncomputable def ph:=@Nat.lt_succ_self
noncomputable def pk:=@Nat.mod_lt
noncomputable def pq:=@Nat.sub_self
noncomputable def pz:=@Nat.zero_add
noncomputable def pB:=@PyProof.Rows.listUpdate_at
noncomputable def pC:=@PySem.F.type_list_append
noncomputable def pD:=@PySem.Heap.get?_update_ne
noncomputable def pE:=@PySem.W.mg_of
noncomputable def pF:=@PySem.wpAny_call
noncomputable def pG:=@PySem.wpAny_newList
noncomputable def pH:=@PySem.wpAny_newObj_type
noncomputable def pI:=@PySem.wpAny_setState_of
noncomputable def qf:=@decide_eq_true_iff
noncomputable def rT:=@List.length_pos_of_mem
noncomputable def rU:=@List.nodup_range
noncomputable def rV:=@Nat.le_of_eq
noncomputable def rW:=@Nat.lt_of_le_of_lt
noncomputable def rX:=@Nat.lt_succ_of_lt
noncomputable def rY:=@Nat.pos_of_ne_zero
noncomputable def rZ:=@Nat.pow_le_pow_right
noncomputable def r0:=@PyProof.Rows.get?_update_seq
noncomputable def r9:=@PySem.F.slot_list_extend
noncomputable def sf:=@PySem.Heap.get?_update_self
noncomputable def si:=@PySem.wpAny_pyIter_list
noncomputable def sj:=@PySem.wpAny_setEntries_of
noncomputable def sD:=@beq_self_eq_true
noncomputable def tj:=@decide_eq_false_iff_not
noncomputable def tU:=@getElem?_pos
noncomputable def wV:=@Array.getElem?_toList
noncomputable def wW:=@Classical.choose_spec
noncomputable def w6:=@Int.emod_lt_of_pos
noncomputable def w9:=@List.any_cons
noncomputable def w_:=@List.cons.injEq
noncomputable def xc:=@List.filter_congr
noncomputable def xg:=@List.filter_map
noncomputable def xh:=@List.getElem?_set_ne
noncomputable def xi:=@List.length_singleton
noncomputable def xk:=@List.map_drop
noncomputable def xl:=@List.map_nil
noncomputable def xn:=@List.mem_append_left
noncomputable def xo:=@List.of_mem_zip
noncomputable def xq:=@List.zip_cons_cons
noncomputable def xv:=@Nat.add_comm
noncomputable def xx:=@Nat.div_lt_of_lt_mul
noncomputable def xA:=@Nat.le_of_not_lt
noncomputable def xB:=@Nat.le_succ
noncomputable def xC:=@Nat.lt_trans
noncomputable def xD:=@Nat.min_eq_left
noncomputable def xE:=@Nat.sub_zero
noncomputable def xF:=@Nat.two_pow_pos
noncomputable def xG:=@Option.some.injEq
noncomputable def xH:=@PySem.F.slot_bool_hash
noncomputable def xI:=@PySem.F.slot_list_insert
noncomputable def xJ:=@PySem.F.slot_tuple_iterator_next
noncomputable def xK:=@PySem.F.slot_zip_next
noncomputable def xM:=@PySem.F.type_list_extend
noncomputable def xN:=@PySem.Heap.SameBut.update
noncomputable def xO:=@PySem.Heap.get?_update_other
noncomputable def xP:=@PySem.W.callWith_K
noncomputable def xQ:=@PySem.plainId_quiet
noncomputable def xR:=@PySem.wpAny_execs_nil
noncomputable def xS:=@PySem.wpAny_fieldsOf
noncomputable def xT:=@PySem.wpAny_isInstance
noncomputable def xU:=@PySem.wpAny_letGo
noncomputable def xV:=@PySem.wpAny_newTuple
noncomputable def xW:=@PySem.wpAny_onRaise
noncomputable def Fl:=@Array.getElem?_eq_none
noncomputable def Fm:=@Array.getElem_mem
noncomputable def Fn:=@Array.size_map
noncomputable def Fq:=@Bool.and_true
noncomputable def Fs:=@Bool.or_eq_true
noncomputable def Fz:=@Int.fdiv_eq_ediv_of_nonneg
noncomputable def FG:=@Int.natCast_ediv
noncomputable def FH:=@Int.natCast_inj
noncomputable def FP:=@List.filter_append
noncomputable def FQ:=@List.flatMap_append
noncomputable def FT:=@List.forIn_cons
noncomputable def FV:=@List.getElem?_set_self
noncomputable def FW:=@List.getElem_inj
noncomputable def FX:=@List.length_set
noncomputable def FZ:=@List.map_take
noncomputable def Gd:=@List.nodup_append
noncomputable def Ge:=@List.pairwise_iff_getElem
noncomputable def Gf:=@List.perm_append_singleton
noncomputable def Gg:=@List.reverse_reverse
noncomputable def Gh:=@List.sum_append
noncomputable def Gi:=@List.sum_nil
noncomputable def Gj:=@Nat.and_comm
noncomputable def Gk:=@Nat.and_self
noncomputable def Gm:=@Nat.div_add_mod
noncomputable def Gq:=@Nat.div_eq_of_lt
noncomputable def Gr:=@Nat.eq_of_testBit_eq
noncomputable def Gs:=@Nat.min_eq_right
noncomputable def Gu:=@Nat.min_self
noncomputable def Gv:=@Nat.mod_eq_of_lt
noncomputable def Gw:=@Nat.mul_le_mul
noncomputable def GD:=@Nat.mul_le_mul_right
noncomputable def GF:=@Nat.testBit_and
noncomputable def GJ:=@Option.map_some
noncomputable def GL:=@PyProof.Rows.F.plain_set_update_loop
noncomputable def GQ:=@PySem.Around.under_plainId
noncomputable def GR:=@PySem.Code.quiet_builtin
noncomputable def GX:=@PySem.F.slot_dict_get
noncomputable def GZ:=@PySem.F.type_list_insert
noncomputable def G5:=@PySem.SeqAt.EqAt.bool_bool
noncomputable def G6:=@PySem.SeqAt.EqAt.of_refs
noncomputable def G7:=@PySem.SeqAt.EqAt.same
noncomputable def G8:=@PySem.Value.isInt_shape
noncomputable def G9:=@PySem.W.km_tabs_of
noncomputable def G_:=@PySem.W.plainGet_of
noncomputable def Hf:=@PySem.wpAny_askSetting
noncomputable def Hg:=@PySem.wpAny_ite_split
noncomputable def Hh:=@PySem.wpAny_specialOf
noncomputable def Hi:=@PySem.wpAny_updateSeq_pair
noncomputable def Ir:=@decide_eq_decide
noncomputable def QL:=@Array.mem_iff_getElem
noncomputable def QM:=@Classical.byContradiction
noncomputable def QZ:=@List.dropLast_cons_cons
noncomputable def Q0:=@List.eq_nil_of_length_eq_zero
noncomputable def Q5:=@List.filter_cons_of_pos
noncomputable def Q6:=@List.filter_eq_nil_iff
noncomputable def Q7:=@List.findIdx?_eq_none_iff
noncomputable def Q8:=@List.flatMap_singleton
noncomputable def Q9:=@List.getElem?_cons_zero
noncomputable def Q_:=@List.getElem?_eq_none
noncomputable def Rc:=@List.getElem?_replicate
noncomputable def Rf:=@List.getElem?_take_of_lt
noncomputable def Rg:=@List.getLast?_cons_cons
noncomputable def Rh:=@List.length_eraseIdx_of_lt
noncomputable def Ri:=@List.length_replicate
noncomputable def Rj:=@List.mem_or_eq_of_mem_set
noncomputable def Rk:=@List.pairwise_lt_range
noncomputable def Rm:=@List.pairwise_singleton
noncomputable def Rn:=@List.perm_ext_iff_of_nodup
noncomputable def Ro:=@List.take_append_drop
noncomputable def Rp:=@List.take_succ_eq_append_getElem
noncomputable def Rq:=@Nat.add_mul_div_right
noncomputable def Rr:=@Nat.add_mul_mod_self_right
noncomputable def Rt:=@Nat.le_mul_of_pos_left
noncomputable def Ru:=@Nat.le_mul_of_pos_right
noncomputable def Rv:=@Nat.testBit_eq_decide_div_mod_eq
noncomputable def Rw:=@Nat.testBit_lt_two_pow
noncomputable def RC:=@PySem.F.args_dict_get_2
noncomputable def RD:=@PySem.F.args_tuple_iterator_next_1
noncomputable def RG:=@PySem.F.entry_dict_get
noncomputable def RJ:=@PySem.F.entry_tuple_iterator_next
noncomputable def RK:=@PySem.F.slot_tuple_count
noncomputable def RL:=@PySem.W.cellsFrom_some
noncomputable def RM:=@PySem.W.methodCall_KW

set_option genSizeOf false
namespace L2
open PySem PySem.Spec PyProof.Rows
abbrev Key:=Sum Int Str
noncomputable def n_:Int->Value->Bool
 |k,.bool b=>k==(if b then 1 else 0)
 |_,_=>false
noncomputable def ku:Key->Value->Bool
 |.inl k,v=>Value.isInt k v||n_ k v
 |.inr x,v=>Value.isStrOf x v
noncomputable def Xj(w:World):Key->Int
 |.inl k=>hashInt k
 |.inr x=>hashStr w x
theorem W8{k:Int}{v:Value}(h:n_ k v=true):∃b:Bool,k=(if b then 1 else 0)/\v=Value.bool b:=by
 cases v with
 |bool b=>exact⟨b,by simpa[n_]using h,rfl⟩
 |_=>simp[n_]at h
theorem iu:∀{k:Key} {v:Value},ku k v=true->(∃i t,k=Sum.inl i/\v=Value.int i t)\/(∃x t,k=Sum.inr x/\v=Value.str x t)\/(∃b:Bool,k=Sum.inl (if b then 1 else 0)/\v=Value.bool b)
 |.inl i,v,h=>by
  rcases(Fs _ _).mp (show(Value.isInt i v||n_ i v)=true from h)with h|h
  ·obtain⟨t,e⟩:=G8 (k:=i) (v:=v) h
   exact .inl ⟨i,t,rfl,e⟩
  ·obtain⟨b,e,e'⟩:=W8 h
   exact .inr (.inr ⟨b,by rw[e],e'⟩)
 |.inr x,v,h=>by
  obtain⟨t,e⟩:=Value.isStrOf_shape (x:=x) (v:=v) h;exact .inr (.inl ⟨x,t,rfl,e⟩)
theorem Xl(i:Int)(t:Tok):ku (.inl i) (.int i t)=true:=by simp[ku,Value.isInt]
theorem Xm(x:Str)(t:Tok):ku (.inr x) (.str x t)=true:=by simp[ku,Value.isStrOf]
theorem Xk(b:Bool):ku (.inl (if b then 1 else 0)) (.bool b)=true:=by cases b<;>simp[ku,n_]
theorem Vx{prog:Program}{w:World}{A:Around}{E:Value->Shared->Prop}{s:Shared}{b:Bool}{Q:Int->Shared->Prop}(h:Q (hashInt (if b then 1 else 0)) {s with toks:=s.toks+1}):
  wpAny (model prog w) A (pyHash (.bool b)) Q E s:=by
 have hr:=rawHash_range (if b then 1 else 0);have hT:s.TypeIs (.bool b) "bool" :=rfl;unfold pyHash;have hv:[Value.bool b].any Value.onHeap=false:=rfl;refine ah ?_;rw[cRoomFor,aq (by rw[hv];exact dJ)];refine aK ?_;refine ah (Hh hT xH.lookup ?_);show wpAny _ _ (if(some (Value.builtin "int.__hash__")==some Value.none)=true then _ else _) Q E s;rw[aq (by rw[beq_builtin_none];exact dJ)];refine ah (Hh hT xH.lookup ?_);show wpAny _ _ (callSpecialIfBoundUnlessNone? (.bool b) "__hash__" _>>=_) Q E s;refine ah (wpAny_callSpecialIfBoundUnlessNone?_slot hT xH
  (iO xH hT entry_int_hash
   (show wpAny _ _ (do ret (<- mkInt (rawHash (if b then 1 else 0)))) _ _ s from wpAny_ret_mkInt ?_) (args_int_hash _)))
 show wpAny _ _ (if(decide (-(2:Int) ^ 63<=rawHash (if b then 1 else 0))&&decide (rawHash (if b then 1 else 0)<2 ^ 63))=true then _ else _) Q E _;rw[aC (by rw[eh hr.1,eh hr.2];rfl)];exact aK h
theorem uy(a b:Int):decide ((Sum.inl a:Key)=Sum.inl b)=(a==b):=by
 by_cases e:a=b
 ·subst e;simp
 ·have h:¬ (Sum.inl a:Key)=Sum.inl b:=λq=>e (Sum.inl.inj q)
  rw[fH h];exact(mY.mpr e).symm
theorem Xo(a b:Str):decide ((Sum.inr a:Key)=Sum.inr b)=decide (a=b):=by
 by_cases e:a=b
 ·subst e;simp
 ·have h:¬ (Sum.inr a:Key)=Sum.inr b:=λq=>e (Sum.inr.inj q)
  rw[fH h,fH e]
theorem KD(a:Int)(b:Str):decide ((Sum.inl a:Key)=Sum.inr b)=false:=fH (λq=>nomatch q)
theorem KH(a:Str)(b:Int):decide ((Sum.inr a:Key)=Sum.inl b)=false:=fH (λq=>nomatch q)
noncomputable def eQ(prog:Program)(w:World):PySem.KeyKind prog w Key where
 is:=ku
 hash:=Xj w
 inj:=λv a b ha hb=>by
  rcases iu ha with⟨i,t,rfl,rfl⟩|⟨x,t,rfl,rfl⟩|⟨x,rfl,rfl⟩
  ·rcases iu hb with⟨j,u,rfl,e⟩|⟨y,u,rfl,e⟩|⟨y,rfl,e⟩
   ·injection e with e1 _;rw[e1]
   ·exact nomatch e
   ·exact nomatch e
  ·rcases iu hb with⟨j,u,rfl,e⟩|⟨y,u,rfl,e⟩|⟨y,rfl,e⟩
   ·exact nomatch e
   ·injection e with e1 _;rw[e1]
   ·exact nomatch e
  ·rcases iu hb with⟨j,u,rfl,e⟩|⟨y,u,rfl,e⟩|⟨y,rfl,e⟩
   ·exact nomatch e
   ·exact nomatch e
   ·injection e with e1;rw[e1]
 byValue:=λk v h=>by
  rcases iu h with⟨i,t,rfl,rfl⟩|⟨x,t,rfl,rfl⟩|⟨x,rfl,rfl⟩<;>rfl
 pyHash:=λhv h=>by
  rcases iu hv with⟨i,t,rfl,rfl⟩|⟨x,t,rfl,rfl⟩|⟨x,rfl,rfl⟩
  ·exact wpAny_pyHash_int h
  ·exact wpAny_pyHash_str h
  ·exact Vx h
 eqBool:=λhu hv h=>by
  rcases iu hu with⟨i,t,rfl,rfl⟩|⟨x,t,rfl,rfl⟩|⟨x,rfl,rfl⟩
  ·rcases iu hv with⟨j,u,rfl,rfl⟩|⟨y,u,rfl,rfl⟩|⟨y,rfl,rfl⟩
   ·rw[uy]at h;exact wpAny_eqBool_int h
   ·rw[KD]at h;exact SeqAt.EqAt.int_str i t y u _ _ _ _ h
   ·rw[uy]at h;exact SeqAt.EqAt.int_bool i t y _ _ _ _ h
  ·rcases iu hv with⟨j,u,rfl,rfl⟩|⟨y,u,rfl,rfl⟩|⟨y,rfl,rfl⟩
   ·rw[KH]at h;exact SeqAt.EqAt.str_int x t j u _ _ _ _ h
   ·rw[Xo]at h;exact wpAny_eqBool_str h
   ·rw[KH]at h;exact SeqAt.EqAt.str_bool x t y _ _ _ _ h
  ·rcases iu hv with⟨j,u,rfl,rfl⟩|⟨y,u,rfl,rfl⟩|⟨y,rfl,rfl⟩
   ·rw[uy]at h;exact SeqAt.EqAt.bool_int x j u _ _ _ _ h
   ·rw[KD]at h;exact SeqAt.EqAt.bool_str x y u _ _ _ _ h
   ·rw[uy]at h
    have e:((if x then(1:Int)else 0)==(if y then(1:Int)else 0))=(x==y):=by cases x<;>cases y<;>rfl
    rw[e]at h;exact G5 x y _ _ _ _ h
 «strs»:=λk x t v h=>by
  rcases iu h with⟨i,u,rfl,e⟩|⟨y,u,rfl,e⟩|⟨y,rfl,e⟩
  ·exact nomatch e
  ·injection e with e1 _
   subst e1;cases v<;>rfl
  ·exact nomatch e
theorem X7(prog:Program)(w:World)(i:Int)(t:Tok):(eQ prog w).is (.inl i) (.int i t)=true:=Xl i t
theorem X8(prog:Program)(w:World)(x:Str)(t:Tok):(eQ prog w).is (.inr x) (.str x t)=true:=Xm x t
inductive V where
 |non|bl (b:Bool)|int (i:Int)|str (x:Str)|gN (b:Array UInt8)|flt (b:UInt64)|ref (a:Addr)|ty (n:String)
 deriving DecidableEq
noncomputable def RelV:V->Value->Prop
 |.non,u=>u=Value.none
 |.bl b,u=>u=Value.bool b
 |.int i,u=>∃t,u=Value.int i t
 |.str x,u=>∃t,u=Value.str x t
 |.gN b,u=>∃t,u=Value.bytes b t
 |.flt b,u=>∃t,u=Value.float b t
 |.ref a,u=>u=Value.ref a
 |.ty n,u=>u=Value.type n
abbrev Vals:List V->List Value->Prop:=Paired RelV
theorem Vals.length{xs:List V}{us:List Value}(r:Vals xs us):xs.length=us.length:=cK r
theorem Vals.get:∀{xs:List V} {us:List Value} {i:Nat} {x:V},Vals xs us->xs[i]?=some x->∃u,us[i]?=some u/\RelV x u
 |_,_,_,_,.nil,e=>by simp at e
 |_,_,0,_,.cons r _,e=>by simp at e;subst e;exact⟨_,rfl,r⟩
 |_,_,i+1,x,.cons _ t,e=>by
  obtain⟨u,h1,h2⟩:=Vals.get (i:=i) (x:=x) t (by simpa using e);exact⟨u,by simpa using h1,h2⟩
theorem Vals.set{x:V}{u:Value}(r:RelV x u):∀{xs:List V} {us:List Value} (i:Nat),Vals xs us->Vals (xs.set i x) (us.set i u)
 |_,_,_,.nil=>.nil
 |_,_,0,.cons _ t=>.cons r t
 |_,_,i+1,.cons q t=>.cons q (Vals.set r i t)
theorem Vals.append:∀{xs ys:List V} {us ws:List Value},Vals xs us->Vals ys ws->Vals (xs++ys) (us++ws)
 |_,_,_,_,.nil,s=>s
 |_,_,_,_,.cons r t,s=>.cons r (Vals.append t s)
theorem Vals.take:∀{xs:List V} {us:List Value} (n:Nat),Vals xs us->Vals (xs.take n) (us.take n)
 |_,_,0,_=>.nil
 |_,_,_+1,.nil=>.nil
 |_,_,n+1,.cons r t=>.cons r (Vals.take n t)
theorem Vals.drop:∀{xs:List V} {us:List Value} (n:Nat),Vals xs us->Vals (xs.drop n) (us.drop n)
 |_,_,0,r=>r
 |_,_,_+1,.nil=>.nil
 |_,_,n+1,.cons _ t=>Vals.drop n t
noncomputable def eF:Option V->Option Value->Prop
 |some v,some u=>RelV v u
 |none,none=>True
 |_,_=>False
noncomputable def KV{κ:Type}:List (κ × V)->List (κ × Value)->Prop:=Paired λ(p:κ × V) (q:κ × Value)=>p.1=q.1/\RelV p.2 q.2
noncomputable def kV:Key->V
 |.inl i=>.int i
 |.inr x=>.str x
inductive HO where
 |lst (xs:List V)
 |tup (xs:List V)
 |dK (kvs:List (Key × V))|dT (kvs:List (List Key × V))
 |set (S:Int->Bool) (n:Nat)
 |ins (C dx:Addr) (fs:List (Str × V))
 |own (x:Addr)
 |xd (fs:List (Str × V))
 |met (f x:Addr)
 |rng (lo hi:Int)
 |dk (o:Obj) (u:HO)
 |mC (ps:Array Value)
 |lam (pos:Pos) (qual:Str)
 |ext (φ:Heap->Prop)
noncomputable def Kz(k:Key)(v:V):Prop:=v=kV k\/∃b:Bool,v = .bl b/\k = .inl (if b then 1 else 0)
abbrev Bc:List Key->List V->Prop:=Paired Kz
noncomputable def jq(H:Addr->Option HO)(b:Addr)(ks:List Key):Prop:=∃ws,Bc ks ws/\H b=some (.tup ws)
abbrev Hp:=Addr->Option HO
noncomputable def upd(H:Hp)(a:Addr)(o:HO):Hp:=λb=>if b=a then some o else H b
theorem aA{H:Hp}{a:Addr}{o:HO}:upd H a o a=some o:=by unfold upd;rw[aC rfl]
theorem aJ{H:Hp}{a b:Addr}{o:HO}(h:b≠a):upd H a o b=H b:=by unfold upd;rw[aq h]
theorem Fd{H:Hp}{a:Addr}{o u:HO}:upd (upd H a o) a u=upd H a u:=by
 funext b;unfold upd;split<;>rfl
theorem kB{H:Hp}{a b:Addr}{o u:HO}(h:H a=some o)(h':H b=some u)(d:o≠u):a≠b:=by
 intro e;subst e;rw[h]at h';exact d (dW h')
theorem bO{H:Hp}{a b:Addr}{o:HO}(h:H a=some o)(h':H b=none):a≠b:=by
 intro e;subst e;rw[h]at h';cases h'
section
variable (P:Program) (w:World)
noncomputable def bQ(H:Hp)(h:Heap)(a:Addr):HO->Prop
 |.lst xs=>xs.length<=sizeLine/\∃(its:List Value) (n:Nat),Vals xs its/\h.get? a=some {cls:=.type "list", data:=.seq its.toArray n}
 |.tup xs=>xs.length<=sizeLine/\∃its:List Value,Vals xs its/\IsTup h a its.toArray/\∃o,h.get? a=some o/\o.dict=none
 |.dK kvs=>kvs.length<=sizeLine/\(a==sysModules)=false/\∃vs,KV kvs vs/\h.DictOf (eQ P w) a vs
 |.dT kvs=>kvs.length<=sizeLine/\(a==sysModules)=false/\∃xs:List (List Key × Addr × Value),
   Paired (λ(p:List Key × V) (q:List Key × Addr × Value)=>p.1=q.1/\jq H q.2.1 p.1/\RelV p.2 q.2.2) kvs xs /\
   ∃o es ep,h.get? a=some o/\o.ExactDict/\o.data = .dict es ep/\es.toList=xs.map (entryOfKey (tupleKind (eQ P w)))/\(xs.map (·.1)).Nodup
 |.set S n=>h.SetOf (intKind P w) a S n
 |.ins C dx fs=>H dx=some (.own a)/\fs.length<=1000/\dx≠a/\h.get? a=some (W.instObj C dx) /\
   ∃mA,h.Ns1 dx mA/\(∀f,eF (fs.lookup f) (mA f))/\PySem.Within mA (fs.map (·.1))
 |.own _=>∃o,h.get? a=some o
 |.xd fs=>∃mA,h.Ns1 a mA/\∀f,eF (fs.lookup f) (mA f)
 |.rng lo hi=>∃t u v,h.get? a=some {cls:=.type "range", data:=.fields #[.int lo t,.int hi u,.int 1 v]}
 |.dk o u=>h.get? a=some o/\bQ H h a u
 |.mC ps=>h.get? a=some {cls:=.none,data:=.fields ps}
 |.lam pos qual=>∃ps,h.get? a=some {cls:=.none,data:=.fields ps}/\TriplesOk ps.toList/\∀cv,codeAmong pos ps.toList=some cv->∃c o u vs t,cv = .ref c/\H c=some (.dk o u)/\o.data = .fields vs/\vs[1]?=some (.str qual t)
 |.met f x=>h.get? a=some (W.methodObj (.ref f) (.ref x))
 |.ext φ=>φ h/\(∃o,h.get? a=some o)/\∀h1 h2:Heap,φ h1->(∀o,h1.get? a=some o->h2.get? a=some o)->φ h2
noncomputable def b9(H:Hp)(h:Heap):Prop:=∀a o,H a=some o->bQ P w H h a o
end
section
variable {P:Program} {w:World} {H H':Hp} {h h':Heap} {a:Addr} {o:HO}
theorem bQ.lt(x:bQ P w H h a o):a<h.objs.size:=by
 cases o with
 |lst xs=>obtain⟨_,_,_,_,e⟩:=x;exact a9 e
 |tup xs=>obtain⟨_,_,_,p,_⟩:=x;exact p.lt
 |dK kvs=>obtain⟨_,_,_,_,o,_,_,e,_⟩:=x;exact a9 e
 |dT kvs=>obtain⟨_,_,_,_,o,_,_,e,_⟩:=x;exact a9 e
 |set S n=>obtain⟨o,_,_,_,e,_⟩:=x;exact a9 e
 |ins C dx fs=>obtain⟨_,_,_,e,_⟩:=x;exact a9 e
 |own y=>obtain⟨_,e⟩:=x;exact a9 e
 |xd fs=>obtain⟨_,⟨_,_,_,e,_⟩,_⟩:=x;exact a9 e
 |rng lo hi=>obtain⟨_,_,_,e⟩:=x;exact a9 e
 |dk ob u=>obtain⟨e,_⟩:=x;exact a9 e
 |mC ps=>exact a9 (show h.get? a=some _ from x)
 |lam pos qual=>obtain⟨_,e,_⟩:=x;exact a9 e
 |met f y=>exact a9 (show h.get? a=some _ from x)
 |ext φ=>obtain⟨_,⟨_,e⟩,_⟩:=x;exact a9 e
theorem Paired.dB{α β:Type}{F G:α->β->Prop}:∀{l₁:List α} {l₂:List β},Paired F l₁ l₂->(∀a b,F a b->G a b)->Paired G l₁ l₂
 |_,_,.nil,_=>.nil
 |_,_,.cons r t,f=>.cons (f _ _ r) (Paired.dB t f)
theorem bQ.stay(x:bQ P w H h a o)(k:∀b u,(b=a\/H b=some (.own a))->h.get? b=some u->h'.get? b=some u)(ho:∀b,H b=some (.own a)->H' b=some (.own a))(ht:∀b xs,H b=some (.tup xs)->H' b=some (.tup xs))(hz:∀b ob u,H b=some (.dk ob u)->H' b=some (.dk ob u)):bQ P w H' h' a o:=by
 induction o with
 |lst xs=>obtain⟨z,its,n,r,e⟩:=x;exact⟨z,its,n,r,k _ _ (.inl rfl) e⟩
 |tup xs=>obtain⟨z,its,r,⟨ob,e,c⟩,od,e2,d⟩:=x;exact⟨z,its,r,⟨ob,k _ _ (.inl rfl) e,c⟩,od,k _ _ (.inl rfl) e2,d⟩
 |dK kvs=>obtain⟨z,y,vs,r,ob,es,ep,e,c⟩:=x;exact⟨z,y,vs,r,ob,es,ep,k _ _ (.inl rfl) e,c⟩
 |dT kvs =>
  obtain⟨z,y,xs,r,ob,es,ep,e,c⟩:=x;exact⟨z,y,xs,Paired.dB r λp q z=>⟨z.1,(let⟨ws,k1,k2⟩:=z.2.1;⟨ws,k1,ht _ _ k2⟩),z.2.2⟩,ob,es,ep,k _ _ (.inl rfl) e,c⟩
 |set S n=>obtain⟨ob,es,ep,t,e,c⟩:=x;exact⟨ob,es,ep,t,k _ _ (.inl rfl) e,c⟩
 |ins C dx fs =>
  obtain⟨d,z,ne,e,mA,⟨od,es,ep,e2,c⟩,r⟩:=x;exact⟨ho _ d,z,ne,k _ _ (.inl rfl) e,mA,⟨od,es,ep,k _ _ (.inr d) e2,c⟩,r⟩
 |own y=>obtain⟨ob,e⟩:=x;exact⟨ob,k _ _ (.inl rfl) e⟩
 |xd fs=>obtain⟨mA,⟨od,es,ep,e,c⟩,r⟩:=x;exact⟨mA,⟨od,es,ep,k _ _ (.inl rfl) e,c⟩,r⟩
 |rng lo hi=>obtain⟨t,u,v,e⟩:=x;exact⟨t,u,v,k _ _ (.inl rfl) e⟩
 |dk ob u ih=>obtain⟨e,q⟩:=x;exact⟨k _ _ (.inl rfl) e,ih q⟩
 |mC ps =>
  have e:h.get? a=some {cls:=.none,data:=.fields ps}:=x;show h'.get? a=some {cls:=.none,data:=.fields ps};exact k a _ (.inl rfl) e
 |lam pos qual=>obtain⟨ps,e,t,q⟩:=x;exact⟨ps,k _ _ (.inl rfl) e,t,λcv z=>let⟨c,o,u,vs,t,q1,q2,q3⟩:=q cv z;⟨c,o,u,vs,t,q1,hz _ _ _ q2,q3⟩⟩
 |met f y =>
  have e:h.get? a=some (W.methodObj (.ref f) (.ref y)):=x;show h'.get? a=some (W.methodObj (.ref f) (.ref y));exact k a _ (.inl rfl) e
 |ext φ=>obtain⟨p,⟨o,e⟩,st⟩:=x;exact⟨st _ _ p λo q=>k _ _ (.inl rfl) q,⟨o,k _ _ (.inl rfl) e⟩,st⟩
theorem b9.lt(x:b9 P w H h)(e:H a=some o):a<h.objs.size:=(x a o e).lt
theorem b9.fresh(x:b9 P w H h)(e:h.objs.size<=a):H a=none:=by
 cases q:H a with
 |none=>rfl
 |some u=>exact absurd (dE (x.lt q) e) (g6 _)
theorem b9.kept(x:b9 P w H h)(k:∀b u,h.get? b=some u->h'.get? b=some u):b9 P w H h':=λa o e =>
 (x a o e).stay (λb u _ q=>k b u q) (λ_ q=>q) (λ_ _ q=>q) λ_ _ _ q=>q
theorem b9.laid(x:b9 P w H h)(k:∀b u,h.get? b=some u->h'.get? b=some u)(hp:h.objs.size<=a)(new:bQ P w (upd H a o) h' a o):b9 P w (upd H a o) h':=λb u e=>by
 have hn:=x.fresh hp
 by_cases hb:b=a
 ·subst hb;rw[aA]at e;cases e;exact new
 ·rw[aJ hb]at e
  exact(x b u e).stay (λc v _ q=>k c v q) (λc q=>by rw[aJ (bO q hn)];exact q) (λc xs q=>by rw[aJ (bO q hn)];exact q) λc ob u q=>by rw[aJ (bO q hn)];exact q
end
noncomputable def Rd(H:Hp)(a:Addr)(u:HO):Prop:=H a=some u\/∃o,H a=some (.dk o u)
theorem Rd.ok{P:Program}{w:World}{H:Hp}{h:Heap}{a:Addr}{u:HO}(r:Rd H a u)(x:b9 P w H h):bQ P w H h a u:=by
 rcases r with r|⟨o,r⟩
 ·exact x a u r
 ·obtain⟨_,q⟩:=x a _ r
  exact q
noncomputable def o_:Option HO->Prop
 |some (.lst _)=>True
 |some (.dK _)=>True
 |some (.dT _)=>True
 |some (.set _ _)=>True
 |some (.ins _ _ _)=>True
 |some (.ext _)=>True
 |some (.lam _ _)=>True
 |_=>False
section
variable {P:Program} {w:World} {H:Hp} {h h':Heap} {x e:Addr} {o':HO}
theorem b9.write(ok:b9 P w H h)(mu:o_ (H x))(he:e=x\/H e=some (.own x))(k:∀b u,b≠e->h.get? b=some u->h'.get? b=some u)(heo:∃u,h'.get? e=some u)
  (new:bQ P w (upd H x o') h' x o'):b9 P w (upd H x o') h':=λb u q=>by
 have Lv:∀c y,H c=some (.own y)->c≠x:=λc y r z=>by subst z;rw[r]at mu;exact mu
 have Yk:∀c xs,H c=some (.tup xs)->c≠x:=λc xs r z=>by subst z;rw[r]at mu;exact mu
 have Ye:∀c ob u,H c=some (.dk ob u)->c≠x:=λc ob u r z=>by subst z;rw[r]at mu;exact mu
 by_cases hb:b=x
 ·subst hb;rw[aA]at q;cases q;exact new
 ·rw[aJ hb]at q
  by_cases hbe:b=e
  ·have q':H b=some (.own x):=by
    rcases he with z|z
    ·exact absurd (hbe.trans z) hb
    ·rw[hbe];exact z
   rw[q]at q';cases q';obtain⟨v,hv⟩:=heo;exact⟨v,by rw[hbe];exact hv⟩
  ·refine(ok b u q).stay (λc v hc r=>k c v ?_ r) (λc r=>by rw[aJ (Lv c b r)];exact r) (λc xs r=>by rw[aJ (Yk c xs r)];exact r) λc ob u r=>by rw[aJ (Ye c ob u r)];exact r
   rcases hc with rfl|hc
   ·exact hbe
   ·rintro rfl
    rcases he with z|z
    ·exact Lv c b hc z
    ·rw[hc]at z;cases z;exact hb rfl
end
structure Un (fs ex:List Addr) (H H':Hp) (h h':Heap):Prop where
 keep:∀b o,h.get? b=some o->H b=none->b ∉ fs->b ∉ ex->h'.get? b=some o
 slot:∀b o,h.get? b=some o->H b=none->b∈fs->b ∉ ex->∃sl,h'.get? b=some {o with slots:=sl}
 free:∀b o,h.get? b=some o->H b=none->b ∉ ex->H' b=none
 there:∀b o,h.get? b=some o->b ∉ ex->∃o',h'.get? b=some o'
 tups:∀b xs,H b=some (.tup xs)->H' b=some (.tup xs)
 jz:∀b o u,H b=some (.dk o u)->H' b=some (.dk o u)
 kU:∀b ps,H b=some (.mC ps)->∃more,H' b=some (.mC (ps++more))
section
variable {fs fs' ex ex':List Addr} {H H1 H2:Hp} {h h1 h2 h':Heap} {a x e:Addr} {o:HO}
theorem Un.any(u:Un fs ex H H1 h h1){b:Addr}{ob:Obj}(q:h.get? b=some ob)(n:H b=none)(hx:b ∉ ex):∃sl,h1.get? b=some {ob with slots:=sl}:=by
 by_cases hb:b∈fs
 ·exact u.slot b ob q n hb hx
 ·exact⟨ob.slots,u.keep b ob q n hb hx⟩
theorem Un.kept(k:∀b u,h.get? b=some u->h'.get? b=some u):Un fs ex H H h h':=
 ⟨λb ob q _ _ _=>k b ob q,λb ob q _ _ _=>⟨ob.slots,k b ob q⟩,λ_ _ _ n _=>n,λb ob q _=>⟨ob,k b ob q⟩,λ_ _ q=>q,λ_ _ _ q=>q,λ_ ps q=>⟨#[],by rw[q];simp⟩⟩
theorem Un.refl:Un fs ex H H h h:=Un.kept λ_ _ q=>q
theorem Un.laid(k:∀b u,h.get? b=some u->h'.get? b=some u)(hp:h.objs.size<=a)(hn:H a=none):Un fs ex H (upd H a o) h h' where
 keep:=λb u q _ _ _=>k b u q
 slot:=λb u q _ _ _=>⟨u.slots,k b u q⟩
 free:=λb u q n _=>by rw[aJ (bI (dE (a9 q) hp))];exact n
 there:=λb u q _=>⟨u,k b u q⟩
 tups:=λb xs q=>by rw[aJ (bO q hn)];exact q
 jz:=λb u xs q=>by rw[aJ (bO q hn)];exact q
 kU:=λb ps q=>⟨#[],by rw[aJ (bO q hn),q];simp⟩
theorem Un.write(mu:o_ (H x))(he:e=x\/H e=some (.own x))(k:∀b u,b≠e->h.get? b=some u->h'.get? b=some u)(heo:∃u,h'.get? e=some u):Un fs ex H (upd H x o) h h':=by
 have hx:∀b,H b=none->b≠x:=λb n z=>by subst z;rw[n]at mu;exact mu
 have hb:∀b,H b=none->b≠e:=λb n z=>by
  subst z
  rcases he with r|r
  ·exact hx b n r
  ·rw[n]at r;cases r
 have hm:∀b u,H b=some u->¬ o_ (some u)->b≠x:=λb u q nm z=>by subst z;rw[q]at mu;exact nm mu
 refine⟨λb u q n _ _=>k b u (hb b n) q,λb u q n _ _=>⟨u.slots,k b u (hb b n) q⟩,λb u q n _=>by rw[aJ (hx b n)];exact n,λb u q _=>?_,
  λb xs q=>by rw[aJ (hm b _ q λz=>z)];exact q,λb u xs q=>by rw[aJ (hm b _ q λz=>z)];exact q,λb ps q=>⟨#[],by rw[aJ (hm b _ q λz=>z),q];simp⟩⟩
 by_cases hbe:b=e
 ·subst hbe;exact heo
 ·exact⟨u,k b u hbe q⟩
end
noncomputable def wI(h:Heap)(H:Hp):List Addr:=(List.range h.objs.size).filter λa=>(H a).isSome
noncomputable def fI(h:Heap)(H:Hp):Heap:=W.hideAll h (wI h H)
theorem JD(h:Heap)(H:Hp):(fI h H).objs.size=h.objs.size:=W.hideAll_size _ _
theorem Ae{h:Heap}{H:Hp}{b:Addr}{o:Obj}(e:h.get? b=some o)(n:H b=none):(fI h H).get? b=some o:=
 W.hideAll_get _ e λhm=>by
  have q:(H b).isSome=true:=(d7.mp hm).2;rw[n]at q;simp at q
theorem Bw{h:Heap}{H:Hp}{b:Addr}{o:Obj}(e:(fI h H).get? b=some o):h.get? b=some o/\H b=none:=by
 have e':h.get? b=some o:=W.of_hideAll (wI h H) e;refine⟨e',?_⟩;cases q:H b with
 |none=>rfl
 |some x =>
  have hm:b∈wI h H:=d7.mpr ⟨cM.mpr (a9 e'),by simp[q]⟩;have z:(fI h H).get? b=none:=W.hideAll_none (wI h H) hm;rw[z]at e;cases e
noncomputable def R6(g h:Heap)(L:Addr):List (Addr × Obj):=(List.range h.objs.size).filterMap λa=>if a=L\/(g.get? a).isSome=true then none else(h.get? a).map λo=>(a,o)
noncomputable def rest(g h:Heap)(L d:Addr):List (Addr × Obj):=(R6 g h L).filter λp=>decide (p.1≠d)
structure Mod (K:W.Frag) (mg:Str->Option Value) (base:Heap):Prop where
 kx:K.In base
 glob:base.Ns mainGlobals mg
 blt:∃mb,base.Ns builtinsNs mb/\∀x:Str,x ≠ "__name__" -> mb x=bootBuiltins x
 nolimit:base.NoLimit
structure Cx where
 prog:Program
 w:World
 K:W.Frag
 mg:Str->Option Value
 base:Heap
 A:Around
 N:List Str
 s₀:Shared
 H₀:Hp
 env:Env
 outer:List Env
 stack:List Env
 ex:List Addr
 fn:Str->Bool
 calm:Bool
 pn:List (Addr × Obj)
 xe:Value->Shared->Prop
noncomputable def frs(l:List Env):List Addr:=l.filterMap (·.frame)
abbrev Cx.fs (X:Cx):List Addr:=frs X.outer
noncomputable def sv(sc:Scope)(x:Str):Prop:=sc.names.lookup x=some .local\/sc.names.lookup x=some .cell\/sc.names.lookup x=some .free
noncomputable def Loc(sc:Scope)(x:Str):Prop:=sc.names.lookup x=some .local\/sc.names.lookup x=some .cell
noncomputable def Look(env:Env)(h:Heap)(m:Str->Option Value)(x:Str)(u:Value):Prop:=
 (env.kindOf x=some .local/\m x=some u)\/((env.kindOf x=some .cell\/env.kindOf x=some .free)/\∃c,env.cells.lookup x=some c/\h.IsCell c (some u))
structure Cx.Ok (X:Cx):Prop where
 mod:Mod X.K X.mg X.base
 kind:X.env.scope.kind = .function
 glob:X.env.globals=mainGlobals
 blt:X.env.builtins=builtinsNs
 above:X.s₀.heap.objs.size<=X.env.locals
 inj:∀x y c,X.env.cells.lookup x=some c->X.env.cells.lookup y=some c->x=y
 has:∀x,(X.env.kindOf x=some .cell\/X.env.kindOf x=some .free)->∃c,X.env.cells.lookup x=some c
 cab:∀x c,X.fn x=true->X.env.cells.lookup x=some c->X.s₀.heap.objs.size<=c
 hd:X.calm=true->X.A.handled=none
 frames:X.A.frames=some X.stack
 stk:X.stack=X.outer\/(X.stack=X.env::X.outer/\X.env.frame=some X.env.locals)
 tu:∀b∈X.ex,b≠X.env.locals/\∀x c,X.env.cells.lookup x=some c->c≠b
 bs:∀b o,X.base.get? b=some o->X.s₀.heap.get? b=some o/\X.H₀ b=none
 fW:X.base.objs.size<=X.s₀.heap.objs.size
 lZ:∀b o,X.base.get? b=some o->b ∉ X.ex
 nE:∀b∈X.ex,b ∉ X.fs
 eJ:X.s₀.heap.FunFrames X.base X.outer
 iT:∀b∈X.fs,X.H₀ b=none
structure Inv (X:Cx) (pins:List (Addr × Obj)) (σ:List (Option V)) (H:Hp) (s:Shared):Prop where
 ok:X.Ok
 os:s.os=X.s₀.os
 bare:AllBare s.gens
 base:Un X.fs X.ex X.H₀ H X.s₀.heap s.heap
 loc:∃m,s.heap.Ns X.env.locals m/\∀(i:Nat) (x:Str) (v:V),X.N[i]?=some x->σ[i]?=some (some v)->sv X.env.scope x->∃u,RelV v u/\Look X.env s.heap m x u
 cell:∀x c,X.env.cells.lookup x=some c->∃v,s.heap.IsCell c v
 free:H X.env.locals=none
 e9:∀x c,X.env.cells.lookup x=some c->H c=none
 pin:∀p∈X.pn++pins,s.heap.get? p.1=some p.2/\H p.1=none/\p.1≠X.env.locals/\p.1 ∉ X.fs/\∀v,p.2.data≠.cell v
 hok:b9 X.prog X.w H s.heap
 len:σ.length=X.N.length
section
variable {X:Cx} {pins:List (Addr × Obj)} {σ:List (Option V)} {H H':Hp} {s:Shared} {h':Heap}
theorem Cx.Ok.Yg(ok:X.Ok){b:Addr}{o:Obj}(e:X.base.get? b=some o):b ∉ X.fs:=λhb=>by
 have:=(ok.eJ.mem hb).1;rw[e]at this;cases this
theorem Inv.bs(I:Inv X pins σ H s):∀b o,X.base.get? b=some o->s.heap.get? b=some o/\H b=none:=λb o e =>
 ⟨I.base.keep b o (I.ok.bs b o e).1 (I.ok.bs b o e).2 (I.ok.Yg e) (I.ok.lZ b o e),I.base.free b o (I.ok.bs b o e).1 (I.ok.bs b o e).2 (I.ok.lZ b o e)⟩
theorem Inv.bk(I:Inv X pins σ H s):∀b o,X.base.get? b=some o->s.heap.get? b=some o:=λb o e=>(I.bs b o e).1
theorem Inv.mod(I:Inv X pins σ H s):Mod X.K X.mg X.base:=I.ok.mod
theorem Inv.cF(I:Inv X pins σ H s):X.K.In s.heap:=I.ok.mod.kx.keeps I.bk
theorem Inv.lt(I:Inv X pins σ H s):X.env.locals<s.heap.objs.size:=let⟨_,hn,_⟩:=I.loc;hn.lt
theorem Inv.sz(I:Inv X pins σ H s):X.s₀.heap.objs.size<=s.heap.objs.size:=di I.ok.above (gG I.lt)
theorem Inv.Yi(I:Inv X pins σ H s){a:Addr}(h:s.heap.objs.size<=a):a ∉ X.fs:=λhb=>by
 obtain⟨_,o,ho,_⟩:=I.ok.eJ.mem hb;exact absurd (dE (a9 ho) (di I.sz h)) (g6 _)
theorem Inv.lG(I:Inv X pins σ H s):∀x c,X.env.cells.lookup x=some c->c≠X.env.locals:=λx c e z=>by
 obtain⟨v,o,ho,hd⟩:=I.cell x c e;obtain⟨m,⟨o',es,ep,ho',hd',_⟩,_⟩:=I.loc;rw[z,ho']at ho;cases ho;rw[hd']at hd;cases hd
theorem Inv.eJ(I:Inv X pins σ H s):s.heap.FunFrames X.base X.outer:=by
 have all:∀(l:List Env),(∀b∈frs l,b∈X.fs)->X.s₀.heap.FunFrames X.base l->s.heap.FunFrames X.base l:=by
  intro l
  induction l with
  |nil=>intro _ _;trivial
  |cons env r ih =>
   intro hs hl;obtain⟨hk,⟨L,o,hf,hn,ho,hd⟩,hr⟩:=hl;have hL:L∈X.fs:=hs L (by unfold frs;rw[mK,hf];exact cC);obtain⟨sl,e⟩:=I.base.slot L o ho (I.ok.iT L hL) hL λz=>I.ok.nE L z hL;exact⟨hk,⟨L,_,hf,hn,e,hd⟩,ih (λb hb=>hs b (by unfold frs;rw[mK,hf];exact bT _ hb)) hr⟩
 exact all X.outer (λ_ hb=>hb) I.ok.eJ
theorem Inv.stack(I:Inv X pins σ H s):s.heap.FunFrames X.base X.stack:=by
 rcases I.ok.stk with e|⟨e,hf⟩
 ·rw[e];exact I.eJ
 ·rw[e]
  obtain⟨m,hn,_⟩:=I.loc;refine .cons (by rw[I.ok.kind];decide) hf hn ?_ I.eJ;exact Heap.get?_none_of_le (di I.ok.fW I.ok.above)
theorem Inv.Et(I:Inv X pins σ H s):∀b∈frs X.stack,b∈X.env.locals::X.fs:=λb hb=>by
 rcases I.ok.stk with e|⟨e,hf⟩
 ·rw[e]at hb;exact bT _ hb
 ·rw[e]at hb
  unfold frs at hb;rw[mK,hf]at hb;exact hb
theorem Inv.Es(I:Inv X pins σ H s):∀b∈frs X.stack,H b=none:=λb hb=>by
 rcases bC.mp (I.Et b hb)with e|hb
 ·rw[e];exact I.free
 ·obtain⟨_,o,ho,_⟩:=I.ok.eJ.mem hb
  exact I.base.free b o ho (I.ok.iT b hb) λz=>I.ok.nE b z hb
theorem Inv.step{g':Array GenState}{t':Nat}{d':Drawn}{ch:List Addr}(I:Inv X pins σ H s)(hch:∀b∈ch,(b∈X.ex\/X.s₀.heap.objs.size<=b)/\b≠X.env.locals/\(∀x c,X.env.cells.lookup x=some c->c≠b)/\∀p∈X.pn++pins,p.1≠b)(keep:∀b o,b≠X.env.locals->b ∉ X.fs->b ∉ ch->s.heap.get? b=some o->H b=none->h'.get? b=some o)
  (slot:∀b o,b≠X.env.locals->b∈X.fs->b ∉ ch->s.heap.get? b=some o->H b=none->∃sl,h'.get? b=some {o with slots:=sl}) (free:∀b o,b ∉ ch->s.heap.get? b=some o->H b=none->H' b=none)
  (there:∀b o,b ∉ ch->s.heap.get? b=some o->∃o',h'.get? b=some o')
  (tups:∀b xs,H b=some (.tup xs)->H' b=some (.tup xs)) (jz:∀b o u,H b=some (.dk o u)->H' b=some (.dk o u)) (kU:∀b ps,H b=some (.mC ps)->∃more,H' b=some (.mC (ps++more)))
  (ns:∀m,s.heap.Ns X.env.locals m->h'.Ns X.env.locals m) (hok:b9 X.prog X.w H' h') (hg:AllBare g') :
  Inv X pins σ H' {s with heap:=h',gens:=g',drawn:=d',toks:=t'}:=by
 have Lf:∀b o,X.s₀.heap.get? b=some o->b≠X.env.locals:=λb o e=>bI (dE (a9 e) I.ok.above);have uI:∀b o,X.s₀.heap.get? b=some o->b ∉ X.ex->b ∉ ch:=λb o e hx hb=>by
  rcases(hch b hb).1 with z|z
  ·exact hx z
  ·exact absurd (dE (a9 e) z) (g6 _)
 have cellK:∀x c,X.env.cells.lookup x=some c->∀v,s.heap.IsCell c v->h'.IsCell c v:=λx c e v ⟨o,ho,hd⟩=>by
  have qG:c ∉ ch:=λz=>(hch c z).2.2.1 x c e rfl
  by_cases hc:c∈X.fs
  ·obtain⟨sl,q⟩:=slot c o (I.lG x c e) hc qG ho (I.e9 x c e)
   exact⟨_,q,hd⟩
  ·exact⟨o,keep c o (I.lG x c e) hc qG ho (I.e9 x c e),hd⟩
 refine⟨I.ok,I.os,hg,⟨λb o e n hb hx=>?_,λb o e n hb hx=>?_,λb o e n hx=>?_,λb o e hx=>?_,λb xs e=>tups b xs (I.base.tups b xs e),λb o xs e=>jz b o xs (I.base.jz b o xs e),λb ps e=>?_⟩,?_,λx c e=>?_,?_,λx c e=>?_,λp hp=>?_,hok,I.len⟩
 ·exact keep b o (Lf b o e) hb (uI b o e hx) (I.base.keep b o e n hb hx) (I.base.free b o e n hx)
 ·obtain⟨sl,e1⟩:=I.base.slot b o e n hb hx
  obtain⟨sl',e2⟩:=slot b _ (Lf b o e) hb (uI b o e hx) e1 (I.base.free b o e n hx);exact⟨sl',e2⟩
 ·obtain⟨o',e1⟩:=I.base.there b o e hx
  exact free b o' (uI b o e hx) e1 (I.base.free b o e n hx)
 ·obtain⟨o',e1⟩:=I.base.there b o e hx
  exact there b o' (uI b o e hx) e1
 ·obtain⟨m1,e1⟩:=I.base.kU b ps e
  obtain⟨m2,e2⟩:=kU b _ e1;exact⟨m1++m2,by rw[e2,Array.append_assoc]⟩
 ·obtain⟨m,hn,hl⟩:=I.loc
  refine⟨m,ns m hn,λi x v e1 e2 e3=>?_⟩;obtain⟨u,r,l⟩:=hl i x v e1 e2 e3;refine⟨u,r,?_⟩
  rcases l with l|⟨k,c,e,z⟩
  ·exact .inl l
  ·exact .inr ⟨k,c,e,cellK x c e _ z⟩
 ·obtain⟨v,z⟩:=I.cell x c e
  exact⟨v,cellK x c e v z⟩
 ·obtain⟨m,⟨o,_,_,ho,_⟩,_⟩:=I.loc
  exact free _ o (λz=>(hch _ z).2.1 rfl) ho I.free
 ·obtain⟨v,o,ho,hd⟩:=I.cell x c e
  exact free c o (λz=>(hch c z).2.2.1 x c e rfl) ho (I.e9 x c e)
 ·obtain⟨e,n,ne,nf,d⟩:=I.pin p hp
  have qG:p.1 ∉ ch:=λz=>(hch p.1 z).2.2.2 p hp rfl;exact⟨keep p.1 p.2 ne nf qG e n,free p.1 p.2 qG e n,ne,nf,d⟩
theorem Inv.un{t':Nat}(I:Inv X pins σ H s)(u:Un X.fs [] H H' s.heap h')(hok:b9 X.prog X.w H' h'):Inv X pins σ H' {s with heap:=h',toks:=t'}:=by
 obtain⟨m,⟨o,es,ep,ho,r⟩,_⟩:=id I.loc;obtain⟨sl,hL⟩:=u.any ho I.free (by simp);exact I.step (g':=s.gens) (d':=s.drawn) (ch:=[]) (λ_ z=>nomatch z) (λb o _ hb _ e n=>u.keep b o e n hb (by simp)) (λb o _ hb _ e n=>u.slot b o e n hb (by simp)) (λb o _ e n=>u.free b o e n (by simp)) (λb o _ e=>u.there b o e (by simp)) u.tups u.jz u.kU (λm' hm=>by
  obtain⟨o',es',ep',ho',r'⟩:=hm;rw[ho]at ho';cases ho';exact⟨_,es',ep',hL,r'⟩) hok I.bare
theorem Inv.call{g':Array GenState}{t':Nat}{d':Drawn}{ch:List Addr}(I:Inv X pins σ H s)(u:Un (frs X.stack) ch H H' s.heap h')(hok:b9 X.prog X.w H' h')(hg:AllBare g')(hch:∀b∈ch,(b∈X.ex\/X.s₀.heap.objs.size<=b)/\b≠X.env.locals/\(∀x c,X.env.cells.lookup x=some c->c≠b)/\∀p∈X.pn++pins,p.1≠b):
  Inv X pins σ H' {s with heap:=h',gens:=g',drawn:=d',toks:=t'}:=by
 obtain⟨m,⟨o,es,ep,ho,r⟩,_⟩:=id I.loc;obtain⟨sl,hL⟩:=u.any ho I.free λz=>(hch _ z).2.1 rfl;exact I.step (ch:=ch) hch (λb o hL hb hc e n=>u.keep b o e n (λz=>(bC.mp (I.Et b z)).elim hL hb) hc) (λb o _ _ hc e n=>u.any e n hc) (λb o hc e n=>u.free b o e n hc) (λb o hc e=>u.there b o e hc) u.tups u.jz u.kU (λm' hm=>by
  obtain⟨o',es',ep',ho',r'⟩:=hm;rw[ho]at ho';cases ho';exact⟨_,es',ep',hL,r'⟩) hok hg
theorem Inv.turned{t':Nat}{it:Addr}(I:Inv X pins σ H s)(k:∀b o,b≠it->s.heap.get? b=some o->h'.get? b=some o)(hn:H it=none)(hL:it≠X.env.locals)
  (h1:it∈X.ex\/X.s₀.heap.objs.size<=it) (h2:∀x c,X.env.cells.lookup x=some c->c≠it) (h3:∀p∈X.pn++pins,p.1≠it):Inv X pins σ H {s with heap:=h',toks:=t'}:=by
 have Lj:∀b u,H b=some u->b≠it:=λb u e z=>by rw[z,hn]at e;cases e
 refine I.step (g':=s.gens) (d':=s.drawn) (ch:=[it]) (λb hb=>?_) (λb o _ _ hc e _=>k b o (λz=>hc (by simp[z])) e) (λb o _ _ hc e _=>⟨o.slots,k b o (λz=>hc (by simp[z])) e⟩) (λ_ _ _ _ n=>n)
  (λb o hc e=>⟨o,k b o (λz=>hc (by simp[z])) e⟩) (λ_ _ e=>e) (λ_ _ _ e=>e) (λb ps e=>⟨#[],by rw[e];simp⟩) (λm hm=>?_) (λb u e=>?_) I.bare
 ·have e:b=it:=by simpa using hb
  subst e;exact⟨h1,hL,h2,h3⟩
 ·obtain⟨o,es,ep,ho,r⟩:=hm
  exact⟨o,es,ep,k _ o (cZ hL) ho,r⟩
 ·refine(I.hok b u e).stay (λc v hc q=>k c v ?_ q) (λ_ q=>q) (λ_ _ q=>q) λ_ _ _ q=>q
  rcases hc with z|z
  ·rw[z];exact Lj b u e
  ·exact Lj c _ z
theorem Inv.tok(I:Inv X pins σ H s)(t:Nat):Inv X pins σ H {s with toks:=t}:=I.un (h':=s.heap) (t':=t) Un.refl I.hok
theorem Inv.kept{t':Nat}(I:Inv X pins σ H s)(k:∀b u,s.heap.get? b=some u->h'.get? b=some u):Inv X pins σ H {s with heap:=h',toks:=t'}:=I.un (Un.kept k) (I.hok.kept k)
theorem Inv.laid{a:Addr}{o:HO}{t':Nat}(I:Inv X pins σ H s)(k:∀b u,s.heap.get? b=some u->h'.get? b=some u)(hp:s.heap.objs.size<=a)(new:bQ X.prog X.w (upd H a o) h' a o):
  Inv X pins σ (upd H a o) {s with heap:=h',toks:=t'}:=I.un (Un.laid k hp (I.hok.fresh hp)) (I.hok.laid k hp new)
theorem Inv.write{x e:Addr}{o:HO}{t':Nat}(I:Inv X pins σ H s)(mu:o_ (H x))(he:e=x\/H e=some (.own x))(k:∀b u,b≠e->s.heap.get? b=some u->h'.get? b=some u)(heo:∃u,h'.get? e=some u)
  (new:bQ X.prog X.w (upd H x o) h' x o):Inv X pins σ (upd H x o) {s with heap:=h',toks:=t'}:=I.un (Un.write mu he k heo) (I.hok.write mu he k heo new)
theorem Inv.weak{σ':List (Option V)}(I:Inv X pins σ H s)(hl:σ'.length=σ.length)(w:∀(i:Nat) v,σ'[i]?=some (some v)->σ[i]?=some (some v)):Inv X pins σ' H s:=
 ⟨I.ok,I.os,I.bare,I.base,let⟨m,hn,hl'⟩:=I.loc;⟨m,hn,λi x v e1 e2 e3=>hl' i x v e1 (w i v e2) e3⟩,I.cell,I.free,I.e9,I.pin,I.hok,hl.trans I.len⟩
theorem Inv.uX{M3:List (Addr × Obj)}(I:Inv X pins σ H s)(h:∀p∈M3,s.heap.get? p.1=some p.2/\H p.1=none/\p.1≠X.env.locals/\p.1 ∉ X.fs/\∀v,p.2.data≠.cell v):Inv X M3 σ H s:=
 ⟨I.ok,I.os,I.bare,I.base,I.loc,I.cell,I.free,I.e9,λp hp=>(iK.mp hp).elim (λz=>I.pin p (xn _ z)) (h p),I.hok,I.len⟩
theorem Lq{N:List Str}(hN:N.Nodup){i j:Nat}{x:Str}(a:N[i]?=some x)(b:N[j]?=some x):i=j:=by
 obtain⟨h1,e1⟩:=bD.mp a;obtain⟨h2,e2⟩:=bD.mp b;exact(FW hN).mp (e1.trans e2.symm)
theorem P8{M:Model}{A:Around}{E:Value->Shared->Prop}{i:Nat}{x:Str}{v:V}{u:Value}{Q:Unit->Shared->Prop}(I:Inv X pins σ H s)(hN:X.N.Nodup)(hi:X.N[i]?=some x)(hx:Loc X.env.scope x)(r:RelV v u)(h:∀s',Inv X pins (σ.set i (some v)) H s'->(∃a,Heap.SameBut a s.heap s'.heap/\(a=X.env.locals\/X.env.cells.lookup x=some a))->Q () s')(hf:X.fn x=true\/X.env.scope.names.lookup x=some .local:=by first|exact .inl rfl|exact .inr rfl|assumption):wpAny M A (storeName X.env x u) Q E s:=by
 obtain⟨m,hn,hl⟩:=id I.loc;have hcls:(X.env.scope.kind==.class||(X.env.scope.kind==.module&&X.env.locals != X.env.globals))=false:=by rw[I.ok.kind];rfl
 have hiσ:i<σ.length:=by rw[I.len];exact(bD.mp hi).1
 have lG:=I.lG;have tracked:∀{a:Addr} {h':Heap},(∃o,s.heap.get? a=some o/\H a=none)->Heap.SameBut a s.heap h'->b9 X.prog X.w H h':=λ{a h'} ha hs b ob e=>by
  obtain⟨_,_,hfree⟩:=ha;refine(I.hok b ob e).stay (λc w' hc q=>(hs.2 c ?_).trans q) (λ_ q=>q) (λ_ _ q=>q) λ_ _ _ q=>q;rintro rfl
  rcases hc with rfl|hc
  ·rw[hfree]at e;cases e
  ·rw[hfree]at hc;cases hc
 rcases hx with hk|hk
 ·refine wpAny_storeName_local hk hn (λh' hn' hs=>?_) hcls
  obtain⟨oL,_,_,hoL,_⟩:=id hn;refine h _ ⟨I.ok,I.os,I.bare,⟨λb o e n hb hx=>?_,λb o e n hb hx=>?_,I.base.free,λb o e hx=>?_,I.base.tups,I.base.jz,I.base.kU⟩,⟨_,hn',λj y v' e1 e2 e3=>?_⟩,λy c e=>?_,I.free,I.e9,λp hp=>?_,tracked ⟨oL,hoL,I.free⟩ hs,by simpa using I.len⟩ ⟨_,hs,.inl rfl⟩
  ·exact(hs.2 b (bI (dE (a9 e) I.ok.above))).trans (I.base.keep b o e n hb hx)
  ·obtain⟨sl,e1⟩:=I.base.slot b o e n hb hx
   exact⟨sl,(hs.2 b (bI (dE (a9 e) I.ok.above))).trans e1⟩
  ·obtain⟨o',e1⟩:=I.base.there b o e hx
   exact⟨o',(hs.2 b (bI (dE (a9 e) I.ok.above))).trans e1⟩
  ·by_cases hj:j=i
   ·subst hj
    rw[hi]at e1;cases e1;rw[FV hiσ]at e2;cases e2;exact⟨u,r,.inl ⟨hk,by simp⟩⟩
   ·rw[xh (cZ hj)]at e2
    obtain⟨u',r',q⟩:=hl j y v' e1 e2 e3;refine⟨u',r',?_⟩
    rcases q with⟨k,e⟩|⟨k,c,e,z⟩
    ·refine .inl ⟨k,?_⟩
     have:y≠x:=λe=>hj (Lq hN e1 (e▸hi));simp[this,e]
    ·exact .inr ⟨k,c,e,z.sameBut hs (lG y c e)⟩
  ·obtain⟨w',z⟩:=I.cell y c e
   exact⟨w',z.sameBut hs (lG y c e)⟩
  ·obtain⟨e,n,ne,nf,d⟩:=I.pin p hp
   exact⟨(hs.2 p.1 ne).trans e,n,ne,nf,d⟩
 ·have hfn:X.fn x=true:=by
   rcases hf with z|z
   ·exact z
   ·rw[z]at hk;cases hk
  obtain⟨c,hc⟩:=I.ok.has x (.inl hk);obtain⟨w',z⟩:=I.cell x c hc;refine wpAny_storeName_cell I.ok.kind hk hc z (λh' hc' hs=>?_);obtain⟨oc,hoc,V6⟩:=id z;refine h {s with heap:=h'} ⟨I.ok,I.os,I.bare,⟨λb o e n hb hx=>?_,λb o e n hb hx=>?_,I.base.free,λb o e hx=>?_,I.base.tups,I.base.jz,I.base.kU⟩,⟨m,hn.sameBut hs (cZ (lG x c hc)),λj y v' e1 e2 e3=>?_⟩,λy c' e=>?_,I.free,I.e9,λp hp=>?_,tracked ⟨oc,hoc,I.e9 x c hc⟩ hs,by simpa using I.len⟩ ⟨c,hs,.inr hc⟩
  ·exact(hs.2 b (bI (dE (a9 e) (I.ok.cab x c hfn hc)))).trans (I.base.keep b o e n hb hx)
  ·obtain⟨sl,e1⟩:=I.base.slot b o e n hb hx
   exact⟨sl,(hs.2 b (bI (dE (a9 e) (I.ok.cab x c hfn hc)))).trans e1⟩
  ·obtain⟨o',e1⟩:=I.base.there b o e hx
   exact⟨o',(hs.2 b (bI (dE (a9 e) (I.ok.cab x c hfn hc)))).trans e1⟩
  ·by_cases hj:j=i
   ·subst hj
    rw[hi]at e1;cases e1;rw[FV hiσ]at e2;cases e2;exact⟨u,r,.inr ⟨.inl hk,c,hc,hc'⟩⟩
   ·rw[xh (cZ hj)]at e2
    obtain⟨u',r',q⟩:=hl j y v' e1 e2 e3;refine⟨u',r',?_⟩
    rcases q with q|⟨k,c',e,z'⟩
    ·exact .inl q
    ·refine .inr ⟨k,c',e,z'.sameBut hs ?_⟩
     rintro rfl;exact hj (Lq hN e1 (I.ok.inj _ _ _ e hc▸hi))
  ·by_cases hcc:c'=c
   ·subst hcc;exact⟨_,hc'⟩
   ·obtain⟨w2,z2⟩:=I.cell y c' e
    exact⟨w2,z2.sameBut hs hcc⟩
  ·obtain⟨e,n,ne,nf,d⟩:=I.pin p hp
   refine⟨(hs.2 p.1 ?_).trans e,n,ne,nf,d⟩;intro q;rw[q,hoc]at e;have q':oc=p.2:=dW e;exact d w' (by rw[<- q'];exact V6)
theorem P7{M:Model}{A:Around}{E:Value->Shared->Prop}{i:Nat}{x:Str}{v:V}{u:Value}{Q:Unit->Shared->Prop}(I:Inv X pins σ H s)(hN:X.N.Nodup)(hi:X.N[i]?=some x)(hx:Loc X.env.scope x)(r:RelV v u)(h:∀s',Inv X pins (σ.set i (some v)) H s'->Q () s')(hf:X.fn x=true\/X.env.scope.names.lookup x=some .local:=by first|exact .inl rfl|exact .inr rfl|assumption):wpAny M A (storeName X.env x u) Q E s:=
 P8 I hN hi hx r (λs' I' _=>h s' I') hf
theorem Inv.call'{s':Shared}{ch:List Addr}(I:Inv X pins σ H s)(ho:s'.os=s.os)(u:Un (frs X.stack) ch H H' s.heap s'.heap)(hok:b9 X.prog X.w H' s'.heap)(hg:AllBare s'.gens)(hch:∀b∈ch,(b∈X.ex\/X.s₀.heap.objs.size<=b)/\b≠X.env.locals/\(∀x c,X.env.cells.lookup x=some c->c≠b)/\∀p∈X.pn++pins,p.1≠b):Inv X pins σ H' s':=by
 obtain⟨h',g',d',t',o'⟩:=s';have e:o'=s.os:=ho;subst e;exact I.call (g':=g') (t':=t') (d':=d') u hok hg hch
end
abbrev XK:=Value->Option Addr->Hp->Prop
abbrev St:=List (Option V)
abbrev VK:=V->Hp->Prop
abbrev TE:=St->Hp->VK->Prop
abbrev TT:=St->Hp->(Bool->Hp->Prop)->Prop
abbrev TA:=St->Hp->(List V->Hp->Prop)->Prop
structure Ends where
 nx:St->Hp->Prop
 rt:VK
 bk:St->Hp->Prop:=λ_ _=>False
 ct:St->Hp->Prop:=λ_ _=>False
abbrev TS:=Ends->St->Hp->Prop
noncomputable def EP(X:Cx)(pins:List (Addr × Obj))(σ:St)(Q:VK)(u:Value)(s':Shared):Prop:=∃v H',Inv X pins σ H' s'/\RelV v u/\Q v H'
noncomputable def TP(X:Cx)(pins:List (Addr × Obj))(σ:St)(Q:Bool->Hp->Prop)(b:Bool)(s':Shared):Prop:=∃H',Inv X pins σ H' s'/\Q b H'
noncomputable def AP(X:Cx)(pins:List (Addr × Obj))(σ:St)(Q:List V->Hp->Prop)(us:List Value)(s':Shared):Prop:=∃vs H',Inv X pins σ H' s'/\Vals vs us/\Q vs H'
noncomputable def SP(X:Cx)(pins:List (Addr × Obj))(D:Ends)(f:Flow)(s':Shared):Prop:=
 match f with
 |.next=>∃σ' H',Inv X pins σ' H' s'/\D.nx σ' H'
 |.brk=>∃σ' H',Inv X pins σ' H' s'/\D.bk σ' H'
 |.cont=>∃σ' H',Inv X pins σ' H' s'/\D.ct σ' H'
 |.ret u=>∃v σ' H',Inv X pins σ' H' s'/\RelV v u/\D.rt v H'
noncomputable def PE(X:Cx)(e:Expr)(t:TE):Prop:=
 ∀(pins:List (Addr × Obj)) (s:Shared) (σ:St) (H:Hp) (Q:VK),Inv X pins σ H s->t σ H Q->wpAny (model X.prog X.w) X.A (eval e X.env) (EP X pins σ Q) X.xe s
noncomputable def PT(X:Cx)(e:Expr)(t:TT):Prop:=
 ∀(pins:List (Addr × Obj)) (s:Shared) (σ:St) (H:Hp) (Q:Bool->Hp->Prop),Inv X pins σ H s->t σ H Q->wpAny (model X.prog X.w) X.A (isTrue e X.env (eval e X.env)) (TP X pins σ Q) X.xe s
noncomputable def PW(X:Cx)(e:Expr)(t:TT):Prop:=
 ∀(whole:Sem Value) (pins:List (Addr × Obj)) (s:Shared) (σ:St) (H:Hp) (Q:Bool->Hp->Prop),Inv X pins σ H s->t σ H Q->wpAny (model X.prog X.w) X.A (isTrue e X.env whole) (TP X pins σ Q) X.xe s
theorem PW.pt{X:Cx}{e:Expr}{t:TT}(h:PW X e t):PT X e t:=h _
noncomputable def PA(X:Cx)(es:List Expr)(t:TA):Prop:=
 ∀(pos:Pos) (pins:List (Addr × Obj)) (s:Shared) (σ:St) (H:Hp) (Q:List V->Hp->Prop),Inv X pins σ H s->t σ H Q->wpAny (model X.prog X.w) X.A (spliced (backTo pos (starEach es X.env))) (AP X pins σ Q) X.xe s
noncomputable def PS(X:Cx)(st:Stmt)(t:TS):Prop:=
 ∀(pins:List (Addr × Obj)) (s:Shared) (σ:St) (H:Hp) (D:Ends),Inv X pins σ H s->t D σ H->wpAny (model X.prog X.w) X.A (exec st X.env) (SP X pins D) X.xe s
noncomputable def fB(X:Cx)(st:List Stmt)(t:TS):Prop:=
 ∀(pins:List (Addr × Obj)) (s:Shared) (σ:St) (H:Hp) (D:Ends),Inv X pins σ H s->t D σ H->wpAny (model X.prog X.w) X.A (execs st X.env) (SP X pins D) X.xe s
theorem aL{α:Type}{t:Sem α}{Q Q':α->Shared->Prop}{M:Model}{A:Around}{E:Value->Shared->Prop}{s:Shared}(h:wpAny M A t Q E s)(hQ:∀a s,Q a s->Q' a s):wpAny M A t Q' E s:=h6 h hQ λ_ _ x=>x
section
variable {X:Cx}
noncomputable def kT(i:Nat):TE:=λσ H Q=>∃v,σ[i]?=some (some v)/\Q v H
noncomputable def tC(v:V):TE:=λ_ H Q=>Q v H
theorem Zy {i:Nat} {x:Str} {pos:Pos} (hN:X.N[i]?=some x) (hv:sv X.env.scope x) (hd:(x==("__debug__" : Str))=false:=by decide) (hcd:(x==("__classdict__" : Str))=false:=by decide):PE X (.Name x pos) (kT i):=by
 intro pins s σ H Q I h;obtain⟨v,e,h⟩:=h;obtain⟨m,hn,hl⟩:=I.loc;obtain⟨u,r,l⟩:=hl i x v hN e hv;have fin:EP X pins σ Q u s:=⟨v,H,I,r,h⟩
 rcases l with⟨hk,hm⟩|⟨hk,c,hc,hcell⟩
 ·exact wpAny_Name (wpAny_loadName_local I.ok.kind hk hn hm fin) hd
 ·rcases hk with hk|hk
  ·exact wpAny_Name (wpAny_loadName_cell I.ok.kind hk hc hcell fin) hd
  ·exact wpAny_Name (wpAny_loadName_free I.ok.kind hk hc hcell fin hcd) hd
theorem ak{i j pos}:PE X (.Constant (.int i) j pos) (tC (.int i)):=λ_ _ _ H _ I h=>wpAny_Constant_int ⟨.int i,H,I.tok _,⟨_,rfl⟩,h⟩
theorem eS{b j pos}:PE X (.Constant (.bool b) j pos) (tC (.bl b)):=λ_ _ _ H _ I h=>Constant_bool ⟨.bl b,H,I,rfl,h⟩
theorem uU{j pos}:PE X (.Constant .none j pos) (tC .non):=λ_ _ _ H _ I h=>Constant_none ⟨.non,H,I,rfl,h⟩
noncomputable def Gl(X:Cx)(x:Str):Prop:=X.env.kindOf x=some .globalImplicit
theorem uA{E:Value->Shared->Prop}{pins:List (Addr × Obj)}{s:Shared}{σ:St}{H:Hp}{x:Str}{u:Value}{pos:Pos}{Q:Value->Shared->Prop}(I:Inv X pins σ H s)(hg:Gl X x)(hm:X.mg x=some u)(h:Q u s)
  (hd:(x==("__debug__" : Str))=false:=by decide):wpAny (model X.prog X.w) X.A (eval (.Name x pos) X.env) Q E s:=
 Calls.Name_function_global I.ok.kind hg (Calls.loadGlobal_global (by rw[I.ok.glob];exact I.mod.glob.keeps I.bk) hm h) hd
theorem iY{E:Value->Shared->Prop}{pins:List (Addr × Obj)}{s:Shared}{σ:St}{H:Hp}{x:Str}{u:Value}{pos:Pos}{Q:Value->Shared->Prop}(I:Inv X pins σ H s)(hg:Gl X x)(hm:X.mg x=none)(hv:bootBuiltins x=some u)(h:Q u s)
  (hn:x ≠ "__name__" :=by decide) (hd:(x==("__debug__" : Str))=false:=by decide):wpAny (model X.prog X.w) X.A (eval (.Name x pos) X.env) Q E s:=by
 obtain⟨mb,h1,h2⟩:=I.mod.blt;exact Calls.Name_function_global I.ok.kind hg (Calls.loadGlobal_builtin (by rw[I.ok.glob];exact I.mod.glob.keeps I.bk) hm (by rw[I.ok.blt];exact h1.keeps I.bk) ((h2 x hn).trans hv) h) hd
theorem Zt {x:Str} {v:V} {u:Value} {pos:Pos} (hg:Gl X x) (hm:X.mg x=some u) (r:RelV v u) (hd:(x==("__debug__" : Str))=false:=by decide):PE X (.Name x pos) (tC v):=
 λ_ _ _ H _ I h=>uA I hg hm ⟨v,H,I,r,h⟩ hd
theorem Mz {x:Str} {v:V} {u:Value} {pos:Pos} (hg:Gl X x) (hm:X.mg x=none) (hv:bootBuiltins x=some u) (r:RelV v u) (hn:x ≠ "__name__" :=by decide) (hd:(x==("__debug__" : Str))=false:=by decide):PE X (.Name x pos) (tC v):=
 λ_ _ _ H _ I h=>iY I hg hm hv ⟨v,H,I,r,h⟩ hn hd
variable {a b:Expr} {ta tb:TE} {pos:Pos}
noncomputable def tB(t:TE):TT:=λσ H Q=>t σ H λx H1=>∃c,x = .bl c/\Q c H1
theorem dM{e:Expr}{t:TE}(h:PE X e t)(he:∀whole,isTrue e X.env whole=(do let v <- whole;standAt e.pos;holding [v] (truthy v)):=by intro _;rfl):PT X e (tB t):=by
 intro pins s σ H Q I hw;refine isTrue_plain (aL (h pins s σ H _ I hw) λv s1 ⟨x,H1,I1,r1,q1⟩=>?_) (he _);obtain⟨d,rfl,q⟩:=q1;cases r1;exact j9 ⟨H1,I1,q⟩
variable {tA wF:TT} {rest:List Expr}
noncomputable def aaX(t u:TT):TT:=λσ H Q=>t σ H λc H1=>if c=true then u σ H1 Q else Q false H1
noncomputable def tOr(t u:TT):TT:=λσ H Q=>t σ H λc H1=>if c=true then Q true H1 else u σ H1 Q
noncomputable def aa6(t:TT):TT:=λσ H Q=>t σ H λc H1=>Q (!c) H1
theorem mq(ha:PT X a tA):PW X (.BoolOp .And [a] pos) tA:=by
 intro wh pins s σ H Q I h;refine isTrue_and (aL (ha pins s σ H Q I h) λc s1 e=>?_);cases c with
 |true=>exact isTrue_and_nil e
 |false=>exact e
theorem mw(ha:PT X a tA):PW X (.BoolOp .Or [a] pos) tA:=by
 intro wh pins s σ H Q I h;refine isTrue_or (aL (ha pins s σ H Q I h) λc s1 e=>?_);cases c with
 |false=>exact isTrue_or_nil e
 |true=>exact e
theorem mn(ha:PT X a tA)(hb:PW X (.BoolOp .And (b::rest) pos) wF):PW X (.BoolOp .And (a::b::rest) pos) (aaX tA wF):=by
 intro wh pins s σ H Q I h;refine isTrue_and (aL (ha pins s σ H _ I h) λc s1 ⟨H1,I1,q1⟩=>?_);cases c with
 |true=>exact hb wh pins s1 σ H1 Q I1 q1
 |false=>exact⟨H1,I1,q1⟩
theorem mv(ha:PT X a tA)(hb:PW X (.BoolOp .Or (b::rest) pos) wF):PW X (.BoolOp .Or (a::b::rest) pos) (tOr tA wF):=by
 intro wh pins s σ H Q I h;refine isTrue_or (aL (ha pins s σ H _ I h) λc s1 ⟨H1,I1,q1⟩=>?_);cases c with
 |true=>exact⟨H1,I1,q1⟩
 |false=>exact hb wh pins s1 σ H1 Q I1 q1
theorem iB(ha:PT X a tA):PT X (.UnaryOp .Not a pos) (aa6 tA):=by
 intro pins s σ H Q I h;exact isTrue_not (ha pins s σ H (λc H1=>Q (!c) H1) I h)
noncomputable def aaY(ta tb:TE):TE:=λσ H Q=>ta σ H λx H1=>∃c,x = .bl c/\if c=true then tb σ H1 Q else Q (.bl false) H1
noncomputable def aa8(ta tb:TE):TE:=λσ H Q=>ta σ H λx H1=>∃c,x = .bl c/\if c=true then Q (.bl true) H1 else tb σ H1 Q
noncomputable def aa7(ta:TE):TE:=λσ H Q=>ta σ H λx H1=>∃c,x = .bl c/\Q (.bl (!c)) H1
theorem jO{op}{t:TE}(h:PE X a t):PE X (.BoolOp op [a] pos) t:=λpins s σ H Q I hw=>BoolOp_one (h pins s σ H Q I hw)
theorem mh(ha:PE X a ta)(hb:PE X (.BoolOp .And (b::rest) pos) tb):PE X (.BoolOp .And (a::b::rest) pos) (aaY ta tb):=by
 intro pins s σ H Q I h;refine BoolOp_and (aL (ha pins s σ H _ I h) λv s1 ⟨x,H1,I1,r1,q1⟩=>?_);obtain⟨c,rfl,q1⟩:=q1;cases r1;refine j9 ?_;cases c with
 |true=>exact hb pins s1 σ H1 Q I1 q1
 |false=>exact⟨.bl false,H1,I1,rfl,q1⟩
theorem MK(ha:PE X a ta)(hb:PE X (.BoolOp .Or (b::rest) pos) tb):PE X (.BoolOp .Or (a::b::rest) pos) (aa8 ta tb):=by
 intro pins s σ H Q I h;refine BoolOp_or (aL (ha pins s σ H _ I h) λv s1 ⟨x,H1,I1,r1,q1⟩=>?_);obtain⟨c,rfl,q1⟩:=q1;cases r1;refine j9 ?_;cases c with
 |false=>exact hb pins s1 σ H1 Q I1 q1
 |true=>exact⟨.bl true,H1,I1,rfl,q1⟩
theorem BR(ha:PE X a ta):PE X (.UnaryOp .Not a pos) (aa7 ta):=by
 intro pins s σ H Q I h;refine UnaryOp_ (aL (ha pins s σ H _ I h) λv s1 ⟨x,H1,I1,r1,q1⟩=>?_);obtain⟨c,rfl,q1⟩:=q1;cases r1;exact not_of (j9 ⟨.bl (!c),H1,I1,rfl,q1⟩)
end
noncomputable def ai(K:W.Frag)(H:Hp)(a:Addr)(xs:List V):Prop:=
 Rd H a (.lst xs) \/
  ∃(o:Obj) (its:Array Value) (n:Nat),K.lookup a=some o/\o.cls = .type "list" /\ o.dict=none/\o.data = .seq its n/\its.size<=sizeLine/\Vals xs its.toList
noncomputable def av(K:W.Frag)(H:Hp)(a:Addr)(xs:List V):Prop:=
 Rd H a (.tup xs) \/
  ∃(o:Obj) (its:Array Value) (n:Nat),K.lookup a=some o/\o.cls = .type "tuple" /\ o.data = .seq its n/\its.size<=sizeLine/\Vals xs its.toList
noncomputable def RX:Value->Option V
 |.none=>some .non
 |.bool b=>some (.bl b)
 |.int i _=>some (.int i)
 |.str x _=>some (.str x)
 |.bytes b _=>some (.gN b)
 |.float b _=>some (.flt b)
 |.ref a=>some (.ref a)
 |.type n=>some (.ty n)
 |_=>none
theorem RelV.abs{x:V}{u:Value}(r:RelV x u):RX u=some x:=by
 cases x with
 |non=>cases r;rfl
 |bl _=>cases r;rfl
 |int _=>obtain⟨t,rfl⟩:=r;rfl
 |str _=>obtain⟨t,rfl⟩:=r;rfl
 |gN _=>obtain⟨t,rfl⟩:=r;rfl
 |flt _=>obtain⟨t,rfl⟩:=r;rfl
 |ref _=>cases r;rfl
 |ty _=>cases r;rfl
theorem RelV.inj{x y:V}{u:Value}(r:RelV x u)(q:RelV y u):x=y:=dW (r.abs.symm.trans q.abs)
theorem Vals.inj:∀{xs ys:List V} {us:List Value},Vals xs us->Vals ys us->xs=ys
 |_,_,_,.nil,.nil=>rfl
 |_,_,_,.cons r t,.cons r' t'=>by rw[r.inj r',Vals.inj t t']
section
variable {X:Cx} {pins:List (Addr × Obj)} {σ:St} {H:Hp} {s:Shared} {a:Addr} {xs ys:List V}
theorem ai.of{K:W.Frag}(h:H a=some (.lst xs)):ai K H a xs:=.inl (.inl h)
theorem av.of{K:W.Frag}(h:H a=some (.tup xs)):av K H a xs:=.inl (.inl h)
theorem Inv.list(I:Inv X pins σ H s)(h:ai X.K H a xs):∃its:List Value,Vals xs its/\PlainL s.heap a its.toArray/\xs.length<=sizeLine:=by
 rcases h with h|⟨o,its,n,hk,hc,hd,hs,hz,r⟩
 ·obtain⟨z,its,n,r,e⟩:=h.ok I.hok
  exact⟨its,r,⟨_,n,e,rfl,rfl,rfl⟩,z⟩
 ·refine⟨its.toList,r,⟨o,n,I.cF a o hk,hc,hd,by simpa using hs⟩,?_⟩
  have e:=r.length;simp only[gw]at e;omega
theorem Inv.tuple(I:Inv X pins σ H s)(h:av X.K H a xs):∃its:List Value,Vals xs its/\IsTup s.heap a its.toArray/\xs.length<=sizeLine:=by
 rcases h with h|⟨o,its,n,hk,hc,hs,hz,r⟩
 ·obtain⟨z,its,r,p,_⟩:=h.ok I.hok
  exact⟨its,r,p,z⟩
 ·refine⟨its.toList,r,⟨o,I.cF a o hk,hc,n,by simpa using hs⟩,?_⟩
  have e:=r.length;simp only[gw]at e;omega
theorem Inv.Bm(I:Inv X pins σ H s)(h:ai X.K H a xs)(h':ai X.K H a ys):xs=ys:=by
 obtain⟨its,r,⟨o,n,e,_,_,d⟩,_⟩:=I.list h;obtain⟨its',r',⟨o',n',e',_,_,d'⟩,_⟩:=I.list h';rw[e]at e';cases e';rw[d]at d';injection d' with d1 _
 have:its=its':=by simpa using congrArg Array.toList d1
 subst this;exact r.inj r'
theorem Inv.EY(I:Inv X pins σ H s)(h:av X.K H a xs)(h':av X.K H a ys):xs=ys:=by
 obtain⟨its,r,⟨o,e,_,n,d⟩,_⟩:=I.tuple h;obtain⟨its',r',⟨o',e',_,n',d'⟩,_⟩:=I.tuple h';rw[e]at e';cases e';rw[d]at d';injection d' with d1 _
 have:its=its':=by simpa using congrArg Array.toList d1
 subst this;exact r.inj r'
end
abbrev Cx.wish (X:Cx) (E:Value->Shared->Prop):Cx:={X with xe:=E}
abbrev Cx.oh (X:Cx):Cx:=X.wish λ_ _=>False
theorem Cx.Ok.wish{X:Cx}(ok:X.Ok)(E:Value->Shared->Prop):(X.wish E).Ok:=
 ⟨ok.mod,ok.kind,ok.glob,ok.blt,ok.above,ok.inj,ok.has,ok.cab,ok.hd,ok.frames,ok.stk,ok.tu,ok.bs,ok.fW,ok.lZ,ok.nE,ok.eJ,ok.iT⟩
theorem Cx.Ok.kW{X:Cx}{E:Value->Shared->Prop}(ok:(X.wish E).Ok):X.Ok:=
 ⟨ok.mod,ok.kind,ok.glob,ok.blt,ok.above,ok.inj,ok.has,ok.cab,ok.hd,ok.frames,ok.stk,ok.tu,ok.bs,ok.fW,ok.lZ,ok.nE,ok.eJ,ok.iT⟩
section
variable {X:Cx} {pins:List (Addr × Obj)} {σ:St} {H:Hp} {s:Shared} {E:Value->Shared->Prop}
theorem Inv.wish(I:Inv X pins σ H s)(E:Value->Shared->Prop):Inv (X.wish E) pins σ H s:=⟨I.ok.wish E,I.os,I.bare,I.base,I.loc,I.cell,I.free,I.e9,I.pin,I.hok,I.len⟩
theorem Inv.kW(I:Inv (X.wish E) pins σ H s):Inv X pins σ H s:=⟨I.ok.kW,I.os,I.bare,I.base,I.loc,I.cell,I.free,I.e9,I.pin,I.hok,I.len⟩
theorem SP.kW{D:Ends}{f:Flow}{s':Shared}(h:SP (X.wish E) pins D f s'):SP X pins D f s':=by
 cases f with
 |next=>obtain⟨σ',H',I,q⟩:=h;exact⟨σ',H',I.kW,q⟩
 |brk=>obtain⟨σ',H',I,q⟩:=h;exact⟨σ',H',I.kW,q⟩
 |cont=>obtain⟨σ',H',I,q⟩:=h;exact⟨σ',H',I.kW,q⟩
 |ret u=>obtain⟨v,σ',H',I,r,q⟩:=h;exact⟨v,σ',H',I.kW,r,q⟩
theorem fB.oh{st:List Stmt}{t:TS}(h:fB X.oh st t):fB X st t:=λpins s σ H D I hw =>
 h6 (h pins s σ H D (I.wish _) hw) (λ_ _ q=>q.kW) λ_ _ z=>False.elim z
end
section
variable {X:Cx} {st:Stmt} {rest:List Stmt} {t u:TS} {e:Expr} {te:TE} {pos:Pos}
noncomputable def aa4:TS:=λD σ H=>D.nx σ H
noncomputable def bG(t u:TS):TS:=λD σ H=>t {D with nx:=u D} σ H
theorem cq:fB X [] aa4:=λ_ _ σ H _ I h=>xR ⟨σ,H,I,h⟩
theorem au(h1:PS X st t)(h2:fB X rest u):fB X (st::rest) (bG t u):=by
 intro pins s σ H D I h;refine wpAny_execs_cons (aL (h1 pins s σ H {D with nx:=u D} I h) λf s1 q=>?_);cases f with
 |next =>
  obtain⟨σ',H',I',q⟩:=q;exact h2 pins s1 σ' H' D I' q
 |ret v=>exact q
 |brk=>exact q
 |cont=>exact q
theorem ax(h1:PS X st t):fB X [st] t:=by
 intro pins s σ H D I h;refine wpAny_execs_cons (aL (h1 pins s σ H D I h) λf s1 q=>?_);cases f with
 |next=>exact xR q
 |ret v=>exact q
 |brk=>exact q
 |cont=>exact q
theorem Inv.quiet{pins:List (Addr × Obj)}{σ:St}{H:Hp}{s:Shared}(I:Inv X pins σ H s):interactive X.env=false:=by simp[interactive,I.ok.kind]
noncomputable def Qf(te:TE):TS:=λD σ H=>te σ H λ_ H1=>D.nx σ H1
theorem cG(he:PE X e te)(hs:swapsWith e none pos.line X.env=pure false:=by rfl):PS X (.Expr e pos) (Qf te):=by
 intro pins s σ H D I h;exact wpAny_Expr_any (aL (he pins s σ H _ I h) λv s1 ⟨x,H1,I1,r1,q1⟩=>⟨σ,H1,I1,q1⟩) I.quiet hs
noncomputable def Qn(te:TE):TS:=λD σ H=>te σ H D.rt
theorem aX(he:PE X e te):PS X (.Return (some e) pos) (Qn te):=by
 intro pins s σ H D I h;exact wpAny_Return_some (aL (he pins s σ H _ I h) λv s1 ⟨x,H1,I1,r1,q1⟩=>⟨x,σ,H1,I1,r1,q1⟩)
noncomputable def Qh(c:TT)(t u:TS):TS:=λD σ H=>c σ H λb H1=>if b=true then t D σ H1 else u D σ H1
theorem bU{c:Expr}{a b:List Stmt}{tc:TT}(hc:PT X c tc)(ha:fB X a t)(hb:fB X b u):PS X (.If c a b pos) (Qh tc t u):=by
 intro pins s σ H D I h;refine wpAny_If (aL (hc pins s σ H _ I h) λd s1 ⟨H1,I1,q1⟩=>?_);cases d with
 |true=>exact ha pins s1 σ H1 D I1 q1
 |false=>exact hb pins s1 σ H1 D I1 q1
noncomputable def aa3:TS:=λ_ _ _=>False
theorem qW:PS X st aa3:=λ_ _ _ _ _ _ h=>h.elim
end
abbrev TG:=V->St->Hp->(St->Hp->Prop)->Prop
abbrev ke:=List V->St->Hp->(St->Hp->Prop)->Prop
noncomputable def PG(X:Cx)(target:Expr)(t:TG):Prop:=
 ∀(pins:List (Addr × Obj)) (s:Shared) (σ:St) (H:Hp) (v:V) (u:Value) (Q:St->Hp->Prop),Inv X pins σ H s->RelV v u->t v σ H Q ->
  wpAny (model X.prog X.w) X.A (assign target X.env u) (λ_ s'=>∃σ' H',Inv X pins σ' H' s'/\Q σ' H') X.xe s
noncomputable def pA(X:Cx)(ts:List Expr)(t:ke):Prop:=
 ∀(pins:List (Addr × Obj)) (s:Shared) (σ:St) (H:Hp) (vs:List V) (us:List Value) (Q:St->Hp->Prop),Inv X pins σ H s->Vals vs us->t vs σ H Q ->
  wpAny (model X.prog X.w) X.A (assignInOrder ((assignEach ts X.env).map (·.2)) us) (λ_ s'=>∃σ' H',Inv X pins σ' H' s'/\Q σ' H') X.xe s
abbrev xZ:=V->V->V->Hp->(Hp->Prop)->Prop
noncomputable def GK(X:Cx)(t:xZ):Prop:=
 ∀(pins:List (Addr × Obj)) (s:Shared) (σ:St) (H:Hp) (o i v:V) (ov iv u:Value) (Q:Hp->Prop),Inv X pins σ H s->RelV o ov->RelV i iv->RelV v u->t o i v H Q ->
  wpAny (model X.prog X.w) X.A (setItem ov iv u) (λ_ s'=>∃H',Inv X pins σ H' s'/\Q H') X.xe s
section
variable {X:Cx} {pos:Pos}
noncomputable def bj(i:Nat):TG:=λv σ H Q=>Q (σ.set i (some v)) H
theorem aW{i:Nat}{x:Str}(hN:X.N.Nodup)(hi:X.N[i]?=some x)(hx:Loc X.env.scope x)(hf:X.fn x=true\/X.env.scope.names.lookup x=some .local:=by first|exact .inl rfl|exact .inr rfl|assumption):PG X (.Name x pos) (bj i):=by
 intro pins s σ H v u Q I r h;exact wpAny_assign_Name (P7 I hN hi hx r (λs' I'=>⟨_,H,I',h⟩) hf)
noncomputable def qj:ke:=λvs σ H Q=>vs = []/\Q σ H
noncomputable def jB(t:TG)(u:ke):ke:=λvs σ H Q=>∃v r,vs=v::r/\t v σ H λσ' H'=>u r σ' H' Q
theorem ow:pA X [] qj:=by
 intro pins s σ H vs us Q I r h;obtain⟨e,h⟩:=h;subst e;cases r;exact assignInOrder_nil ⟨σ,H,I,h⟩
theorem fN{e:Expr}{es:List Expr}{t:TG}{u:ke}(h1:PG X e t)(h2:pA X es u)(hs:(assignEach (e::es) X.env).map (·.2)=assign e X.env::(assignEach es X.env).map (·.2):=by rfl):pA X (e::es) (jB t u):=by
 intro pins s σ H vs us Q I r h;obtain⟨v,vr,e1,h⟩:=h;subst e1;cases r with
 |cons r rr =>
  rw[hs];refine assignInOrder_cons (aL (h1 pins s σ H _ _ _ I r h) λ_ s1 ⟨σ1,H1,I1,q1⟩=>?_);exact h2 pins s1 σ1 H1 _ _ Q I1 rr q1
noncomputable def nO(K:W.Frag)(n:Nat)(t:ke):TG:=λv σ H Q=>∃a xs,v = .ref a/\av K H a xs/\xs.length=n/\t xs σ H Q
theorem MN{es:List Expr}{k:Nat}{t:ke}{n:Nat}(hc:X.calm=true)(h:pA X es t)(hn:(assignEach es X.env).length=n:=by rfl)(hst:(assignEach es X.env).findIdx? (·.1)=none:=by rfl):PG X (.Tuple es k pos) (nO X.K n t):=by
 intro pins s σ H v u Q I r hw;obtain⟨a,xs,e1,hq,hl,hw⟩:=hw;subst e1;cases r;obtain⟨its,rv,ht,hz⟩:=I.tuple hq;refine assign_Tuple_tuple (I.ok.hd hc) ht (by simp[hn,<- hl,rv.length]) hst λh' hx=>?_;have I1:Inv X pins σ H {s with heap:=h'}:=I.kept (t':=s.toks) λb o e=>hx b o (bI (a9 e)) e;exact h pins _ σ H xs _ Q I1 (by simpa using rv) hw
noncomputable def Ux(to ti:TE)(t:xZ):TG:=λv σ H Q=>to σ H λo H1=>ti σ H1 λi H2=>t o i v H2 λH3=>Q σ H3
theorem qS{o i:Expr}{to ti:TE}{t:xZ}(ho:PE X o to)(hi:PE X i ti)(hs:GK X t)
  (ha:∀v,assign (.Subscript o i pos) X.env v=(do
   let ov <- holding [v] (eval o X.env)
   let iv <- holding [v,ov] (eval i X.env)
   standAt pos
   holding [v,ov,iv] (setItem ov iv v)
   release [v,ov,iv] []):=by intro _;rfl):PG X (.Subscript o i pos) (Ux to ti t):=by
 intro pins s σ H v u Q I r h;rw[ha];refine ah (iQ (aL (ho pins s σ H _ I h) λov s1 ⟨x,H1,I1,r1,q1⟩=>?_));refine ah (iQ (aL (hi pins s1 σ H1 _ I1 q1) λiv s2 ⟨y,H2,I2,r2,q2⟩=>?_));refine ah (wpAny_standAt (ah (iQ (aL (hs pins s2 σ H2 x y v ov iv u _ I2 r1 r2 r q2) λ_ s3 ⟨H3,I3,q3⟩=>?_))));exact wpAny_release ⟨σ,H3,I3,q3⟩
noncomputable def rK(te:TE)(g:TG):TS:=λD σ H=>te σ H λx H1=>g x σ H1 D.nx
theorem kI{tg e:Expr}{te:TE}{g:TG}(he:PE X e te)(hg:PG X tg g)(hs:swapsWithSole [tg] e pos.line X.env=pure false:=by rfl)(hw:swappedStores [tg] e X.env=pure none:=by rfl)
  (h1:(assignEach [tg] X.env).map (·.2) = [assign tg X.env]:=by rfl):PS X (.Assign [tg] e pos) (rK te g):=by
 intro pins s σ H D I h;refine wpAny_Assign_stores (aL (he pins s σ H _ I h) λv s1 ⟨x,H1,I1,r1,q1⟩=>?_) hs hw;rw[h1];exact aL (hg pins s1 σ H1 x v _ I1 r1 q1) λ_ s2 q=>q
theorem aQ{i:Nat}{x:Str}{e:Expr}{te:TE}{pos':Pos}(hN:X.N.Nodup)(hi:X.N[i]?=some x)(hx:Loc X.env.scope x)(he:PE X e te)(hs:swapsWith e (some (.Name x pos')) pos.line X.env=pure false:=by rfl)(hf:X.fn x=true\/X.env.scope.names.lookup x=some .local:=by first|exact .inl rfl|exact .inr rfl|assumption):
  PS X (.Assign [.Name x pos'] e pos) (rK te (bj i)):=by
 intro pins s σ H D I h;refine wpAny_Assign_Name (aL (he pins s σ H _ I h) λv s1 ⟨y,H1,I1,r1,q1⟩=>?_) hs;exact P7 I1 hN hi hx r1 (λs2 I2=>⟨_,H1,I2,q1⟩) hf
noncomputable def abb(c:TT)(tb:TS):TS:=λD σ H=>∃W:Nat->St->Hp->Prop,(∃m,W m σ H)/\∀m σ H,W m σ H ->
 c σ H λb H1=>if b=true then ∃N:St->Hp->Prop,(∀σ' H',N σ' H'->∃m',m'<m/\W m' σ' H')/\tb {D with nx:=N,ct:=N,bk:=D.nx} σ H1 else D.nx σ H1
theorem ZR{c:Expr}{body:List Stmt}{tc:TT}{tb:TS}(hp:PassesOwn (model X.prog X.w) X.A X.env X.xe)(hc:PT X c tc)(hb:fB X body tb):PS X (.While c body [] pos) (abb tc tb):=by
 intro pins s σ H D I h;obtain⟨W,⟨m0,w0⟩,turn⟩:=h;refine wpAny_While (codeAny_whileLoop (λn s'=>∃σ' H',Inv X pins σ' H' s'/\W n σ' H') ?_ m0 ⟨σ,H,I,w0⟩);rintro n s1 ⟨σ1,H1,I1,w1⟩;refine mU hp (aL (hc pins s1 σ1 H1 _ I1 (turn n σ1 H1 w1)) λb s2 ⟨H2,I2,q2⟩=>?_);cases b with
 |true =>
  obtain⟨N,hN,q2⟩:=q2;rw[aC rfl];refine mU hp (aL (hb pins s2 σ1 H2 _ I2 q2) λf s3 q3=>?_);cases f with
  |next =>
   obtain⟨σ3,H3,I3,n3⟩:=q3;obtain⟨m',hm,w3⟩:=hN σ3 H3 n3;exact⟨m',hm,σ3,H3,I3,w3⟩
  |cont =>
   obtain⟨σ3,H3,I3,n3⟩:=q3;obtain⟨m',hm,w3⟩:=hN σ3 H3 n3;exact⟨m',hm,σ3,H3,I3,w3⟩
  |brk=>exact q3
  |ret v=>exact q3
 |false =>
  rw[aq dJ];exact xR ⟨σ1,H2,I2,q2⟩
end
structure It where
 go:Nat->Hp->Prop
 jW:Nat->Hp->V->Hp->Prop
 stop:Nat->Hp->Prop
noncomputable def dq(X:Cx)(pins:List (Addr × Obj))(H:Hp)(b:Addr):Prop:=
 H b=none/\b≠X.env.locals/\b ∉ X.fs/\(b∈X.ex\/X.s₀.heap.objs.size<=b)/\(∀x c,X.env.cells.lookup x=some c->c≠b)/\∀p∈X.pn++pins,p.1≠b
theorem Inv.kj{X:Cx}{pins:List (Addr × Obj)}{σ:St}{H H':Hp}{s:Shared}{b:Addr}(I:Inv X pins σ H s)(hb:s.heap.objs.size<=b)(hn:H' b=none):dq X pins H' b:=by
 refine⟨hn,g_ (dE I.lt hb),I.Yi hb,.inr (di I.sz hb),λx c e z=>?_,λp hp z=>?_⟩
 ·obtain⟨v,q⟩:=I.cell x c e
  exact absurd (dE q.lt (by rw[z];exact hb)) (g6 _)
 ·exact absurd (dE (a9 (I.pin p hp).1) (by rw[z];exact hb)) (g6 _)
structure Turn (P:Program) (w:World) (K:W.Frag) (tg:Expr) (J:It) (fp:List Addr) (it:Addr) (tn:Nat->Heap->Prop):Prop where
 mem:it∈fp
 obj:∀i h,tn i h->∀b∈fp,∃o,h.get? b=some o/\∀v,o.data≠.cell v
 keep:∀i h h',tn i h->(∀b∈fp,∀o,h.get? b=some o->h'.get? b=some o)->tn i h'
 item:∀(X:Cx),X.prog=P->X.w=w->X.K=K->X.calm=true->∀(i:Nat) (pins:List (Addr × Obj)) (s:Shared) (σ:St) (H:Hp) (E:Value->Shared->Prop),Inv X pins σ H s->(∀b∈fp,dq X pins H b)->tn i s.heap->J.go i H ->
  wpAny (model P w) X.A (pyNext (.ref it)) (λr s1=>∃u,r=some u /\
   wpAny (model P w) X.A (letOwnedTupleGo tg (.ref it) u) (λ_ s2=>∃x H',Inv X pins σ H' s2/\RelV x u/\J.jW i H x H'/\tn (i+1) s2.heap/\∀b∈fp,H' b=none) E s1) E s
 done:∀(X:Cx),X.prog=P->X.w=w->X.K=K->X.calm=true->∀(i:Nat) (pins:List (Addr × Obj)) (s:Shared) (σ:St) (H:Hp) (E:Value->Shared->Prop),Inv X pins σ H s->(∀b∈fp,dq X pins H b)->tn i s.heap->J.stop i H ->
  wpAny (model P w) X.A (pyNext (.ref it)) (λr s1=>r=none/\Inv X pins σ H s1) E s
 self:∀(A:Around) (i:Nat) (s:Shared) (Q:Value->Shared->Prop) (E:Value->Shared->Prop),tn i s.heap->Q (.ref it) s->wpAny (model P w) A (pyIter (.ref it)) Q E s
abbrev TI:=St->Hp->(It->Hp->Prop)->Prop
noncomputable def PIE(X:Cx)(pins:List (Addr × Obj))(σ:St)(tg:Expr)(R:It->Hp->Prop)(itv:Value)(s2:Shared):Prop:=
 ∃(it:Addr) (fp:List Addr) (tn:Nat->Heap->Prop) (J:It) (H':Hp),itv = .ref it/\Inv X pins σ H' s2/\Turn X.prog X.w X.K tg J fp it tn/\tn 0 s2.heap/\(∀b∈fp,dq X pins H' b)/\R J H'
noncomputable def PI(X:Cx)(tg iter:Expr)(wi:TI):Prop:=
 ∀(pins:List (Addr × Obj)) (s:Shared) (σ:St) (H:Hp) (R:It->Hp->Prop),Inv X pins σ H s->wi σ H R ->
  wpAny (model X.prog X.w) X.A (eval iter X.env) (λv s1=>wpAny (model X.prog X.w) X.A (pyIter v) (PIE X pins σ tg R) X.xe s1) X.xe s
theorem ql{M:Model}{A:Around}{E:Value->Shared->Prop}{s:Shared}{tg:Expr}{it:Addr}{u:Value}{o:Obj}{n:String}{vs:Array Value}{Q:Unit->Shared->Prop}(ho:s.heap.get? it=some o)(hc:o.cls = .type n)(hd:o.data = .fields vs)
  (hn:["enumerate","zip","dict_itemiterator","dict_reverseitemiterator","odict_iterator","itertools.zip_longest","itertools.pairwise"].contains n=false) (hQ:Q () s):wpAny M A (letOwnedTupleGo tg (.ref it) u) Q E s:=by
 unfold letOwnedTupleGo;cases tg<;>first
  |exact aK hQ
  | (cases u<;>first
    |exact aK hQ
    | (refine ah (wpAny_load ho ?_);rw[hc,hd];show wpAny M A (if(["enumerate","zip","dict_itemiterator","dict_reverseitemiterator","odict_iterator","itertools.zip_longest","itertools.pairwise"].contains n&&vs[0]?==some (rawInt _))=true then _ else _) Q E s;rw[aq (by intro h;rw[hn,gX]at h;cases h)];exact aK hQ))
noncomputable def k7(K:W.Frag)(a:Addr):It:=
 ⟨λi H=>∃xs x,ai K H a xs/\xs[i]?=some x,λi H x H'=>H'=H/\∀xs,ai K H a xs->xs[i]?=some x,λi H=>∃xs,ai K H a xs/\xs.length<=i⟩
noncomputable def oT(K:W.Frag)(a:Addr):It:=
 ⟨λi H=>∃xs x,av K H a xs/\xs[i]?=some x,λi H x H'=>H'=H/\∀xs,av K H a xs->xs[i]?=some x,λi H=>∃xs,av K H a xs/\xs.length<=i⟩
noncomputable def j0(lo:Int)(n:Nat):It:=⟨λi _=>i<n,λi H x H'=>H'=H/\x = .int (lo+i),λi _=>n<=i⟩
theorem abh{P:Program}{w:World}{K:W.Frag}{tg:Expr}(a it:Addr):Turn P w K tg (k7 K a) [it] it (λi h=>h.IsListIter it a i) where
 mem:=by simp
 obj:=λi h st b hb=>by
  have e:b=it:=by simpa using hb
  subst e;obtain⟨o,e,c,d⟩:=st;exact⟨o,e,λv z=>by rw[d]at z;cases z⟩
 keep:=λi h h' st k=>st.at λo e=>k it (by simp) o e
 item:=by
  intro X hP hw hK hc i pins s σ H E I hf st hg;subst hP hw hK;obtain⟨xs,x,hq,hx⟩:=hg;obtain⟨its,rv,p,hz⟩:=I.list hq;obtain⟨u,hu,ru⟩:=rv.get hx;obtain⟨f0,f1,f2,f3,f4,f5⟩:=hf it (by simp);refine wpAny_pyNext_list_item st p.isList (x:=u) (by simpa using hu) λh' st' sb=>?_;have I1:Inv X pins σ H {s with heap:=h'}:=I.turned (t':=s.toks) (λb o hb e=>(sb.2 b hb).trans e) f0 f1 f3 f4 f5;obtain⟨o,e,c,d⟩:=id st';exact⟨u,rfl,ql (s:={s with heap:=h'}) e c d (by decide) ⟨x,H,I1,ru,⟨rfl,λys hy=>by rw[I.Bm hy hq];exact hx⟩,st',λb hb=>(hf b hb).1⟩⟩
 done:=by
  intro X hP hw hK hc i pins s σ H E I hf st hg;subst hP hw hK;obtain⟨xs,hq,hx⟩:=hg;obtain⟨its,rv,p,hz⟩:=I.list hq;obtain⟨f0,f1,f2,f3,f4,f5⟩:=hf it (by simp);have hl:=rv.length;exact wpAny_pyNext_list_end (I.ok.hd hc) st p.isList (by simp;omega) λh' eb=>⟨rfl,I.turned (t':=s.toks) (λb o hb e=>eb b o hb e) f0 f1 f3 f4 f5⟩
 self:=λ_ _ _ _ _ st h=>wpAny_pyIter_listiter st h
theorem abl{P:Program}{w:World}{K:W.Frag}{tg:Expr}(a it:Addr):Turn P w K tg (oT K a) [it] it (λi h=>h.IsTupleIter it a i) where
 mem:=by simp
 obj:=λi h st b hb=>by
  have e:b=it:=by simpa using hb
  subst e;obtain⟨o,e,c,d⟩:=st;exact⟨o,e,λv z=>by rw[d]at z;cases z⟩
 keep:=λi h h' st k=>st.at λo e=>k it (by simp) o e
 item:=by
  intro X hP hw hK hc i pins s σ H E I hf st hg;subst hP hw hK;obtain⟨xs,x,hq,hx⟩:=hg;obtain⟨its,rv,p,hz⟩:=I.tuple hq;obtain⟨u,hu,ru⟩:=rv.get hx;obtain⟨f0,f1,f2,f3,f4,f5⟩:=hf it (by simp);refine wpAny_pyNext_tuple_item st (show s.heap.IsTuple a its.toArray from p) (x:=u) (by simpa using hu) λh' st' sb=>?_;have I1:Inv X pins σ H {s with heap:=h'}:=I.turned (t':=s.toks) (λb o hb e=>(sb.2 b hb).trans e) f0 f1 f3 f4 f5;obtain⟨o,e,c,d⟩:=id st';exact⟨u,rfl,ql (s:={s with heap:=h'}) e c d (by decide) ⟨x,H,I1,ru,⟨rfl,λys hy=>by rw[I.EY hy hq];exact hx⟩,st',λb hb=>(hf b hb).1⟩⟩
 done:=by
  intro X hP hw hK hc i pins s σ H E I hf st hg;subst hP hw hK;obtain⟨xs,hq,hx⟩:=hg;obtain⟨its,rv,p,hz⟩:=I.tuple hq;obtain⟨f0,f1,f2,f3,f4,f5⟩:=hf it (by simp);have hl:=rv.length;exact wpAny_pyNext_tuple_end (I.ok.hd hc) st (show s.heap.IsTuple a its.toArray from p) (by simp;omega) λh' eb=>⟨rfl,I.turned (t':=s.toks) (λb o hb e=>eb b o hb e) f0 f1 f3 f4 f5⟩
 self:=λ_ _ _ _ _ st h=>wpAny_pyIter_tupleiter st h
theorem abi{P:Program}{w:World}{K:PySem.W.Frag}{tg:Expr}(it:Addr)(lo:Int)(n:Nat):Turn P w K tg (j0 lo n) [it] it (λi h=>IsRangeIter h it (lo+(i:Nat)*1) ((n:Int) - (i:Nat)) 1) where
 mem:=by simp
 obj:=λi h st b hb=>by
  have e:b=it:=by simpa using hb
  subst e;exact⟨_,st,λv z=>by
   have z':Data.fields _=Data.cell v:=z;cases z'⟩
 keep:=λi h h' st k=>k it (by simp) _ st
 item:=by
  intro X hP hw hK hc i pins s σ H E I hf st hg;subst hP hw hK;obtain⟨f0,f1,f2,f3,f4,f5⟩:=hf it (by simp);have W:=Walks.range (prog:=X.prog) (w:=X.w) (I.ok.hd hc) it lo 1 n;refine W.item i s _ _ hg st λv h' tk hv st' kk=>?_;obtain⟨t,rfl⟩:=hv;have I1:Inv X pins σ H {s with heap:=h',toks:=tk}:=I.turned (λb o hb e=>kk b o (by simpa using hb) e) f0 f1 f3 f4 f5;refine⟨_,rfl,ql (s:={s with heap:=h',toks:=tk}) (n:= "range_iterator") st' rfl rfl (by decide) ⟨.int (lo+i),H,I1,⟨t,?_⟩,⟨rfl,rfl⟩,st',λb hb=>(hf b hb).1⟩⟩;rw[Int.mul_one]
 done:=by
  intro X hP hw hK hc i pins s σ H E I hf st hg;subst hP hw hK;obtain⟨f0,f1,f2,f3,f4,f5⟩:=hf it (by simp);exact wpAny_pyNext_range_end (I.ok.hd hc) st (by have:n<=i:=hg;omega) λh' eb=>⟨rfl,I.turned (t':=s.toks) (λb o hb e=>eb b o hb e) f0 f1 f3 f4 f5⟩
 self:=λ_ _ _ _ _ st h=>wpAny_pyIter_rangeiter st h
section
variable {X:Cx} {tg:Expr}
noncomputable def Kh(K:W.Frag)(tl:TE):TI:=λσ H R=>tl σ H λx H1=>∃a,x = .ref a/\(∃xs,ai K H1 a xs)/\R (k7 K a) H1
noncomputable def Ki(K:W.Frag)(tl:TE):TI:=λσ H R=>tl σ H λx H1=>∃a,x = .ref a/\(∃xs,av K H1 a xs)/\R (oT K a) H1
theorem ZF{l:Expr}{tl:TE}(hl:PE X l tl):PI X tg l (Kh X.K tl):=by
 intro pins s σ H R I h;refine aL (hl pins s σ H _ I h) λv s1 ⟨x,H1,I1,r1,q1⟩=>?_;obtain⟨a,e,⟨xs,hq⟩,q⟩:=q1;subst e;cases r1;obtain⟨its,rv,p,hz⟩:=I1.list hq;refine si p.isList ?_;refine⟨s1.heap.objs.size,[s1.heap.objs.size],_,_,H1,rfl,I1.kept (t':=s1.toks) λb o e=>aU _ e,abh a _,⟨_,bJ _ rfl,rfl,rfl⟩,λb hb=>?_,q⟩;have e:b=s1.heap.objs.size:=by simpa using hb
 subst e;exact I1.kj (aY _) (I1.hok.fresh (aY _))
theorem ZL{l:Expr}{tl:TE}(hl:PE X l tl):PI X tg l (Ki X.K tl):=by
 intro pins s σ H R I h;refine aL (hl pins s σ H _ I h) λv s1 ⟨x,H1,I1,r1,q1⟩=>?_;obtain⟨a,e,⟨xs,hq⟩,q⟩:=q1;subst e;cases r1;obtain⟨its,rv,p,hz⟩:=I1.tuple hq;refine wpAny_pyIter_tuple (show s1.heap.IsTuple a its.toArray from p) ?_;refine⟨s1.heap.objs.size,[s1.heap.objs.size],_,_,H1,rfl,I1.kept (t':=s1.toks) λb o e=>aU _ e,abl a _,⟨_,bJ _ rfl,rfl,rfl⟩,λb hb=>?_,q⟩;have e:b=s1.heap.objs.size:=by simpa using hb
 subst e;exact I1.kj (aY _) (I1.hok.fresh (aY _))
theorem Np{pins:List (Addr × Obj)}{σ:St}{H:Hp}{s:Shared}{R:It->Hp->Prop}{E:Value->Shared->Prop}{lo hi:Int}{t u v:Tok}{tk:Nat}(I:Inv X pins σ H s)(h1:-(2 ^ 62)<=lo)(h2:lo<2 ^ 62)(h3:-(2 ^ 62)<=hi)(h4:hi<2 ^ 62)
  (q:R (j0 lo (hi - lo).toNat) H):wpAny (model X.prog X.w) X.A (pyIter (.ref s.heap.objs.size)) (PIE X pins σ tg R) E {s with heap:=s.heap.push {cls:=.type "range", data:=.fields #[.int lo t,.int hi u,.int 1 v]},toks:=tk}:=by
 refine wpAny_pyIter_range (IsRange.new ..) (small_one h1 h2 h3 h4) ?_;have I1:Inv X pins σ H {s with heap:=s.heap.push {cls:=.type "range", data:=.fields #[.int lo t,.int hi u,.int 1 v]},toks:=tk}:=I.kept λb o e=>aU _ e;refine⟨(s.heap.push {cls:=.type "range", data:=.fields #[.int lo t,.int hi u,.int 1 v]}).objs.size,[(s.heap.push {cls:=.type "range", data:=.fields #[.int lo t,.int hi u,.int 1 v]}).objs.size],_,_,H,rfl,
  I1.kept (t':=tk) λb o e=>aU _ e,abi _ lo (hi - lo).toNat,?_,λb hb=>?_,q⟩
 ·have e1:lo+((0:Nat):Int)*1=lo:=by simp
  have e2:(((hi - lo).toNat:Nat):Int) - ((0:Nat):Int)=Builtin.Range.rangeSize lo hi 1:=by rw[rangeSize_one];split<;>omega
  show IsRangeIter _ _ (lo+((0:Nat):Int)*1) ((((hi - lo).toNat:Nat):Int) - ((0:Nat):Int)) 1;rw[e1,e2];exact bJ _ rfl
 ·have e:b=(s.heap.push {cls:=.type "range", data:=.fields #[.int lo t,.int hi u,.int 1 v]}).objs.size:=by simpa using hb
  subst e;exact I1.kj (aY _) (I1.hok.fresh (aY _))
noncomputable def WQ(ta:TA):TI:=λσ H R=>ta σ H λvs H1=>∃j:Int,vs = [.int j]/\-(2 ^ 62)<=j/\j<2 ^ 62/\R (j0 0 j.toNat) H1
noncomputable def WR(ta:TA):TI:=λσ H R=>ta σ H λvs H1=>∃i j:Int,vs = [.int i,.int j]/\(-(2 ^ 62)<=i/\i<2 ^ 62/\-(2 ^ 62)<=j/\j<2 ^ 62)/\R (j0 i (j - i).toNat) H1
theorem bY {a:Expr} {ta:TA} {p pos:Pos} (hg:Gl X "range") (hm:X.mg "range" = none) (ha:PA X [a] ta) (hs:starEach [a] X.env = [(false,eval a X.env)]:=by rfl):PI X tg (.Call (.Name "range" p) [a] [] pos) (WQ ta):=by
 intro pins s σ H R I h;refine Call_ (iY I hg hm boot_range (mR (aL (ha pos pins s σ H _ I h) λus s1 ⟨vs,H1,I1,r1,q1⟩=>?_) hs rfl));obtain⟨j,e,q1,q2,q⟩:=q1;subst e;cases r1 with
 |cons r rr =>
  cases rr;obtain⟨t,rfl⟩:=r;exact call_range_1 (Np I1 (by omega) (by omega) q1 q2 (by simpa using q))
theorem MP {a b:Expr} {ta:TA} {p pos:Pos} (hg:Gl X "range") (hm:X.mg "range" = none) (ha:PA X [a,b] ta) (hs:starEach [a,b] X.env = [(false,eval a X.env),(false,eval b X.env)]:=by rfl) (hs2:starEach [b] X.env = [(false,eval b X.env)]:=by rfl) :
  PI X tg (.Call (.Name "range" p) [a,b] [] pos) (WR ta):=by
 intro pins s σ H R I h;refine Call_ (iY I hg hm boot_range (mR (aL (ha pos pins s σ H _ I h) λus s1 ⟨vs,H1,I1,r1,q1⟩=>?_) (by rw[hs,hs2]) (by rw[hs2];rfl)));obtain⟨i,j,e,⟨q1,q2,q3,q4⟩,q⟩:=q1;subst e;cases r1 with
 |cons r rr =>
  cases rr with
  |cons r' rr =>
   cases rr;obtain⟨t,rfl⟩:=r;obtain⟨t',rfl⟩:=r';exact call_range_2 (Np I1 q1 q2 q3 q4 q)
noncomputable def aa2(wi:TI)(g:TG)(tb:TS):TS:=λD σ H=>wi σ H λJ H1=>∃W:Nat->Nat->St->Hp->Prop,(∃m,W 0 m σ H1)/\∀i m σ H,W i m σ H ->
 (J.stop i H/\D.nx σ H)\/(J.go i H/\∃N:St->Hp->Prop,(∀σ' H',N σ' H'->∃m',m'<m/\W (i+1) m' σ' H')/\∀x H',J.jW i H x H'->g x σ H' λσ2 H2=>tb {D with nx:=N,ct:=N,bk:=D.nx} σ2 H2)
noncomputable def qU(fp:List Addr)(h:Heap):List (Addr × Obj):=fp.filterMap λb=>(h.get? b).map λo=>(b,o)
theorem uD{fp:List Addr}{h:Heap}{b:Addr}{o:Obj}(hb:b∈fp)(e:h.get? b=some o):(b,o)∈qU fp h:=List.mem_filterMap.mpr ⟨b,hb,by rw[e];rfl⟩
theorem Yl{fp:List Addr}{h:Heap}{p:Addr × Obj}(hp:p∈qU fp h):p.1∈fp/\h.get? p.1=some p.2:=by
 obtain⟨b,hb,e⟩:=List.mem_filterMap.mp hp;cases q:h.get? b with
 |none=>rw[q]at e;cases e
 |some o =>
  rw[q]at e;have e':(b,o)=p:=dW e;subst e';exact⟨hb,q⟩
theorem Inv.pinned{pins:List (Addr × Obj)}{σ:St}{H:Hp}{s:Shared}{fp:List Addr}(I:Inv X pins σ H s)(hf:∀b∈fp,dq X pins H b)(ho:∀b∈fp,∃o,s.heap.get? b=some o/\∀v,o.data≠.cell v):Inv X (pins++qU fp s.heap) σ H s:=
 I.uX λp hp=>(iK.mp hp).elim (λz=>I.pin p (fQ _ z)) λz=>by
  obtain⟨hb,e⟩:=Yl z;obtain⟨f0,f1,f2,_⟩:=hf p.1 hb;obtain⟨o,e',d⟩:=ho p.1 hb;rw[e]at e';cases e';exact⟨e,f0,f1,f2,d⟩
theorem Inv.wJ{pins pl:List (Addr × Obj)}{σ:St}{H:Hp}{s:Shared}(I:Inv X (pins++pl) σ H s):Inv X pins σ H s:=I.uX λp hp=>I.pin p (fQ _ (xn _ hp))
theorem cn{iter:Expr}{body:List Stmt}{wi:TI}{g:TG}{tb:TS}{pos:Pos}(hp:PassesOwn (model X.prog X.w) X.A X.env X.xe)(hc:X.calm=true)(hi:PI X tg iter wi)(hg:PG X tg g)(hb:fB X body tb)(hs:∀x,foldedSetIterable iter X.env x=pure x:=by intro _;rfl):PS X (.For tg iter body [] pos) (aa2 wi g tb):=by
 intro pins s σ H D I h;refine wpAny_For (aL (hi pins s σ H _ I h) λv s1 h1=>aL h1 λitv s2 h2=>?_) hs;obtain⟨it,fp,tn,J,H2,e,I2,T,st2,f2,W,⟨m0,w0⟩,turn⟩:=h2;subst e;have stat:∀{H':Hp},(∀b∈fp,H' b=none)->∀b∈fp,dq X pins H' b:=λhn b hb=>⟨hn b hb,(f2 b hb).2⟩;refine codeAny_forLoop_any (λn s'=>∃i σ' H',Inv X pins σ' H' s'/\tn i s'.heap/\(∀b∈fp,H' b=none)/\W i n σ' H') ?_ m0 ⟨0,σ,H2,I2,st2,λb hb=>(f2 b hb).1,w0⟩;rintro n s3 ⟨i,σ3,H3,I3,st3,qi,w3⟩
 rcases turn i n σ3 H3 w3 with⟨stop,qn⟩|⟨go,N,hN,step⟩
 ·refine mU hp (aL (T.done X rfl rfl rfl hc i pins s3 σ3 H3 X.xe I3 (stat qi) st3 stop) λr s4 ⟨hr,I4⟩=>?_)
  subst hr;exact xR ⟨σ3,H3,I4,qn⟩
 ·refine mU hp (aL (T.item X rfl rfl rfl hc i pins s3 σ3 H3 X.xe I3 (stat qi) st3 go) λr s4 ⟨u,hr,h4⟩=>?_)
  subst hr;refine mU hp (aL h4 λ_ s5 ⟨x,H5,I5,r5,y5,je,zO⟩=>?_);have w5:=I5.pinned (stat zO) (T.obj _ _ je);refine mU hp (aL (hg _ s5 σ3 H5 x u _ w5 r5 (step x H5 y5)) λ_ s6 ⟨σ6,H6,I6,q6⟩=>?_);refine mU hp (aL (hb _ s6 σ6 H6 _ I6 q6) λf s7 q7=>?_);have again:∀{σ7:St} {H7:Hp},Inv X (pins++qU fp s5.heap) σ7 H7 s7->N σ7 H7->∃m,m<n/\∃i σ' H',Inv X pins σ' H' s7/\tn i s7.heap/\(∀b∈fp,H' b=none)/\W i m σ' H':=λ{σ7 H7} I7 n7=>by
   obtain⟨m',hm,w7⟩:=hN σ7 H7 n7;refine⟨m',hm,i+1,σ7,H7,I7.wJ,T.keep _ _ _ je λb hb o e=>(I7.pin (b,o) (fQ _ (fQ _ (uD hb e)))).1,λb hb=>?_,w7⟩;obtain⟨o,e,d⟩:=T.obj _ _ je b hb;exact(I7.pin (b,o) (fQ _ (fQ _ (uD hb e)))).2.1
  cases f with
  |next=>obtain⟨σ7,H7,I7,n7⟩:=q7;exact again I7 n7
  |cont=>obtain⟨σ7,H7,I7,n7⟩:=q7;exact again I7 n7
  |brk=>obtain⟨σ7,H7,I7,q7⟩:=q7;exact⟨σ7,H7,I7.wJ,q7⟩
  |ret v=>obtain⟨x7,σ7,H7,I7,r7,q7⟩:=q7;exact⟨x7,σ7,H7,I7.wJ,r7,q7⟩
end
theorem iS{K:PySem.W.Frag}{a:Addr}{xs:List V}{g:TG}{tb:TS}{D:Ends}{σ:St}{H:Hp}(Pv:Nat->St->Hp->Prop)(h0:Pv 0 σ H)(hl:∀i σ H,i<=xs.length->Pv i σ H->ai K H a xs)
  (hs:∀i x σ H,xs[i]?=some x->Pv i σ H->g x σ H λσ2 H2=>tb {D with nx:=Pv (i+1),ct:=Pv (i+1),bk:=D.nx} σ2 H2) (hd:∀σ H,Pv xs.length σ H->D.nx σ H) :
  ∃W:Nat->Nat->St->Hp->Prop,(∃m,W 0 m σ H)/\∀i m σ H,W i m σ H ->
   ((k7 K a).stop i H/\D.nx σ H)\/((k7 K a).go i H/\∃N:St->Hp->Prop,(∀σ' H',N σ' H'->∃m',m'<m/\W (i+1) m' σ' H')/\∀x H',(k7 K a).jW i H x H'->g x σ H' λσ2 H2=>tb {D with nx:=N,ct:=N,bk:=D.nx} σ2 H2):=by
 refine⟨λi m σ H=>m=xs.length - i/\i<=xs.length/\Pv i σ H,⟨xs.length,by simp,cW _,h0⟩,?_⟩;rintro i m σ H ⟨rfl,hi,p⟩;have q:=hl i σ H hi p
 by_cases hlt:i<xs.length
 ·refine .inr ⟨⟨xs,xs[i],q,by simp[hlt]⟩,Pv (i+1),λσ' H' p'=>⟨xs.length - (i+1),by omega,rfl,hlt,p'⟩,λx H' y=>?_⟩
  obtain⟨e,y⟩:=y;subst e;exact hs i x σ _ (y xs q) p
 ·have e:i=xs.length:=by omega
  subst e;exact .inl ⟨⟨xs,q,aY _⟩,hd σ H p⟩
theorem eu{lo:Int}{n:Nat}{g:TG}{tb:TS}{D:Ends}{σ:St}{H:Hp}(Pv:Nat->St->Hp->Prop)(h0:Pv 0 σ H)
  (hs:∀i σ H,i<n->Pv i σ H->g (.int (lo+i)) σ H λσ2 H2=>tb {D with nx:=Pv (i+1),ct:=Pv (i+1),bk:=D.nx} σ2 H2) (hd:∀σ H,Pv n σ H->D.nx σ H) :
  ∃W:Nat->Nat->St->Hp->Prop,(∃m,W 0 m σ H)/\∀i m σ H,W i m σ H ->
   ((j0 lo n).stop i H/\D.nx σ H)\/((j0 lo n).go i H/\∃N:St->Hp->Prop,(∀σ' H',N σ' H'->∃m',m'<m/\W (i+1) m' σ' H')/\∀x H',(j0 lo n).jW i H x H'->g x σ H' λσ2 H2=>tb {D with nx:=N,ct:=N,bk:=D.nx} σ2 H2):=by
 refine⟨λi m σ H=>m=n - i/\i<=n/\Pv i σ H,⟨n,by simp,cW _,h0⟩,?_⟩;rintro i m σ H ⟨rfl,hi,p⟩
 by_cases hlt:i<n
 ·refine .inr ⟨hlt,Pv (i+1),λσ' H' p'=>⟨n - (i+1),by omega,rfl,hlt,p'⟩,λx H' y=>?_⟩
  obtain⟨e,y⟩:=y;subst e y;exact hs i σ _ hlt p
 ·have e:i=n:=by omega
  subst e;exact .inl ⟨aY _,hd σ H p⟩
abbrev R2:=V->V->Hp->VK->Prop
noncomputable def cx(X:Cx)(f:Value->Value->Sem Value)(r:R2):Prop:=
 ∀(pins:List (Addr × Obj)) (s:Shared) (σ:St) (H:Hp) (x y:V) (v u:Value) (Q:VK),Inv X pins σ H s->RelV x v->RelV y u->r x y H Q ->
  wpAny (model X.prog X.w) X.A (f v u) (EP X pins σ Q) X.xe s
noncomputable def d5(X:Cx)(f:Value)(r:List V->Hp->VK->Prop):Prop:=
 ∀(pins:List (Addr × Obj)) (s:Shared) (σ:St) (H:Hp) (xs:List V) (us:List Value) (Q:VK),Inv X pins σ H s->Vals xs us->r xs H Q ->
  wpAny (model X.prog X.w) X.A (call f us) (EP X pins σ Q) X.xe s
noncomputable def mB(r:R2)(ta tb:TE):TE:=λσ H Q=>ta σ H λx H1=>tb σ H1 λy H2=>r x y H2 Q
noncomputable def rI(C:Int->Int->Prop)(g:Int->Int->V):R2:=λx y H Q=>∃i j,x = .int i/\y = .int j/\C i j/\Q (g i j) H
noncomputable def iC(g:Int->Int->V):R2:=λx y H Q=>∃i j,x = .int i/\y = .int j/\Q (g i j) H
section
variable {X:Cx} {a b c:Expr} {ta tb tc:TE} {pos:Pos}
theorem yg(ha:PE X a ta)(hb:PE X b tb){pins:List (Addr × Obj)}{s:Shared}{σ:St}{H:Hp}{R:V->V->Hp->Prop}(I:Inv X pins σ H s)(h:ta σ H λx H1=>tb σ H1 λy H2=>R x y H2){Q:Value->Shared->Prop}{f:Value->Value->Sem Value}(hf:∀v u s2 x y H2,Inv X pins σ H2 s2->RelV x v->RelV y u->R x y H2->wpAny (model X.prog X.w) X.A (f v u) Q X.xe s2):wpAny (model X.prog X.w) X.A (eval a X.env) (λv s₁=>wpAny (model X.prog X.w) X.A (eval b X.env) (λu s₂=>wpAny (model X.prog X.w) X.A (f v u) Q X.xe s₂) X.xe s₁) X.xe s:=by
 refine aL (ha pins s σ H _ I h) λv s1 ⟨x,H1,I1,r1,q1⟩=>?_;refine aL (hb pins s1 σ H1 _ I1 q1) λu s2 ⟨y,H2,I2,r2,q2⟩=>?_;exact hf v u s2 x y H2 I2 r1 r2 q2
theorem aB{op:Operator}{r:R2}(ho:cx X (binaryOp op) r)(ha:PE X a ta)(hb:PE X b tb):PE X (.BinOp a op b pos) (mB r ta tb):=by
 intro pins s σ H Q I h;exact wpAny_BinOp (yg ha hb I h λv u s2 x y H2 I2 rx ry q=>ho pins s2 σ H2 x y v u Q I2 rx ry q)
theorem l0{f:Value->Value->Sem Value}{C:Int->Int->Prop}{g:Int->Int->Int}
  (rule:∀(i j:Int) (t u:Tok) (s:Shared) (Q:Value->Shared->Prop) (E:Value->Shared->Prop),C i j->Q (.int (g i j) s.toks) {s with toks:=s.toks+1}->wpAny (model X.prog X.w) X.A (f (.int i t) (.int j u)) Q E s) :
  cx X f (rI C λi j=>.int (g i j)):=by
 intro pins s σ H x y v u Q I rx ry h;obtain⟨i,j,rfl,rfl,hc,q⟩:=h;obtain⟨t,rfl⟩:=rx;obtain⟨t',rfl⟩:=ry;exact rule i j t t' s _ _ hc ⟨.int (g i j),H,I.tok _,⟨_,rfl⟩,q⟩
theorem uO{f:Value->Value->Sem Value}{g:Int->Int->Int}
  (rule:∀(i j:Int) (t u:Tok) (s:Shared) (Q:Value->Shared->Prop) (E:Value->Shared->Prop),Q (.int (g i j) s.toks) {s with toks:=s.toks+1}->wpAny (model X.prog X.w) X.A (f (.int i t) (.int j u)) Q E s) :
  cx X f (iC λi j=>.int (g i j)):=by
 intro pins s σ H x y v u Q I rx ry h;obtain⟨i,j,rfl,rfl,q⟩:=h;obtain⟨t,rfl⟩:=rx;obtain⟨t',rfl⟩:=ry;exact rule i j t t' s _ _ ⟨.int (g i j),H,I.tok _,⟨_,rfl⟩,q⟩
theorem uN{f:Value->Value->Sem Value}{g:Int->Int->Bool}(rule:∀(i j:Int) (t u:Tok) (s:Shared) (Q:Value->Shared->Prop) (E:Value->Shared->Prop),Q (.bool (g i j)) s->wpAny (model X.prog X.w) X.A (f (.int i t) (.int j u)) Q E s):cx X f (iC λi j=>.bl (g i j)):=by
 intro pins s σ H x y v u Q I rx ry h;obtain⟨i,j,rfl,rfl,q⟩:=h;obtain⟨t,rfl⟩:=rx;obtain⟨t',rfl⟩:=ry;exact rule i j t t' s _ _ ⟨.bl (g i j),H,I,rfl,q⟩
noncomputable def Ft(i j:Int):Prop:=0<j/\j<1073741824
noncomputable def rO(i j:Int):Prop:=0<=j/\j<=1000000/\i.natAbs<2 ^ 64
noncomputable def rN(i j:Int):Prop:=(-(2 ^ 64)<i/\i<2 ^ 64)\/(-(2 ^ 64)<j/\j<2 ^ 64)
theorem rN.ok{i j:Int}(h:rN i j):IntMulOk i j:=by
 rcases h with⟨h1,h2⟩|⟨h1,h2⟩
 ·exact .of_left (intBits_le_64 h1 h2)
 ·exact .of_right (intBits_le_64 h1 h2)
theorem abo(k:Nat):(0:Int)<=2 ^ k:=by
 rw[two_pow_cast];exact Int.natCast_nonneg _
theorem cY:cx X (binaryOp .Add) (iC λi j=>.int (i+j)):=uO λ_ _ _ _ _ _ _ q=>add_int q
theorem qN:cx X (binaryOp .Sub) (iC λi j=>.int (i - j)):=uO λ_ _ _ _ _ _ _ q=>sub_int q
theorem fj:cx X (binaryOp .Mult) (rI rN λi j=>.int (i*j)):=l0 λ_ _ _ _ _ _ _ hc q=>mul_int q hc.ok
theorem qM:cx X (binaryOp .FloorDiv) (rI Ft λi j=>.int (i / j)):=l0 λi j _ _ _ _ _ hc q=>by
 have h1:(0:Int)<j:=hc.1;have h2:j<1073741824:=hc.2;exact floordiv_int (by omega) (by rw[Fz i (by omega)];exact q) (.inl (PyProof.noPylong_small (by omega)))
theorem cR:cx X (binaryOp .Mod) (rI (λ_ j=>0<j) λi j=>.int (i % j)):=l0 λi j _ _ _ _ _ hc q=>by
 have h1:(0:Int)<j:=hc;exact mod_int' (by omega) (by rw[Int.fmod_eq_emod_of_nonneg i (by omega)];exact q)
theorem Ze:cx X (binaryOp .Pow) (rI rO λi j=>.int (i ^ j.toNat)):=l0 λ_ _ _ _ _ _ _ hc q=>pow_int_small hc.1 hc.2.1 hc.2.2 q
theorem iz:cx X (binaryOp .LShift) (rI rO λi j=>.int (i*2 ^ j.toNat)):=l0 λ_ _ _ _ _ _ _ hc q=>lshift_int_small hc.1 hc.2.1 hc.2.2 q
theorem uS:cx X (binaryOp .RShift) (rI (λ_ j=>0<=j) λi j=>.int (i / 2 ^ j.toNat)):=l0 λi j _ _ _ _ _ hc q =>
 rshift_int hc (by rw[Fz i (abo _)];exact q)
theorem kC:cx X (binaryOp .BitAnd) (iC λi j=>.int (Builtin.bitAnd i j)):=uO λ_ _ _ _ _ _ _ q=>and_int q
theorem Bz:cx X (binaryOp .BitOr) (iC λi j=>.int (Builtin.bitOr i j)):=uO λ_ _ _ _ _ _ _ q=>or_int q
end
noncomputable def PB:V->V->Bool
 |.non,.non=>true | .non,.int _=>true | .int _,.non=>true | .non,.bl _=>true | .bl _,.non=>true | .non,.str _=>true | .str _,.non=>true
 |.int _,.int _=>true | .bl _,.bl _=>true | .str _,.str _=>true | .gN _,.gN _=>true
 |.int _,.str _=>true | .str _,.int _=>true | .bl _,.str _=>true | .str _,.bl _=>true
 |_,_=>false
noncomputable def Z4:R2:=λx y H Q=>PB x y=true/\Q (.bl (decide (x=y))) H
noncomputable def Z8:R2:=λx y H Q=>PB x y=true/\Q (.bl (!decide (x=y))) H
theorem Ip{i j:Int}:decide (V.int i=V.int j)=(i==j):=by
 rw[eX];simp
theorem Im{i j:Bool}:decide (V.bl i=V.bl j)=(i==j):=by
 rw[eX];simp
theorem Iq{i j:Str}:decide (V.str i=V.str j)=(i==j):=by
 rw[eX];simp
theorem Io{i j:Array UInt8}:decide (V.gN i=V.gN j)=(i.toList==j.toList):=by
 rw[eX];cases i;cases j;simp
section
variable {X:Cx} {a b c:Expr} {ta tb tc:TE} {pos:Pos}
theorem cy{pins:List (Addr × Obj)}{σ:St}{H:Hp}{s:Shared}{Q:VK}{k k':Bool}(I:Inv X pins σ H s)(q:Q (.bl k) H)(e:k=k'):EP X pins σ Q (.bool k') s:=by
 subst e;exact⟨.bl k,H,I,rfl,q⟩
theorem fh:cx X (compareOp .Eq) Z4:=by
 intro pins s σ H x y v u Q I rx ry h;obtain⟨hs,q⟩:=h;cases x with
 |non =>
  cases rx;cases y with
  |non=>cases ry;exact PySem.EqNone.eq_none_none (cy I q (by simp))
  |bl j=>cases ry;exact PySem.EqNone.eq_none_bool (cy I q (by simp))
  |int j=>obtain⟨t',rfl⟩:=ry;exact PySem.EqNone.eq_none_int (cy I q (by simp))
  |str j=>obtain⟨t',rfl⟩:=ry;exact PySem.EqNone.eq_none_str (cy I q (by simp))
  |_=>exact absurd (show false=true from hs) dJ
 |bl i =>
  cases rx;cases y with
  |non=>cases ry;exact PySem.EqNone.eq_bool_none (cy I q (by simp))
  |bl j=>cases ry;exact eq_bool (cy I q Im)
  |str j=>obtain⟨t',rfl⟩:=ry;exact PySem.EqMixed.eq_bool_str (cy I q (by simp))
  |_=>exact absurd (show false=true from hs) dJ
 |int i =>
  obtain⟨t,rfl⟩:=rx;cases y with
  |non=>cases ry;exact PySem.EqNone.eq_int_none (cy I q (by simp))
  |int j=>obtain⟨t',rfl⟩:=ry;exact eq_int (cy I q Ip)
  |str j=>obtain⟨t',rfl⟩:=ry;exact PySem.EqMixed.eq_int_str (cy I q (by simp))
  |_=>exact absurd (show false=true from hs) dJ
 |str i =>
  obtain⟨t,rfl⟩:=rx;cases y with
  |non=>cases ry;exact PySem.EqNone.eq_str_none (cy I q (by simp))
  |bl j=>cases ry;exact PySem.EqMixed.eq_str_bool (cy I q (by simp))
  |int j=>obtain⟨t',rfl⟩:=ry;exact PySem.EqMixed.eq_str_int (cy I q (by simp))
  |str j=>obtain⟨t',rfl⟩:=ry;exact eq_str (cy I q Iq)
  |_=>exact absurd (show false=true from hs) dJ
 |gN i =>
  obtain⟨t,rfl⟩:=rx;cases y with
  |gN j=>obtain⟨t',rfl⟩:=ry;exact W.eq_bytes (cy I q Io)
  |_=>exact absurd (show false=true from hs) dJ
 |_=>cases y<;>exact absurd (show false=true from hs) dJ
theorem ja:cx X (compareOp .NotEq) Z8:=by
 intro pins s σ H x y v u Q I rx ry h;obtain⟨hs,q⟩:=h;cases x with
 |non =>
  cases rx;cases y with
  |non=>cases ry;exact PySem.EqNone.ne_none_none (cy I q (by simp))
  |bl j=>cases ry;exact PySem.EqNone.ne_none_bool (cy I q (by simp))
  |int j=>obtain⟨t',rfl⟩:=ry;exact PySem.EqNone.ne_none_int (cy I q (by simp))
  |str j=>obtain⟨t',rfl⟩:=ry;exact PySem.EqNone.ne_none_str (cy I q (by simp))
  |_=>exact absurd (show false=true from hs) dJ
 |bl i =>
  cases rx;cases y with
  |non=>cases ry;exact PySem.EqNone.ne_bool_none (cy I q (by simp))
  |bl j=>cases ry;exact ne_bool (cy I q (congrArg not Im))
  |str j=>obtain⟨t',rfl⟩:=ry;exact PySem.EqMixed.ne_bool_str (cy I q (by simp))
  |_=>exact absurd (show false=true from hs) dJ
 |int i =>
  obtain⟨t,rfl⟩:=rx;cases y with
  |non=>cases ry;exact PySem.EqNone.ne_int_none (cy I q (by simp))
  |int j=>obtain⟨t',rfl⟩:=ry;exact ne_int (cy I q (congrArg not Ip))
  |str j=>obtain⟨t',rfl⟩:=ry;exact PySem.EqMixed.ne_int_str (cy I q (by simp))
  |_=>exact absurd (show false=true from hs) dJ
 |str i =>
  obtain⟨t,rfl⟩:=rx;cases y with
  |non=>cases ry;exact PySem.EqNone.ne_str_none (cy I q (by simp))
  |bl j=>cases ry;exact PySem.EqMixed.ne_str_bool (cy I q (by simp))
  |int j=>obtain⟨t',rfl⟩:=ry;exact PySem.EqMixed.ne_str_int (cy I q (by simp))
  |str j=>obtain⟨t',rfl⟩:=ry;exact ne_str (cy I q (congrArg not Iq))
  |_=>exact absurd (show false=true from hs) dJ
 |gN i =>
  obtain⟨t,rfl⟩:=rx;cases y with
  |gN j=>obtain⟨t',rfl⟩:=ry;exact W.ne_bytes (cy I q (congrArg not Io))
  |_=>exact absurd (show false=true from hs) dJ
 |_=>cases y<;>exact absurd (show false=true from hs) dJ
theorem uR:cx X (compareOp .Lt) (iC λi j=>.bl (decide (i<j))):=uN λ_ _ _ _ _ _ _ q=>lt_int q
theorem uQ:cx X (compareOp .LtE) (iC λi j=>.bl (decide (i<=j))):=uN λ_ _ _ _ _ _ _ q=>le_int q
theorem uP:cx X (compareOp .Gt) (iC λi j=>.bl (decide (j<i))):=uN λ_ _ _ _ _ _ _ q=>gt_int q
theorem Zc:cx X (compareOp .GtE) (iC λi j=>.bl (decide (j<=i))):=uN λ_ _ _ _ _ _ _ q=>ge_int q
theorem By:cx X (compareOp .Is) (λx y H Q=>y = .non/\Q (.bl (decide (x = .non))) H):=by
 intro pins s σ H x y v u Q I rx ry h;obtain⟨rfl,q⟩:=h;cases ry;refine is_none_gen (cy I q ?_);cases x<;>first
  | (cases rx;rfl)
  | (obtain⟨t,rfl⟩:=rx;rfl)
theorem bN(b:Expr){op:CmpOp}(h:op≠.In:=by decide)(h2:op≠.NotIn:=by decide):behindInMarks op b=false:=by
 have e1:(op==CmpOp.In)=false:=by cases op<;>first|rfl|exact absurd rfl h
 have e2:(op==CmpOp.NotIn)=false:=by cases op<;>first|rfl|exact absurd rfl h2
 cases b<;>simp[behindInMarks,e1,e2]
theorem qQ{op:CmpOp}{r:R2}(ho:cx X (compareOp op) r)(ha:PE X a ta)(hb:PE X b tb)(hm:behindInMarks op b=false):PE X (.Compare a [op] [b] pos) (mB r ta tb):=by
 intro pins s σ H Q I h;exact wpAny_Compare1 (yg ha hb I h λv u s2 x y H2 I2 rx ry q=>ho pins s2 σ H2 x y v u Q I2 rx ry q) hm
noncomputable def Qo(t:TE):TT:=λσ H Q=>t σ H λx H'=>∃k,x = .bl k/\Q k H'
theorem bV{op:CmpOp}{r:R2}(ho:cx X (compareOp op) r)(ha:PE X a ta)(hb:PE X b tb)(hm:behindInMarks op b=false):PT X (.Compare a [op] [b] pos) (Qo (mB r ta tb)):=by
 intro pins s σ H Q I h;refine wpAny_isTrue_Compare1 (aL (ha pins s σ H _ I h) λv s1 ⟨x,H1,I1,r1,q1⟩=>aL (hb pins s1 σ H1 _ I1 q1) λu s2 ⟨y,H2,I2,r2,q2⟩ =>
  aL (ho pins s2 σ H2 x y v u _ I2 r1 r2 q2) λc s3 ⟨z,H3,I3,r3,k,e,q3⟩=>?_) hm
 subst e;cases r3;exact j9 ⟨H3,I3,q3⟩
noncomputable def Qc(r r':R2)(ta tb tc:TE):TE:=λσ H Q=>ta σ H λx H1=>tb σ H1 λy H2=>r x y H2 λz H3=>∃k,z = .bl k /\
 (if k=true then tc σ H3 λw' H4=>r' y w' H4 Q else Q (.bl false) H3)
theorem Zn{op op':CmpOp}{r r':R2}(ho:cx X (compareOp op) r)(ho':cx X (compareOp op') r')(ha:PE X a ta)(hb:PE X b tb)(hc:PE X c tc)(hm:lastMarks [op,op'] [b,c]=false:=by with_unfolding_all rfl):PE X (.Compare a [op,op'] [b,c] pos) (Qc r r' ta tb tc):=by
 intro pins s σ H Q I h;refine Compare_chain (aL (ha pins s σ H _ I h) λv s1 ⟨x,H1,I1,r1,q1⟩=>chain_link (aL (hb pins s1 σ H1 _ I1 q1) λu s2 ⟨y,H2,I2,r2,q2⟩ =>
  aL (ho pins s2 σ H2 x y v u _ I2 r1 r2 q2) λd s3 ⟨z,H3,I3,r3,k,e,q3⟩=>?_)) hm
 subst e;cases r3;refine j9 ?_;cases k with
 |false=>exact ite_ff ⟨.bl false,H3,I3,rfl,q3⟩
 |true=>exact ite_tt (chain_last (aL (hc pins s3 σ H3 _ I3 q3) λw' s4 ⟨z',H4,I4,r4,q4⟩=>ho' pins s4 σ H4 y z' u w' Q I4 r2 r4 q4))
theorem ZS{op op':CmpOp}{r r':R2}(ho:cx X (compareOp op) r)(ho':cx X (compareOp op') r')(ha:PE X a ta)(hb:PE X b tb)(hc:PE X c tc)(hm:lastMarks [op,op'] [b,c]=false:=by with_unfolding_all rfl):PT X (.Compare a [op,op'] [b,c] pos) (Qo (Qc r r' ta tb tc)):=by
 intro pins s σ H Q I h;refine isTrue_chain (aL (ha pins s σ H _ I h) λv s1 ⟨x,H1,I1,r1,q1⟩=>test_link (aL (hb pins s1 σ H1 _ I1 q1) λu s2 ⟨y,H2,I2,r2,q2⟩ =>
  aL (ho pins s2 σ H2 x y v u _ I2 r1 r2 q2) λd s3 ⟨z,H3,I3,r3,k,e,q3⟩=>?_)) hm
 subst e;cases r3;refine j9 ?_;cases k with
 |false =>
  obtain⟨k',e',q'⟩:=q3;cases e';exact ite_ff ⟨H3,I3,q'⟩
 |true =>
  refine ite_tt (test_last (aL (hc pins s3 σ H3 _ I3 q3) λw' s4 ⟨z',H4,I4,r4,q4⟩=>aL (ho' pins s4 σ H4 y z' u w' _ I4 r2 r4 q4) λd' s5 ⟨z2,H5,I5,r5,k2,e2,q5⟩=>?_));subst e2;cases r5;exact j9 ⟨H5,I5,q5⟩
theorem qC:(sizeLine:Nat)<2 ^ 63:=by rw[sizeLine_eq];decide
theorem vals1{x:V}{us:List Value}(r:Vals [x] us):∃u,us = [u]/\RelV x u:=by
 cases r with
 |cons r1 r2=>cases r2;exact⟨_,rfl,r1⟩
theorem vals2{x y:V}{us:List Value}(r:Vals [x,y] us):∃u w',us = [u,w']/\RelV x u/\RelV y w':=by
 cases r with
 |cons r1 r2 =>
  cases r2 with
  |cons r3 r4=>cases r4;exact⟨_,_,rfl,r1,r3⟩
theorem S_ (hc:X.calm=true):d5 X (.builtin "max") (λxs H Q=>∃i j,xs = [.int i,.int j]/\Q (.int (if j > i then j else i)) H):=by
 intro pins s σ H xs us Q I r h;obtain⟨i,j,rfl,q⟩:=h;obtain⟨u,w',rfl,⟨t,rfl⟩,⟨t',rfl⟩⟩:=vals2 r;refine max_two_ints (I.ok.hd hc) λh' tk k=>⟨_,H,I.kept k,?_,q⟩
 by_cases hj:j > i
 ·rw[aC hj,aC hj];exact⟨_,rfl⟩
 ·rw[aq hj,aq hj];exact⟨_,rfl⟩
theorem Ta (hc:X.calm=true):d5 X (.builtin "min") (λxs H Q=>∃i j,xs = [.int i,.int j]/\Q (.int (if j<i then j else i)) H):=by
 intro pins s σ H xs us Q I r h;obtain⟨i,j,rfl,q⟩:=h;obtain⟨u,w',rfl,⟨t,rfl⟩,⟨t',rfl⟩⟩:=vals2 r;refine min_two_ints (I.ok.hd hc) λh' tk k=>⟨_,H,I.kept k,?_,q⟩
 by_cases hj:j<i
 ·rw[aC hj,aC hj];exact⟨_,rfl⟩
 ·rw[aq hj,aq hj];exact⟨_,rfl⟩
end
structure k9 (h:Heap) (x dx C:Addr) (mA:Str->Option Value):Prop where
 obj:h.get? x=some (W.instObj C dx)
 ns:h.Ns1 dx mA
 ne:dx≠x
theorem XB{h:Heap}{dx:Addr}{mA:Str->Option Value}(n:h.Ns1 dx mA):∃od,h.get? dx=some od/\∀name,W.lookIn name od=some (mA name):=by
 obtain⟨o,es,ep,ho,hd,hk,_,hm⟩:=n;refine⟨o,ho,λname=>?_⟩;have e:=hm name;unfold nsFind findBy at e;rw[<- Array.find?_toList]at e;unfold W.lookIn;rw[hd];dsimp only
 split
 ·rename_i y q
  rw[q]at e;exact congrArg some e
 ·rename_i q
  rw[q]at e;have a:es.toList.any (·.refKey)=false:=by
   rw[List.any_eq_false];intro y hy;obtain⟨z,t,hkey⟩:=hk y (Array.mem_toList_iff.mp hy);simp[DictEntry.refKey,hkey]
  have a':¬ es.toList.any (·.refKey)=true:=by rw[a];exact dJ
  rw[aq a'];exact congrArg some e
theorem k9.look{h:Heap}{x dx C:Addr}{mA:Str->Option Value}(I:k9 h x dx C mA):∃od,W.InstAt h x (W.instObj C dx) C (some od)/\∀name,W.lookIn name od=some (mA name):=
 let⟨od,ho,hl⟩:=XB I.ns
 ⟨od,⟨I.obj,rfl,rfl,ho⟩,hl⟩
section
variable {prog:Program} {w:World} {A:Around} {E:Value->Shared->Prop} {s:Shared} {K:W.Frag} {x dx C f:Addr} {mA:Str->Option Value} {name:Str} {v:Value}
theorem get_map{expr:Bool}{Q:Value->Shared->Prop}(X:K.In s.heap)(I:k9 s.heap x dx C mA)(hg:W.plainGet K C name=true)(hh:W.hasDictIn K C=true)
  (ha:W.findIn K (.ref C) name=some none) (hv:mA name=some v) (hv':W.handedIn v=true) (h:Q v {s with toks:=s.toks+1}) :
  wpAny (model prog w) A (getAttr (.ref x) name expr) Q E s:=by
 obtain⟨od,J,hl⟩:=I.look;exact W.get_value X J (W.plainGet_of hg).1 (W.findObj_own hh ha rfl (by rw[hl,hv])) hv' h
theorem UJ{pl:Sem Bool}{Q:Value × List Value->Shared->Prop}(X:K.In s.heap)(I:k9 s.heap x dx C mA)(hg:W.plainGet K C name=true)(hf:W.findIn K (.ref C) name=some (some (.ref f)))(ht:W.isFn K (.ref f)=true)(hv:mA name=none)(h:Q (.ref f,[.ref x]) s):wpAny (model prog w) A (getMethod (.ref x) name pl) Q E s:=by
 obtain⟨od,J,hl⟩:=I.look;exact W.method_fn X J (W.plainGet_of hg).1 (W.plainGet_of hg).2 hf (ic.mp ht) (by show(W.lookIn name od).map (·.isSome)=some false;rw[hl,hv];rfl) h
theorem aaA{ns:List Str}{Q:Unit->Shared->Prop}(X:K.In s.heap)(I:k9 s.heap x dx C mA)
  (hs:W.findIn K (.ref C) "__setattr__" = some (some (.builtin "object.__setattr__"))) (hp:W.plainOver K C=true) (ht:W.takerIn K C name=some none) (hh:W.hasDictIn K C=true)
  (hw:PySem.Within mA ns) (hsz:ns.length<=sizeLine)
  (h:∀h',k9 h' x dx C (λy=>if y=name then some v else mA y)->Heap.SameBut dx s.heap h'->Q () {s with heap:=h',toks:=s.toks+2}) :
  wpAny (model prog w) A (setAttr (.ref x) name v) Q E s:=by
 obtain⟨od,J,hl⟩:=I.look;refine W.set_plain X J hs (W.osa_open (s:={s with toks:=s.toks+1}) (r:=none) X J hp ht λb=>?_);obtain⟨cd,hc,hd'⟩:=W.any_some hh;have hx:s.heap.get? x=some ⟨.ref C,some dx,.plain,#[]⟩:=I.obj;refine ah (aK (ah (ah (wpAny_loadPart hx (ah (W.Looks.here (s:={s with toks:=s.toks+1}) (W.looks_clsIn X hc) ?_))))));rw[hd'];refine aK (a:=some dx) (ah (aK (ah ?_)));refine wpAny_nsSet1 (s:={s with toks:=s.toks+1}) I.ns λh' hn2 hs2=>?_;obtain⟨oD,esD,epD,hoD,hdD,hcD⟩:=hn2.count (PySem.Within.cons name v hw);refine ah (wpAny_lookBehind hoD (by rw[hdD];exact pastItsLine_dict (di hcD (by rw[fz];omega))) ?_);exact aK (h _ ⟨(hs2.2 _ (cZ I.ne)).trans I.obj,hn2,I.ne⟩ hs2)
theorem XJ{R:Result->Shared->Prop}{vs:List Value}{kw:List (Str × Value)}(X:K.In s.heap)(hm:W.makesIn K C=true)
  (hi:W.findIn K (.ref C) "__init__" = some (some (.ref f))) (hf:W.typeIn K (.ref f)=some (.type "function"))
  (h:codeAny (model prog w) (A.under (.builtin "type.__call__" ⟨.ref C::vs,kw⟩)) (.call (.ref f) ⟨.ref (s.heap.objs.size+1)::vs,kw⟩) (W.InitBack (s.heap.objs.size+1) R)
   {s with heap:=(s.heap.push W.emptyDict).push (W.instObj C s.heap.objs.size)}) :
  codeAny (model prog w) A (.call (.ref C) ⟨vs,kw⟩) R s:=by
 obtain⟨hh,g,d,t,os⟩:=s;exact W.make_core (W.makes_of X hm) (W.looks_findIn X hi) (λself=>W.bind_fn X self hf) (.inl rfl) h
end
noncomputable def bR(f:Str)(v:V):List (Str × V)->List (Str × V)
 | []=>[(f,v)]
 | (g,x)::r=>if g=f then(g,v)::r else(g,x)::bR f v r
theorem cQ(f g:Str)(v:V):∀fs:List (Str × V),(bR f v fs).lookup g=if g=f then some v else fs.lookup g
 | []=>by
  show List.lookup g [(f,v)]=_
  by_cases h:g=f
  ·have hb:(g==f)=true:=ic.mpr h
   simp only[List.lookup,hb,aC h]
  ·have hb:(g==f)=false:=mY.mpr h
   simp only[List.lookup,hb,aq h]
 | (k,x)::r=>by
  have ih:=cQ f g v r;rw[show bR f v ((k,x)::r)=(if k=f then(k,v)::r else(k,x)::bR f v r)from rfl]
  by_cases hk:k=f
  ·rw[aC hk]
   by_cases h:g=k
   ·have hb:(g==k)=true:=ic.mpr h
    simp only[List.lookup,hb,aC (h.trans hk)]
   ·have hb:(g==k)=false:=mY.mpr h
    simp only[List.lookup,hb,aq (λe:g=f=>h (e.trans hk.symm))]
  ·rw[aq hk]
   by_cases h:g=k
   ·have hb:(g==k)=true:=ic.mpr h
    simp only[List.lookup,hb,aq (λe:g=f=>hk (h.symm.trans e))]
   ·have hb:(g==k)=false:=mY.mpr h
    simp only[List.lookup,hb];exact ih
theorem Bf(f:Str)(v:V):∀fs:List (Str × V),f∈(bR f v fs).map (·.1)/\∀g,g∈fs.map (·.1)->g∈(bR f v fs).map (·.1)
 | []=>⟨by simp[bR],λg h=>by simp at h⟩
 | (k,x)::r=>by
  obtain⟨i1,i2⟩:=Bf f v r;rw[show bR f v ((k,x)::r)=(if k=f then(k,v)::r else(k,x)::bR f v r)from rfl]
  by_cases hk:k=f
  ·rw[aC hk]
   subst hk;exact⟨by simp,λg h=>by simpa using h⟩
  ·rw[aq hk]
   refine⟨?_,λg h=>?_⟩
   ·rw[cE]
    exact bT _ i1
   ·rw[cE]at h ⊢
    rcases bC.mp h with e|e
    ·exact bC.mpr (.inl e)
    ·exact bT _ (i2 g e)
theorem og(f:Str)(v:V):∀fs:List (Str × V),(bR f v fs).length<=fs.length+1
 | []=>by simp[bR]
 | (k,x)::r=>by
  have ih:=og f v r;rw[show bR f v ((k,x)::r)=(if k=f then(k,v)::r else(k,x)::bR f v r)from rfl]
  by_cases hk:k=f
  ·rw[aC hk,fz,fz];omega
  ·rw[aq hk,fz,fz];omega
theorem eF.some_of{v:V}{o:Option Value}(r:eF (some v) o):∃u,o=some u/\RelV v u:=by
 cases o with
 |none=>exact(show False from r).elim
 |some u=>exact⟨u,rfl,r⟩
theorem eF.none_of{o:Option Value}(r:eF none o):o=none:=by
 cases o with
 |none=>rfl
 |some u=>exact(show False from r).elim
theorem Vw{v:V}{u:Value}(r:RelV v u):W.handedIn u=true:=by
 cases v with
 |non=>cases(show u=Value.none from r);rfl
 |bl b=>cases(show u=Value.bool b from r);rfl
 |int i=>obtain⟨t,e⟩:=(show ∃t,u=Value.int i t from r);cases e;rfl
 |str x=>obtain⟨t,e⟩:=(show ∃t,u=Value.str x t from r);cases e;rfl
 |gN b=>obtain⟨t,e⟩:=(show ∃t,u=Value.bytes b t from r);cases e;rfl
 |flt b=>obtain⟨t,e⟩:=(show ∃t,u=Value.float b t from r);cases e;rfl
 |ref a=>cases(show u=Value.ref a from r);rfl
 |ty n=>cases(show u=Value.type n from r);rfl
section
variable {P:Program} {w:World} {H H':Hp} {h h':Heap} {a C dx:Addr} {fs fs':List (Str × V)}
theorem uw(hok:b9 P w H h)(e:H a=some (.ins C dx fs)):∃mA,k9 h a dx C mA/\(∀f,eF (fs.lookup f) (mA f))/\PySem.Within mA (fs.map (·.1))/\fs.length<=1000/\H dx=some (.own a):=by
 obtain⟨d,z,ne,ob,mA,n,r,q⟩:=(show bQ P w H h a (.ins C dx fs)from hok a _ e);exact⟨mA,⟨ob,n,ne⟩,r,q,z,d⟩
end
structure Cls (K:W.Frag) (C:Addr):Prop where
 pg:W.plainGet K C Str.empty=true
 hd:W.hasDictIn K C=true
 po:W.plainOver K C=true
 sa:W.findIn K (.ref C) "__setattr__" = some (some (.builtin "object.__setattr__"))
theorem Cls.get{K:W.Frag}{C:Addr}(c:Cls K C)(f:Str):W.plainGet K C f=true:=c.pg
noncomputable def hW(K:W.Frag)(C:Addr)(f:Str):Prop:=W.findIn K (.ref C) f=some none
theorem hW.taker{K:W.Frag}{C:Addr}{f:Str}(n:hW K C f):W.takerIn K C f=some none:=by
 unfold W.takerIn;rw[show W.findIn K (.ref C) f=some none from n];rfl
structure Meth (K:W.Frag) (C:Addr) (m:Str) (f:Addr):Prop where
 at_:W.findIn K (.ref C) m=some (some (.ref f))
 fn:W.isFn K (.ref f)=true
 kp:W.keepIn K (.ref f)=true
section
variable {X:Cx} {pins:List (Addr × Obj)} {σ:St} {H:Hp} {s:Shared} {a C dx:Addr} {fs:List (Str × V)} {f:Str} {v:V} {A:Around} {E:Value->Shared->Prop}
theorem UL{b:Bool}{Q:Value->Shared->Prop}(I:Inv X pins σ H s)(e:H a=some (.ins C dx fs))(c:Cls X.K C)(n:hW X.K C f)(l:fs.lookup f=some v)(h:∀u s',Inv X pins σ H s'->RelV v u->Q u s'):wpAny (model X.prog X.w) A (getAttr (.ref a) f b) Q E s:=by
 obtain⟨mA,O,r,_,_,_⟩:=uw I.hok e;obtain⟨u,hu,ru⟩:=eF.some_of (v:=v) (o:=mA f) (by rw[<- l];exact r f);exact get_map I.cF O (c.get f) c.hd n hu (Vw ru) (h u _ (I.tok _) ru)
theorem Jj{m:Str}{g:Addr}{pl:Sem Bool}{Q:Value × List Value->Shared->Prop}(I:Inv X pins σ H s)(e:H a=some (.ins C dx fs))(c:Cls X.K C)(k:Meth X.K C m g)(l:fs.lookup m=none)(h:Q (.ref g,[.ref a]) s):wpAny (model X.prog X.w) A (getMethod (.ref a) m pl) Q E s:=by
 obtain⟨mA,O,r,_,_,_⟩:=uw I.hok e;have hn:mA m=none:=eF.none_of (by rw[<- l];exact r m);exact UJ I.cF O (c.get m) k.at_ k.fn hn h
theorem aaE{y:V}{u:Value}{Q:Unit->Shared->Prop}(I:Inv X pins σ H s)(e:H a=some (.ins C dx fs))(c:Cls X.K C)(n:hW X.K C f)(hl:fs.length<1000)(ry:RelV y u)(h:∀s',Inv X pins σ (upd H a (.ins C dx (bR f y fs))) s'->Q () s'):wpAny (model X.prog X.w) A (setAttr (.ref a) f u) Q E s:=by
 obtain⟨mA,O,r,wi,_,ho⟩:=uw I.hok e;have hz:(fs.map (·.1)).length<=sizeLine:=by rw[aG,sizeLine_eq];omega
 refine aaA I.cF O c.sa c.po n.taker c.hd wi hz λh' O' sb=>h _ ?_;have hd:∃o,h'.get? dx=some o:=let⟨o,_,_,e',_⟩:=O'.ns;⟨o,e'⟩
 refine I.write (x:=a) (e:=dx) (by rw[e];exact True.intro) (.inr ho) (λb q hb z=>(sb.2 b hb).trans z) hd ?_;refine⟨by rw[aJ O.ne];exact ho,?_,O.ne,O'.obj,_,O'.ns,λg=>?_,λg hg=>?_⟩
 ·have:=og f y fs;omega
 ·show eF ((bR f y fs).lookup g) (if g=f then some u else mA g)
  rw[cQ]
  by_cases q:g=f
  ·rw[aC q,aC q];exact ry
  ·rw[aq q,aq q];exact r g
 ·by_cases q:g=f
  ·rw[q];exact(Bf f y fs).1
  ·refine(Bf f y fs).2 g (wi g λz=>hg ?_)
   show(if g=f then some u else mA g)=none;rw[aq q];exact z
theorem Inv.made(I:Inv X pins σ H s):Inv X pins σ (upd (upd H s.heap.objs.size (.own (s.heap.objs.size+1))) (s.heap.objs.size+1) (.ins C s.heap.objs.size []))
  {s with heap:=(s.heap.push W.emptyDict).push (W.instObj C s.heap.objs.size)}:=by
 have e1:(s.heap.push W.emptyDict).get? s.heap.objs.size=some W.emptyDict:=bJ s.heap rfl;have e2:((s.heap.push W.emptyDict).push (W.instObj C s.heap.objs.size)).get? (s.heap.objs.size+1)=some (W.instObj C s.heap.objs.size):=by
  have:=bJ (s.heap.push W.emptyDict) (o:=W.instObj C s.heap.objs.size) rfl
  rwa [eY]at this
 have e3:(s.heap.push W.emptyDict).Ns s.heap.objs.size (λ_=>none):=⟨W.emptyDict,#[],_,e1,rfl,(λe he=>absurd he (by simp)),λ_=>rfl⟩;have I1:=I.laid (a:=s.heap.objs.size) (o:=.own (s.heap.objs.size+1)) (h':=s.heap.push W.emptyDict) (t':=s.toks) (λb u q=>aU _ q) (aY _) ⟨_,e1⟩;refine I1.laid (a:=s.heap.objs.size+1) (o:=.ins C s.heap.objs.size []) (t':=s.toks) (λb u q=>aU _ q) (rV (eY _ _)) ?_;have ne:s.heap.objs.size≠s.heap.objs.size+1:=bI (ph _);refine⟨by rw[aJ ne,aA],cW _,ne,e2,λ_=>none,(Heap.Ns1.of_empty e3).at λo q=>aU _ q,λ_=>True.intro,λy hy=>absurd rfl hy⟩
theorem Sf{prog:Program}{w:World}{env:Env}{e:Expr}{f:Str}{pos:Pos}{s:Shared}{Q:Value->Shared->Prop}(hb:attributeBase e f env (eval e env)=eval e env)(h:wpAny (model prog w) A (eval e env) (λo s₁=>wpAny (model prog w) A (getAttr o f true) Q E s₁) E s):wpAny (model prog w) A (eval (.Attribute e f pos) env) Q E s:=
 Attribute_any_ h (by rw[arm_eval_Attribute,hb])
end
noncomputable def Qg(K:W.Frag)(ta:TE)(f:Str):TE:=λσ H Q=>ta σ H λx H1=>∃a C dx fs v,x = .ref a/\H1 a=some (.ins C dx fs)/\Cls K C/\hW K C f/\fs.lookup f=some v/\Q v H1
noncomputable def NR(K:W.Frag)(ta tv:TE)(f:Str):TS:=λD σ H=>tv σ H λy H1=>ta σ H1 λx H2=>∃a C dx fs,x = .ref a/\H2 a=some (.ins C dx fs)/\Cls K C/\hW K C f/\fs.length<1000 /\
 D.nx σ (upd H2 a (.ins C dx (bR f y fs)))
section
variable {X:Cx} {o e value:Expr} {f:Str} {pos pos' tpos:Pos} {ta tv:TE}
theorem Zr(he:PE X e ta)(hb:attributeBase e f X.env (eval e X.env)=eval e X.env):PE X (.Attribute e f pos) (Qg X.K ta f):=by
 intro pins s σ H Q I h;refine Sf hb (aL (he pins s σ H _ I h) λu s1 ⟨x,H1,I1,rx,a,C,dx,fs,v,ex,ea,c,n,l,q⟩=>?_);subst ex;obtain rfl:u=Value.ref a:=rx;exact UL I1 ea c n l λu' s2 I2 ru=>⟨v,H1,I2,ru,q⟩
theorem ZQ(ha:PE X o ta)(hv:PE X value tv)(hs:swapsWith value (some (.Attribute o f pos')) pos.line X.env=pure false):PS X (.Assign [.Attribute o f pos'] value pos) (NR X.K ta tv f):=by
 intro pins s σ H D I h;refine plainObj_wpAny_Assign_Attribute (aL (hv pins s σ H _ I h) λu s1 ⟨y,H1,I1,ry,q⟩=>aL (ha pins s1 σ H1 _ I1 q) λov s2 ⟨x,H2,I2,rx,a,C,dx,fs,ex,ea,c,n,l,q2⟩=>?_) hs;subst ex;obtain rfl:ov=Value.ref a:=rx;exact aaE I2 ea c n l ry λs3 I3=>⟨σ,_,I3,q2⟩
end
section
variable {X:Cx} {pins:List (Addr × Obj)} {σ:St} {H:Hp} {s:Shared} {A:Around} {E:Value->Shared->Prop} {Q:Value->Shared->Prop} {c:Value} {b:Bool}
inductive fD (K:W.Frag) (H:Hp):V->Value->Prop where
 |non:fD K H .non (.type "NoneType")
 |bl (x:Bool):fD K H (.bl x) (.type "bool")
 |int (i:Int):fD K H (.int i) (.type "int")
 |str (x:Str):fD K H (.str x) (.type "str")
 |flt (x:UInt64):fD K H (.flt x) (.type "float")
 |lst {a:Addr} {xs:List V} (e:H a=some (.lst xs)):fD K H (.ref a) (.type "list")
 |dk {a:Addr} {o:Obj} {xs:List V} (e:H a=some (.dk o (.lst xs))):fD K H (.ref a) (.type "list")
 |tup {a:Addr} {xs:List V} (e:H a=some (.tup xs)):fD K H (.ref a) (.type "tuple")
 |dK {a:Addr} {kvs:List (Key × V)} (e:H a=some (.dK kvs)):fD K H (.ref a) (.type "dict")
 |dT {a:Addr} {kvs:List (List Key × V)} (e:H a=some (.dT kvs)):fD K H (.ref a) (.type "dict")
 |ins {a C dx:Addr} {fs:List (Str × V)} (e:H a=some (.ins C dx fs)) (cl:Cls K C) (ha:W.findIn K (.ref C) "__class__" = some (some (.builtin "object.__class__")))
   (hn:W.specialIn K (.builtin "object.__class__") "__get__" = some (some (.builtin "getset_descriptor.__get__"))) (htk:W.takesIn K (.builtin "object.__class__")=some true)
   (hm:W.mroIn K C (.type "object")=some true):fD K H (.ref a) (.ref C)
theorem Xa{x:V}{u t:Value}(I:Inv X pins σ H s)(rx:RelV x u)(ty:fD X.K H x t)(e:W.kitOne X.K t c=some b)(h:∀tk,Q (.bool b) {s with toks:=tk}):
  wpAny (model X.prog X.w) A (call (.builtin "isinstance") [u,c]) Q E s:=by
 cases ty with
 |non=>cases(show u=Value.none from rx);exact W.kia_one W.kitx_none I.cF True.intro e (λz=>nomatch z) h
 |bl y=>cases(show u=Value.bool y from rx);exact W.kia_one W.kitx_bool I.cF True.intro e (λz=>nomatch z) h
 |int i=>obtain⟨t,q⟩:=(show ∃t,u=Value.int i t from rx);cases q;exact W.kia_one W.kitx_int I.cF True.intro e (λz=>nomatch z) h
 |str y=>obtain⟨t,q⟩:=(show ∃t,u=Value.str y t from rx);cases q;exact W.kia_one W.kitx_str I.cF True.intro e (λz=>nomatch z) h
 |flt y=>obtain⟨t,q⟩:=(show ∃t,u=Value.float y t from rx);cases q;exact W.kia_one W.kitx_float I.cF True.intro e (λz=>nomatch z) h
 | @lst a xs ea =>
  cases(show u=Value.ref a from rx);obtain⟨_,_,n,_,h1⟩:=(show bQ X.prog X.w H s.heap a (.lst xs)from I.hok a _ ea);exact W.kia_one W.kitx_list I.cF ⟨_,h1,rfl⟩ e (λz=>nomatch z) h
 | @dk a ob xs ea =>
  cases(show u=Value.ref a from rx);obtain⟨_,_,_,n,_,h1⟩:=(show bQ X.prog X.w H s.heap a (.dk ob (.lst xs))from I.hok a _ ea);exact W.kia_one W.kitx_list I.cF ⟨_,h1,rfl⟩ e (λz=>nomatch z) h
 | @tup a xs ea =>
  cases(show u=Value.ref a from rx);obtain⟨_,_,_,p,_⟩:=(show bQ X.prog X.w H s.heap a (.tup xs)from I.hok a _ ea);obtain⟨o,h1,h2,_⟩:=p;exact W.kia_one W.kitx_tuple I.cF ⟨o,h1,h2⟩ e (λz=>nomatch z) h
 | @dK a kvs ea =>
  cases(show u=Value.ref a from rx);obtain⟨_,_,vs,_,p⟩:=(show bQ X.prog X.w H s.heap a (.dK kvs)from I.hok a _ ea);obtain⟨o,es,ep,h1,h2,_⟩:=p;exact W.kia_one W.kitx_dict I.cF ⟨o,h1,h2.1⟩ e (λz=>nomatch z) h
 | @dT a kvs ea =>
  cases(show u=Value.ref a from rx);obtain⟨_,_,xs,_,o,es,ep,h1,h2,_⟩:=(show bQ X.prog X.w H s.heap a (.dT kvs)from I.hok a _ ea);exact W.kia_one W.kitx_dict I.cF ⟨o,h1,h2.1⟩ e (λz=>nomatch z) h
 | @ins a C dx fs ea cl ha hn htk hm =>
  cases(show u=Value.ref a from rx);obtain⟨mA,O,_⟩:=uw I.hok ea;obtain⟨od,J,_⟩:=O.look;exact W.kia_one (W.kitx_own (cl.get _) cl.hd ha hn htk hm) I.cF J e (λz=>nomatch z) h
end
structure bK (k:Nat) (A:Around):Prop where
 hd:A.handled=none
 dp:A.depth+3*k+5<recursionLimit
 un:A.units+16*k+200<cLine
 gd:A.guards=some []
theorem bK.mono{j k:Nat}{A:Around}(r:bK k A)(h:j<=k):bK j A:=⟨r.hd,by have:=r.dp;omega,by have:=r.un;omega,r.gd⟩
theorem bK.deeper{k:Nat}{A:Around}(r:bK (k+1) A)(env:Env):bK k (A.deeper env):=
 ⟨r.hd,by have:=r.dp;show A.depth+1+3*k+5<_;omega,by have:=r.un;show A.units+3+16*k+200<_;omega,r.gd⟩
theorem XF {A:Around} {C:Addr} {us:List Value} {kw:List (Str × Value)}:(A.under (.builtin "type.__call__" ⟨.ref C::us,kw⟩)).depth=A.depth+1:=by
 first|rfl|simp[Around.under,Code.weight,Code.isCreation,Code.isGuard,Code.isCaller,Code.frames,Code.isFrame,guardIds]
theorem XM {A:Around} {C:Addr} {us:List Value} {kw:List (Str × Value)}:(A.under (.builtin "type.__call__" ⟨.ref C::us,kw⟩)).units=A.units+1:=by
 first|rfl|simp[Around.under,Code.cUnits,Code.frames,Code.isFrame]
theorem XH {A:Around} {C:Addr} {us:List Value} {kw:List (Str × Value)}:(A.under (.builtin "type.__call__" ⟨.ref C::us,kw⟩)).guards=A.guards:=by
 first|rfl | (cases h:A.guards<;>simp[Around.under,Code.guards,pushGuards,Code.isGuard,guardIds,h])
theorem bK.make {k:Nat} {A:Around} (r:bK (k+1) A) (C:Addr) (us:List Value) (kw:List (Str × Value)):bK k (A.under (.builtin "type.__call__" ⟨.ref C::us,kw⟩)):=
 ⟨r.hd,by have:=r.dp;rw[XF];omega,by have:=r.un;rw[XM];omega,by rw[XH];exact r.gd⟩
theorem bK.depth{k:Nat}{A:Around}(r:bK k A):A.depth<recursionLimit:=by have:=r.dp;omega
theorem bK.units{k:Nat}{A:Around}(r:bK k A):A.units+64<cLine:=by have:=r.un;omega
noncomputable def kR:TA:=λ_ H Q=>Q [] H
noncomputable def jS(ta:TE)(tr:TA):TA:=λσ H Q=>ta σ H λx H1=>tr σ H1 λxs H2=>Q (x::xs) H2
section
variable {X:Cx} {e:Expr} {es:List Expr} {te:TE} {t:TA} {pos:Pos}
theorem ag:PA X [] kR:=λ_ _ _ _ H Q I h=>Calls.spliced_nil ⟨[],H,I,.nil,h⟩
theorem ae(ha:PE X e te)(hr:PA X es t)(hs:starEach (e::es) X.env=(false,eval e X.env)::starEach es X.env:=by rfl):PA X (e::es) (jS te t):=by
 intro pos pins s σ H Q I h;rw[hs];show wpAny _ _ (spliced ((false,eval e X.env)::backTo pos (starEach es X.env))) _ _ s;refine Calls.spliced_cons (aL (ha pins s σ H _ I h) λu s1 ⟨x,H1,I1,r1,q1⟩=>?_);exact aL (hr pos pins s1 σ H1 _ I1 q1) λus s2 ⟨xs,H2,I2,r2,q2⟩=>⟨x::xs,H2,I2,.cons r1 r2,q2⟩
noncomputable def Qp(t:TA):TE:=λσ H Q=>t σ H λxs H1=>xs.length<=sizeLine/\∀p,H1 p=none->Q (.ref p) (upd H1 p (.tup xs))
noncomputable def Qk(t:TA):TE:=λσ H Q=>t σ H λxs H1=>xs.length<=sizeLine/\∀p,H1 p=none->Q (.ref p) (upd H1 p (.lst xs))
theorem eT{x1}(h:PA X es t):PE X (.Tuple es x1 pos) (Qp t):=by
 intro pins s σ H Q I hq;refine wpAny_Tuple_spliced (aL (h pos pins s σ H _ I hq) λus s1 ⟨xs,H1,I1,r,z,q⟩=>⟨by rw[<- r.length];exact z,?_⟩);have hf:H1 s1.heap.objs.size=none:=I1.hok.fresh (aY _);refine⟨.ref s1.heap.objs.size,upd H1 s1.heap.objs.size (.tup xs),I1.laid (t':=s1.toks) (λb u e=>aU _ e) (aY _) ?_,rfl,q _ hf⟩;exact⟨z,us,r,⟨_,bJ _ rfl,rfl,_,rfl⟩,_,bJ _ rfl,rfl⟩
theorem dY(h:PA X es t):PE X (.List es pos) (Qk t):=by
 intro pins s σ H Q I hq;refine wpAny_List_spliced (aL (h pos pins s σ H _ I hq) λus s1 ⟨xs,H1,I1,r,z,q⟩=>⟨by rw[<- r.length];exact z,?_⟩);have hf:H1 s1.heap.objs.size=none:=I1.hok.fresh (aY _);refine⟨.ref s1.heap.objs.size,upd H1 s1.heap.objs.size (.lst xs),I1.laid (t':=s1.toks) (λb u e=>aU _ e) (aY _) ?_,rfl,q _ hf⟩;exact⟨z,us,0,r,bJ _ rfl⟩
end
abbrev Sp:=List V->Hp->VK->XK->Prop
abbrev gB:=List Env->Hp->Shared->XK->Value->Shared->Prop
structure gC (P:Program) (w:World) (K:W.Frag) (mg:Str->Option Value) (base:Heap) (A:Around) (outer:List Env) (s:Shared) (H:Hp):Prop where
 frames:A.frames=some outer
 mod:Mod K mg base
 bs:∀b o,base.get? b=some o->s.heap.get? b=some o/\H b=none
 fW:base.objs.size<=s.heap.objs.size
 eJ:s.heap.FunFrames base outer
 iT:∀b∈frs outer,H b=none
 hok:b9 P w H s.heap
 bare:AllBare s.gens
noncomputable def CE(outer:List Env)(P:Program)(w:World)(H:Hp)(s:Shared)(Q:VK)(u:Value)(s':Shared):Prop:=
 ∃v H',s'.os=s.os/\AllBare s'.gens/\Un (frs outer) [] H H' s.heap s'.heap/\b9 P w H' s'.heap/\RelV v u/\Q v H'
noncomputable def CR(CX:gB)(outer:List Env)(P:Program)(w:World)(H:Hp)(s:Shared)(Q:VK)(E:XK)(r:Result)(s':Shared):Prop:=
 match r with
 |.ok (.ret u)=>CE outer P w H s Q u s'
 |.ok _=>False
 |.error e=>CX outer H s E e s'
structure aN (P:Program) (w:World) (K:W.Frag) (mg:Str->Option Value) (base:Heap) (CX:gB) (k:Nat) (f:Addr) (fd:FuncData) (ps:List Str) (sp:Sp):Prop where
 len:∀vs H Q E,sp vs H Q E->vs.length=ps.length
 run:∀(A:Around) (outer:List Env) (s:Shared) (H:Hp) (args:Args) (us:List Value) (vs:List V) (Q:VK) (E:XK),bK k A->gC P w K mg base A outer s H->BindsTo s fd args (ps.zip us)->Vals vs us->sp vs H Q E ->
  codeAny (model P w) A (.call (.ref f) args) (CR CX outer P w H s Q E) s
theorem aN.mono{P:Program}{w:World}{K:W.Frag}{mg:Str->Option Value}{base:Heap}{CX:gB}{j k:Nat}{f:Addr}{fd:FuncData}{ps:List Str}{sp:Sp}(F:aN P w K mg base CX j f fd ps sp)(h:j<=k):aN P w K mg base CX k f fd ps sp:=⟨F.len,λA outer s H args us vs Q E hr=>F.run A outer s H args us vs Q E (hr.mono h)⟩
theorem gC.make{P:Program}{w:World}{K:W.Frag}{mg:Str->Option Value}{base:Heap}{A:Around}{outer:List Env}{s:Shared}{H:Hp}(e:gC P w K mg base A outer s H)(C:Addr)(us:List Value)(kw:List (Str × Value)):
  gC P w K mg base (A.under (.builtin "type.__call__" ⟨.ref C::us,kw⟩)) outer s H:=⟨by first|exact e.frames | (simpa[Around.under,Code.envs,Code.isFrame,pushEnvs]using e.frames),e.mod,e.bs,e.fW,e.eJ,e.iT,e.hok,e.bare⟩
section
variable {X:Cx} {pins:List (Addr × Obj)} {σ:St} {H:Hp} {s s':Shared}
theorem Inv.env0(I:Inv X pins σ H s):gC X.prog X.w X.K X.mg X.base X.A X.stack s H:=
 ⟨I.ok.frames,I.ok.mod,I.bs,di I.ok.fW I.sz,I.stack,I.Es,I.hok,I.bare⟩
theorem Inv.after{Q:VK}{u:Value}(I:Inv X pins σ H s)(h:CE X.stack X.prog X.w H s Q u s'):EP X pins σ Q u s':=by
 obtain⟨v,H',os,bare,un,hok,r,q⟩:=h;obtain⟨hh,g,d,t,os'⟩:=s';obtain rfl:os'=s.os:=os;exact⟨v,H',I.call (h':=hh) (g':=g) (d':=d) (t':=t) (ch:=[]) un hok bare (λb z=>absurd z (by simp)),r,q⟩
end
noncomputable def Qa(sp:Sp)(dG:List V)(E:XK)(t:TA):TE:=λσ H Q=>t σ H λvs H1=>sp (vs++dG) H1 Q E
noncomputable def wG(C:Addr)(m:Str)(sp:Sp)(dG:List V)(E:XK)(ta:TE)(t:TA):TE:=λσ H Q=>ta σ H λx H1=>∃a dx fs,x = .ref a/\H1 a=some (.ins C dx fs)/\fs.lookup m=none /\
 t σ H1 λvs H2=>sp (x::(vs++dG)) H2 Q E
noncomputable def Ql(C:Addr)(sp:Sp)(dG:List V)(E:XK)(t:TA):TE:=λσ H Q=>t σ H λvs H1=>∀x dx,H1 x=none->H1 dx=none->dx≠x ->
 sp (.ref x::(vs++dG)) (upd (upd H1 dx (.own x)) x (.ins C dx [])) (λv H2=>v = .non/\Q (.ref x) H2) E
noncomputable def Binds(K:W.Frag)(fd:FuncData)(ps:List Str)(ds:List Value):Prop:=
 ∀(s:Shared) (us:List Value),K.In s.heap->(us++ds).length=ps.length->BindsTo s fd ⟨us,[]⟩ (ps.zip (us++ds))
theorem Binds.all{K:W.Frag}{fd:FuncData}{ps:List Str}(h:∀us:List Value,us.length=ps.length->bindArgs fd ⟨us,[]⟩=pure (ps.zip us)):Binds K fd ps []:=λs us _ hl=>by
 rw[oZ]at hl ⊢;exact .of_eq (h us hl)
noncomputable def Passes(CX:gB)(X:Cx)(E:XK):Prop:=∀(pins:List (Addr × Obj)) (σ:St) (H:Hp) (s:Shared) (e:Value) (s':Shared),Inv X pins σ H s->CX X.stack H s E e s'->X.xe e s'
section
variable {X:Cx} {CX:gB} {k:Nat} {f C:Addr} {fd:FuncData} {ps:List Str} {sp:Sp} {dG:List V} {ds:List Value} {E:XK} {x m:Str} {p pos apos:Pos} {e o:Expr} {es:List Expr} {ta:TE} {t:TA}
theorem BZ{pins:List (Addr × Obj)}{σ:St}{H:Hp}{s:Shared}{Q:VK}{us:List Value}{vs:List V}(F:aN X.prog X.w X.K X.mg X.base CX k f fd ps sp)(hr:bK k X.A)(hb:Binds X.K fd ps ds)(hd:Vals dG ds)(hx:Passes CX X E)(I:Inv X pins σ H s)(r:Vals vs us)(h:sp (vs++dG) H Q E):wpAny (model X.prog X.w) X.A (call (.ref f) us) (EP X pins σ Q) X.xe s:=by
 have r2:Vals (vs++dG) (us++ds):=r.append hd;have hl:(us++ds).length=ps.length:=by rw[<- r2.length];exact F.len _ _ _ _ h
 refine pF (hZ (F.run X.A X.stack s H ⟨us,[]⟩ (us++ds) (vs++dG) Q E hr I.env0 (hb s us I.cF hl) r2 h) λr s' hq=>?_);cases r with
 |error e=>exact hx pins σ H s e s' I hq
 |ok fl =>
  cases fl with
  |ret u=>exact I.after hq
  |next=>exact False.elim hq
  |brk=>exact False.elim hq
  |cont=>exact False.elim hq
theorem Zj(F:aN X.prog X.w X.K X.mg X.base CX k f fd ps sp)(hr:bK k X.A)(hg:Gl X x)(hm:X.mg x=some (.ref f))(hk:W.keepIn X.K (.ref f)=true)(hb:Binds X.K fd ps ds)(hd:Vals dG ds)(hx:Passes CX X E)
  (ha:PA X (e::es) t) (hdb:(x==("__debug__" : Str))=false:=by decide) (he:starEach (e::es) X.env=(false,eval e X.env)::starEach es X.env:=by rfl) (hpl:(backTo pos (starEach es X.env)).any (·.1)=false:=by rfl) :
  PE X (.Call (.Name x p) (e::es) [] pos) (Qa sp dG E t):=by
 intro pins s σ H Q I h;refine lh (uA I hg hm ?_ hdb);refine W.callWith_K (h₀:=X.base) I.ok.mod.kx hk (aL (ha pos pins s σ H _ I h) λus s1 ⟨vs,H1,I1,r,q⟩=>⟨I1.cF,?_⟩) he hpl;exact BZ F hr hb hd hx I1 r q
theorem Zv{pl:Sem Bool}(he:PE X o ta)(c:Cls X.K C)(hm:Meth X.K C m f)(F:aN X.prog X.w X.K X.mg X.base CX k f fd ps sp)(hr:bK k X.A)(hb:Binds X.K fd ps ds)(hd:Vals dG ds)(hx:Passes CX X E)(ha:PA X (e::es) t)(hst:starEach (e::es) X.env=(false,eval e X.env)::starEach es X.env:=by rfl)(hpl:(backTo pos (starEach es X.env)).any (·.1)=false:=by rfl)
  (ht:eval (.Call (.Attribute o m apos) (e::es) [] pos) X.env=(do
   let ov <- eval o X.env
   standAt apos.atName
   let(f,first) <- holding [ov] (getMethod ov m pl)
   callWith pos f first (backTo pos (starEach (e::es) X.env)) (backToKw pos (keywordEach [] X.env))):=by rfl) :
  PE X (.Call (.Attribute o m apos) (e::es) [] pos) (wG C m sp dG E ta t):=by
 intro pins s σ H Q I h;refine W.methodCall_KW (pl:=pl) (aL (he pins s σ H _ I h) λu s1 ⟨x,H1,I1,rx,a,dx,fs,ex,ea,l,q⟩=>?_) ht;subst ex;obtain rfl:u=Value.ref a:=rx;refine Jj I1 ea c hm l ?_;refine W.callWith_K (first:=[.ref a]) (h₀:=X.base) I.ok.mod.kx hm.kp (aL (ha pos pins s1 σ H1 _ I1 q) λus s2 ⟨vs,H2,I2,r,q2⟩=>⟨I2.cF,?_⟩) hst hpl;exact BZ (us:=.ref a::us) (vs:=.ref a::vs) F hr hb hd hx I2 (.cons rfl r) q2
theorem Zw{pl:Sem Bool}(he:PE X o ta)(c:Cls X.K C)(hm:Meth X.K C m f)(F:aN X.prog X.w X.K X.mg X.base CX k f fd ps sp)(hr:bK k X.A)(hb:Binds X.K fd ps ds)(hd:Vals dG ds)(hx:Passes CX X E)
  (ht:eval (.Call (.Attribute o m apos) [] [] pos) X.env=(do
   let ov <- eval o X.env
   standAt apos.atName
   let(f,first) <- holding [ov] (getMethod ov m pl)
   callWith pos f first (backTo pos (starEach [] X.env)) (backToKw pos (keywordEach [] X.env))):=by rfl) :
  PE X (.Call (.Attribute o m apos) [] [] pos) (wG C m sp dG E ta kR):=by
 intro pins s σ H Q I h;refine W.methodCall_KW (pl:=pl) (aL (he pins s σ H _ I h) λu s1 ⟨x,H1,I1,rx,a,dx,fs,ex,ea,l,q⟩=>?_) ht;subst ex;obtain rfl:u=Value.ref a:=rx;refine Jj I1 ea c hm l ?_;exact W.callWith_K0 (first:=[.ref a]) I1.cF hm.kp (BZ (us:=[.ref a]) (vs:=[.ref a]) F hr hb hd hx I1 (.cons rfl .nil) q)
structure Mk (K:W.Frag) (C f:Addr):Prop where
 makes:W.makesIn K C=true
 init:W.findIn K (.ref C) "__init__" = some (some (.ref f))
 fn:W.isFn K (.ref f)=true
 kp:W.keepIn K (.ref C)=true
theorem aap{pins:List (Addr × Obj)}{σ:St}{H:Hp}{s:Shared}{Q:VK}{us:List Value}{vs:List V}(M:Mk X.K C f)(F:aN X.prog X.w X.K X.mg X.base CX k f fd ps sp)(hr:bK (k+1) X.A)(hb:Binds X.K fd ps ds)(hd:Vals dG ds)(hx:Passes CX X E)(I:Inv X pins σ H s)(r:Vals vs us)(h:∀x dx,H x=none->H dx=none->dx≠x->sp (.ref x::(vs++dG)) (upd (upd H dx (.own x)) x (.ins C dx [])) (λv H2=>v = .non/\Q (.ref x) H2) E):wpAny (model X.prog X.w) X.A (call (.ref C) us) (EP X pins σ Q) X.xe s:=by
 have hq:=h (s.heap.objs.size+1) s.heap.objs.size (I.hok.fresh (xB _)) (I.hok.fresh (aY _)) (bI (ph _));have I2:=Inv.made (C:=C) I;have r2:Vals (V.ref (s.heap.objs.size+1)::(vs++dG)) (Value.ref (s.heap.objs.size+1)::(us++ds)):=.cons rfl (r.append hd);have hl:(Value.ref (s.heap.objs.size+1)::us++ds).length=ps.length:=by
  have e:=r2.length;rw[F.len _ _ _ _ hq]at e;exact e.symm
 refine pF (XJ (f:=f) I.cF M.makes M.init (ic.mp M.fn) (hZ (F.run _ X.stack _ _ ⟨Value.ref (s.heap.objs.size+1)::us,[]⟩ (Value.ref (s.heap.objs.size+1)::(us++ds)) _ _ E (hr.make C us [])
  (I2.env0.make C us []) (hb _ (Value.ref (s.heap.objs.size+1)::us) I2.cF hl) r2 hq) λr s' hq'=>?_))
 cases r with
 |error e=>exact hx pins σ _ _ e s' I2 hq'
 |ok fl =>
  cases fl with
  |ret u =>
   obtain⟨v,H',I3,rv,ev,q3⟩:=I2.after hq';subst ev;exact⟨rv,⟨V.ref (s.heap.objs.size+1),H',I3,rfl,q3⟩⟩
  |next=>exact False.elim hq'
  |brk=>exact False.elim hq'
  |cont=>exact False.elim hq'
theorem Zu(M:Mk X.K C f)(F:aN X.prog X.w X.K X.mg X.base CX k f fd ps sp)(hr:bK (k+1) X.A)(hg:Gl X x)(hm:X.mg x=some (.ref C))(hb:Binds X.K fd ps ds)(hd:Vals dG ds)(hx:Passes CX X E)
  (ha:PA X (e::es) t) (hdb:(x==("__debug__" : Str))=false:=by decide) (he:starEach (e::es) X.env=(false,eval e X.env)::starEach es X.env:=by rfl) (hpl:(backTo pos (starEach es X.env)).any (·.1)=false:=by rfl) :
  PE X (.Call (.Name x p) (e::es) [] pos) (Ql C sp dG E t):=by
 intro pins s σ H Q I h;refine lh (uA I hg hm ?_ hdb);refine W.callWith_K (h₀:=X.base) I.ok.mod.kx M.kp (aL (ha pos pins s σ H _ I h) λus s1 ⟨vs,H1,I1,r,q⟩=>⟨I1.cF,?_⟩) he hpl;exact aap M F hr hb hd hx I1 r q
end
section
variable {X:Cx} {CX:gB} {k:Nat} {f C:Addr} {fd:FuncData} {ps ks:List Str} {sp:Sp} {E:XK} {x m:Str} {p pos apos kpos:Pos} {e o:Expr} {es:List Expr} {kws:List Keyword} {te ta:TE} {t tk:TA} {nm:Option Str}
variable {g:List Value->List Value->List Value} {gV:List V->List V->List V}
end
structure aZ (N P:List Str) (sc:Scope):Prop where
 kind:sc.kind = .function
 co:sc.isCoroutine=false
 gen:sc.isGenerator=false
 nd:N.Nodup
 pre:N.take P.length=P
 par:∀x∈P,sc.names.lookup x=some .local\/sc.names.lookup x=some .cell
 Yh:∀y∈sc.names,y.2≠.free
theorem Hz{kindOf:Str->Option NameKind}{x:Str}:∀{binds:List (Str × Value)} {m:Str->Option Value},(∀v,(x,v) ∉ binds)->bindL kindOf binds m x=m x
 | [],_,_=>rfl
 | (n,v)::r,m,h=>by
  unfold bindL;rw[Hz λw hw=>h w (bT _ hw)]
  split
  ·have:x≠n:=by rintro rfl;exact h v cC
   simp[this]
  ·rfl
theorem Hx{kindOf:Str->Option NameKind}{x:Str}:∀{binds:List (Str × Value)} {m:Str->Option Value},(∀v,(x,v) ∉ binds)->bindC kindOf binds m x=m x
 | [],_,_=>rfl
 | (n,v)::r,m,h=>by
  unfold bindC;rw[Hx λw hw=>h w (bT _ hw)]
  split
  ·rfl
  ·have:x≠n:=by rintro rfl;exact h v cC
   simp[this]
theorem Hy{kindOf:Str->Option NameKind}{x:Str}{v:Value}:∀{P:List Str} {vs:List Value} {i:Nat} {m:Str->Option Value},P.Nodup->P[i]?=some x->vs[i]?=some v->kindOf x=some .local->bindL kindOf (P.zip vs) m x=some v
 | [],_,_,_,_,h,_,_=>by simp at h
 |_::_,[],_,_,_,_,h,_=>by simp at h
 |p::P,w::vs,0,m,nd,h1,h2,hk=>by
  simp at h1 h2;subst h1;subst h2;show bindL kindOf ((p,w)::P.zip vs) m p=_;unfold bindL;rw[Hz λv hv=>(fS.mp nd).1 (xo hv).1,aC hk];simp
 |p::P,w::vs,i+1,m,nd,h1,h2,hk=>by
  show bindL kindOf ((p,w)::P.zip vs) m x=_;unfold bindL;exact Hy (i:=i) (fS.mp nd).2 (by simpa using h1) (by simpa using h2) hk
theorem Hw{kindOf:Str->Option NameKind}{x:Str}{v:Value}:∀{P:List Str} {vs:List Value} {i:Nat} {m:Str->Option Value},P.Nodup->P[i]?=some x->vs[i]?=some v->kindOf x≠some .local->bindC kindOf (P.zip vs) m x=some v
 | [],_,_,_,_,h,_,_=>by simp at h
 |_::_,[],_,_,_,_,h,_=>by simp at h
 |p::P,w::vs,0,m,nd,h1,h2,hk=>by
  simp at h1 h2;subst h1;subst h2;show bindC kindOf ((p,w)::P.zip vs) m p=_;unfold bindC;rw[Hx λv hv=>(fS.mp nd).1 (xo hv).1,aq hk];simp
 |p::P,w::vs,i+1,m,nd,h1,h2,hk=>by
  show bindC kindOf ((p,w)::P.zip vs) m x=_;unfold bindC;exact Hw (i:=i) (fS.mp nd).2 (by simpa using h1) (by simpa using h2) hk
noncomputable def start(N:List Str)(vs:List V):St:=vs.map some++List.replicate (N.length - vs.length) none
noncomputable def lH(CX:gB)(P:Program)(w:World)(K:W.Frag)(mg:Str->Option Value)(base:Heap)(N:List Str)(qual:Str)(scope:Scope)(f:Addr)(cd:Value)(A:Around)(outer:List Env)(s:Shared)(H:Hp)(E:XK):Cx where
 prog:=P
 w:=w
 K:=K
 mg:=mg
 base:=base
 A:=A.deeper (envOfC qual scope s.heap.objs.size f cd)
 N:=N
 s₀:=s
 H₀:=H
 env:=envOfC qual scope s.heap.objs.size f cd
 outer:=outer
 stack:=envOfC qual scope s.heap.objs.size f cd::outer
 ex:=[]
 calm:=true
 fn:=λ_=>true
 pn:=[]
 xe:=λe s'=>wpAny (model P w) (A.deeper (envOfC qual scope s.heap.objs.size f cd)) (leaving (envOfC qual scope s.heap.objs.size f cd) e) (λ_ s''=>CX outer H s E e s'') (λe' s''=>CX outer H s E e' s'') s'
theorem H_{sc:Scope}{n:Nat}{x:Str}(h:sc.names.lookup x=some .cell):∃c,(cellsFrom n sc.names []).lookup x=some c:=by
 have q:=W.cellsFrom_some sc.names n [] (.inl h);exact Option.isSome_iff_exists.mp q
theorem W7{CX:gB}{P:Program}{w:World}{K:W.Frag}{mg:Str->Option Value}{base:Heap}{N ps:List Str}{qual:Str}{scope:Scope}{f:Addr}{cd:Value}{A:Around}{outer:List Env}{s s1:Shared}{H:Hp}{E:XK}{us:List Value}{vs:List V}(S:aZ N ps scope)(hd:A.handled=none)(e0:gC P w K mg base A outer s H)(hl:vs.length=ps.length)(r:Vals vs us)(x:InCallC s s.heap.objs.size (bindL (envOfC qual scope s.heap.objs.size f cd).kindOf (ps.zip us) λ_=>none) (cellsFrom (s.heap.objs.size+1) scope.names []) (bindC (envOfC qual scope s.heap.objs.size f cd).kindOf (ps.zip us) λ_=>none) s1):Inv (lH CX P w K mg base N qual scope f cd A outer s H E) [] (start N vs) H s1:=by
 have hpl:ps.length<=N.length:=by have:=congrArg List.length S.pre;rw[j5]at this;omega
 obtain⟨h1,tk,rfl,hk⟩:=x.done;have jJ:∀b:Addr,b ∉ (lH CX P w K mg base N qual scope f cd A outer s H E).ex:=λb z=>absurd (show b∈([]:List Addr)from z) (by simp);refine⟨⟨e0.mod,S.kind,rfl,rfl,aY _,λy z c h1 h2=>?_,λy hy=>?_,λy c _ h=>?_,λ_=>hd,Around.frames_deeper e0.frames,.inr ⟨rfl,rfl⟩,λb z=>absurd z (jJ b),e0.bs,e0.fW,λb _ _=>jJ b,λb z=>absurd z (jJ b),e0.eJ,e0.iT⟩,
  rfl,e0.bare,Un.kept hk,⟨_,x.toInCall.ns,λi y v h1 h2 h3=>?_⟩,λy c h=>⟨_,x.cell y c h⟩,e0.hok.fresh (aY _),λy c h=>?_,λp hp=>absurd (show p∈([]:List (Addr × Obj))from hp) (by simp),e0.hok.kept hk,?_⟩
 ·exact name_of_addr x.apart (iN h1) (iN h2)
 ·have hy:scope.names.lookup y=some .cell\/scope.names.lookup y=some .free:=hy
  rcases hy with hy|hy
  ·exact H_ hy
  ·exact absurd rfl (S.Yh _ (iN hy))
 ·exact gG (x.above y c (iN h))
 ·have hi:i<vs.length:=by
   unfold start at h2
   by_cases hi:i<vs.length
   ·exact hi
   ·rw[iH (by simpa using hi)]at h2
    rw[Rc]at h2
    split at h2<;>cases h2
  have ha:vs[i]?=some v:=by
   unfold start at h2;rw[jh (by simpa using hi),cT]at h2;cases e:vs[i]? with
   |none=>rw[e]at h2;cases h2
   |some a=>rw[e]at h2;cases h2;rfl
  obtain⟨u,hu,rv⟩:=r.get ha;have hp:ps[i]?=some y:=by
   rw[<- S.pre,Rf (by omega)];exact h1
  have Le:ps.Nodup:=by rw[<- S.pre];exact S.nd.sublist (List.take_sublist _ _)
  refine⟨u,rv,?_⟩
  rcases S.par y (cV hp)with k|k
  ·exact .inl ⟨k,Hy Le hp hu k⟩
  ·obtain⟨c,e⟩:=H_ (n:=s.heap.objs.size+1) k
   refine .inr ⟨.inl k,c,e,?_⟩;have q:=x.cell y c e;rw[Hw Le hp hu (by show scope.names.lookup y≠_;rw[k];decide)]at q;exact q
 ·exact e0.hok.fresh (gG (x.above y c (iN h)))
 ·unfold start
  show _=N.length;rw[cU,aG,Ri];omega
theorem Jf{CX:gB}{P:Program}{w:World}{K:W.Frag}{mg:Str->Option Value}{base:Heap}{k:Nat}{f:Addr}{name qual:Str}{params:Arguments}{body:List Stmt}{scope:Scope}{dV kV doc pm cdv ct oc:Value}{an od:Option Addr}
  {osl:Array (Option Value)} {N ps:List Str} {sp:Sp} (lk:K.lookup f=some ⟨oc,od,.func (W.fnOf name qual params body scope dV kV doc pm an cdv ct),osl⟩) (hcd:W.codeIn K cdv qual=true) (S:aZ N ps scope)
  (len:∀vs H Q E,sp vs H Q E->vs.length=ps.length)
  (hbody:∀(A:Around) (outer:List Env) (s:Shared) (H:Hp) (vs:List V) (Q:VK) (E:XK),bK k (A.deeper (envOfC qual scope s.heap.objs.size f cdv))->sp vs H Q E ->
   ∃t,fB (lH CX P w K mg base N qual scope f cdv A outer s H E) body t/\t {nx:=λ_ H'=>Q .non H',rt:=Q} (start N vs) H) :
  aN P w K mg base CX (k+1) f (W.fnOf name qual params body scope dV kV doc pm an cdv ct) ps sp:=by
 refine⟨len,λA outer s H args us vs Q E hr e0 hb r hsp=>?_⟩;have hl:=len _ _ _ _ hsp;have KX:K.In s.heap:=e0.mod.kx.keeps λb o e=>(e0.bs b o e).1;have lim:s.heap.NoLimit:=e0.mod.nolimit.keeps λb o e=>(e0.bs b o e).1;have hkind:∀y∈ps.zip us,scope.names.lookup y.1=some .local\/(scope.names.lookup y.1=some .cell/\((cellsFrom (s.heap.objs.size+1) scope.names []).lookup y.1).isSome=true):=λ⟨n,v⟩ hy=>by
  rcases S.par n (xo hy).1 with q|q
  ·exact .inl q
  ·exact .inr ⟨q,W.cellsFrom_some _ _ _ (.inl q)⟩
 refine codeAny_call_function hr.depth (KX _ _ lk) rfl S.co S.gen rfl (W.codeRec_of KX hcd) (hb _ _ _ _ ?_);refine wpAny_newFunctionEnv_cells S.kind hkind λenv he s1 x=>?_;subst he;refine⟨lim.keeps x.toInCall.keep,codeAny_func ?_⟩;obtain⟨t,ht,hq⟩:=hbody A outer s H vs Q E (hr.deeper _) hsp;have I:Inv (lH CX P w K mg base N qual scope f cdv A outer s H E) [] (start N vs) H s1:=W7 S hr.hd e0 hl r x;refine h6 (ht [] s1 (start N vs) H _ I hq) (λfl s' hs=>?_) λe s' hs=>hs;have fin:∀{σ':St} {H':Hp} {v:V} {u:Value},Inv (lH CX P w K mg base N qual scope f cdv A outer s H E) [] σ' H' s'->RelV v u->Q v H'->CE outer P w H s Q u s':=
  λ{σ' H' v u} J rv q=>⟨v,H',J.os,J.bare,J.base,J.hok,rv,q⟩
 cases fl with
 |ret u =>
  obtain⟨v,σ',H',J,rv,q⟩:=hs;exact fin J rv q
 |next =>
  obtain⟨σ',H',J,q⟩:=hs;exact fin (v:=V.non) (u:=Value.none) J rfl q
 |brk =>
  obtain⟨_,_,_,q⟩:=hs;exact False.elim q
 |cont =>
  obtain⟨_,_,_,q⟩:=hs;exact False.elim q
section
variable {X:Cx} {x:Str} {p pos:Pos} {e:Expr} {es:List Expr} {t:TA} {id T:String} {r:List V->Hp->VK->Prop}
noncomputable def Ey(r:List V->Hp->VK->Prop)(t:TA):TE:=λσ H Q=>t σ H λvs H1=>r vs H1 Q
theorem cA (hc:d5 X (.builtin id) r) (hg:Gl X x) (hm:X.mg x=none) (hv:bootBuiltins x=some (.builtin id)) (ha:PA X (e::es) t) (hn:x ≠ "__name__" :=by decide) (hdb:(x==("__debug__" : Str))=false:=by decide)
  (he:starEach (e::es) X.env=(false,eval e X.env)::starEach es X.env:=by rfl) (hpl:(backTo pos (starEach es X.env)).any (·.1)=false:=by rfl):PE X (.Call (.Name x p) (e::es) [] pos) (Ey r t):=by
 intro pins s σ H Q I h;refine lh (iY I hg hm hv ?_ hn hdb);exact PyProof.Rows.callWith_builtin1 (aL (ha pos pins s σ H _ I h) λus s1 ⟨vs,H1,I1,r1,q1⟩=>hc pins s1 σ H1 vs us Q I1 r1 q1) he hpl
theorem jd (hc:d5 X (.type T) r) (hg:Gl X x) (hm:X.mg x=none) (hv:bootBuiltins x=some (.type T)) (ha:PA X (e::es) t) (hn:x ≠ "__name__" :=by decide) (hdb:(x==("__debug__" : Str))=false:=by decide)
  (he:starEach (e::es) X.env=(false,eval e X.env)::starEach es X.env:=by rfl) (hpl:(backTo pos (starEach es X.env)).any (·.1)=false:=by rfl):PE X (.Call (.Name x p) (e::es) [] pos) (Ey r t):=by
 intro pins s σ H Q I h;refine lh (iY I hg hm hv ?_ hn hdb);exact mR (aL (ha pos pins s σ H _ I h) λus s1 ⟨vs,H1,I1,r1,q1⟩=>hc pins s1 σ H1 vs us Q I1 r1 q1) he hpl
end
end L2
namespace HT
open PySem PyProof.Rows
section
open PySem.SeqAt
open PySem.AutoSeq1 (wpAny_loadPart')
open PySem.MeetsSeq PySem.MeetsSeq2 PySem.MeetsSeq3
end
section
variable {prog:Program} {w:World} {A:Around} {E:Value->Shared->Prop} {s:Shared}
noncomputable def eD(n d:Nat):Option Int->Nat
 |none=>d
 |some v=>if v<0 then(v+(n:Int)).toNat else min v.toNat n
theorem NT(n d:Nat):eD n d none=d:=rfl
theorem vf(n d k:Nat):eD n d (some (k:Int))=min k n:=by
 show(if(k:Int)<0 then((k:Int)+(n:Int)).toNat else min (k:Int).toNat n)=min k n;rw[aq (by omega),bu]
end
end HT
namespace L2
open PySem PySem.Spec PyProof.Rows
abbrev TO:=St->Hp->(Option Int->Hp->Prop)->Prop
noncomputable def PO(X:Cx)(e:Option Expr)(t:TO):Prop:=
 ∀(pins:List (Addr × Obj)) (s:Shared) (σ:St) (H:Hp) (Q:Option Int->Hp->Prop),Inv X pins σ H s->t σ H Q ->
  wpAny (model X.prog X.w) X.A (evalPart e X.env) (λu s'=>∃o H',Inv X pins σ H' s'/\IsPart u o/\Q o H') X.xe s
noncomputable def aa5:TO:=λ_ H Q=>Q none H
noncomputable def aa9(t:TE):TO:=λσ H Q=>t σ H λx H1=>∃i,x = .int i/\Q (some i) H1
section
variable {X:Cx} {e:Expr} {te:TE} {lo hi:Option Expr} {tl th:TO} {pos p2:Pos}
theorem BW:PO X none aa5:=by
 intro pins s σ H Q I h;rw[evalPart_none];exact aK ⟨none,H,I,.none,h⟩
theorem mj(h:PE X e te):PO X (some e) (aa9 te):=by
 intro pins s σ H Q I hw;rw[evalPart_some];refine aL (h pins s σ H _ I hw) λu s1 ⟨x,H1,I1,r1,q1⟩=>?_;obtain⟨i,rfl,q⟩:=q1;obtain⟨t,rfl⟩:=r1;exact⟨some i,H1,I1,.int i t,q⟩
noncomputable def xY(X:Cx)(r:V->Option Int->Option Int->Hp->VK->Prop):Prop:=
 ∀(pins:List (Addr × Obj)) (s:Shared) (σ:St) (H:Hp) (x:V) (v vl vu:Value) (lo hi:Option Int) (sl:Addr) (Q:VK),Inv X pins σ H s->RelV x v->s.heap.IsSliceOf sl vl vu .none->IsPart vl lo->IsPart vu hi->r x lo hi H Q ->
  ∃T id,typeLookup (.type T) "__getitem__" = pure (some (.builtin id))/\s.TypeIs v T/\wpAny (model X.prog X.w) X.A (getItem v (.ref sl)) (EP X pins σ Q) X.xe s
noncomputable def tSl(r:V->Option Int->Option Int->Hp->VK->Prop)(te:TE)(tl th:TO):TE:=λσ H Q=>te σ H λx H1=>tl σ H1 λl H2=>th σ H2 λu H3=>r x l u H3 Q
theorem qR{r:V->Option Int->Option Int->Hp->VK->Prop}(hr:xY X r)(he:PE X e te)(hl:PO X lo tl)(hu:PO X hi th):PE X (.Subscript e (.Slice lo hi none p2) pos) (tSl r te tl th):=by
 intro pins s σ H Q I h;refine Subscript_ (aL (he pins s σ H _ I h) λv s1 ⟨x,H1,I1,r1,q1⟩=>?_);refine wpAny_Slice (aL (hl pins s1 σ H1 _ I1 q1) λvl s2 ⟨l,H2,I2,pl,q2⟩=>aL (hu pins s2 σ H2 _ I2 q2) λvu s3 ⟨u,H3,I3,pu,q3⟩=>?_);rw[evalPart_none];refine aK ?_;have I4:Inv X pins σ H3 {s3 with heap:=s3.heap.push {cls:=.type "slice", data:=.fields #[vl,vu,.none]}}:=I3.kept (t':=s3.toks) λb ob q=>aU _ q;obtain⟨T,id,hT,ht,hg⟩:=hr pins {s3 with heap:=s3.heap.push {cls:=.type "slice", data:=.fields #[vl,vu,.none]}} σ H3 x v vl vu l u s3.heap.objs.size Q I4 r1 (Heap.IsSliceOf.new ..) pl pu q3;show wpAny (model X.prog X.w) X.A (subscriptTail e (.Slice lo hi none p2) v (.ref s3.heap.objs.size)) (EP X pins σ Q) X.xe {s3 with heap:=s3.heap.push {cls:=.type "slice", data:=.fields #[vl,vu,.none]}};exact tail_any (ops:=[.ref s3.heap.objs.size,v]) ht hT hg (by with_unfolding_all rfl)
noncomputable def fX(xs:List V)(lo hi:Option Int):List V:=(xs.drop (HT.eD xs.length 0 lo)).take (HT.eD xs.length xs.length hi - HT.eD xs.length 0 lo)
theorem Ts(xs:List V)(lo hi:Option Int):(fX xs lo hi).length<=xs.length:=by
 unfold fX;rw[j5,o6];omega
end
noncomputable def iX(n:Nat)(i:Int):Option Nat:=if 0<=i then(if i<n then some i.toNat else none)else if -(n:Int)<=i then some (i+n).toNat else none
noncomputable def jt{α:Type}(xs:List α)(i:Int):Option α:=(iX xs.length i).bind λj=>xs[j]?
theorem Kx{n:Nat}{i:Int}{j:Nat}(h:iX n i=some j):seqIndex? i n=some j/\j<n/\-(n:Int)<=i/\i<n:=by
 unfold iX at h
 by_cases h0:0<=i
 ·rw[aC h0]at h
  by_cases h1:i<n
  ·rw[aC h1]at h
   have e:i.toNat=j:=dW h;exact⟨by rw[seqIndex_of h0 h1,e],by omega,by omega,h1⟩
  ·rw[aq h1]at h;cases h
 ·rw[aq h0]at h
  by_cases h1:-(n:Int)<=i
  ·rw[aC h1]at h
   have e:(i+n).toNat=j:=dW h;exact⟨by rw[seqIndex_neg (by omega) h1,e],by omega,h1,by omega⟩
  ·rw[aq h1]at h;cases h
theorem Hu{α:Type}{xs:List α}{i:Int}{v:α}(h:jt xs i=some v):∃j,seqIndex? i xs.length=some j/\xs[j]?=some v/\j<xs.length/\-(xs.length:Int)<=i/\i<xs.length:=by
 unfold jt at h;cases e:iX xs.length i with
 |none=>rw[e]at h;cases h
 |some j =>
  rw[e]at h;obtain⟨h1,h2,h3,h4⟩:=Kx e;exact⟨j,h1,h,h2,h3,h4⟩
theorem aM{α:Type}{xs:List α}{j:Nat}{v:α}(h:xs[j]?=some v):jt xs (j:Int)=some v:=by
 have hj:j<xs.length:=(bD.mp h).1;have e:iX xs.length (j:Int)=some j:=by
  unfold iX;rw[aC (by omega),aC (by omega)];simp
 unfold jt;rw[e];exact h
noncomputable def RB(b:Expr):Prop:=∀o i,subscripted b false o i=operate [o,i] (getItem o i)
noncomputable def mI(X:Cx)(r:R2):Prop:=
 ∀(value slice:Expr) (pins:List (Addr × Obj)) (s:Shared) (σ:St) (H:Hp) (x y:V) (v u:Value) (Q:VK),Inv X pins σ H s->RelV x v->RelV y u->r x y H Q ->
  subscripted slice false v u=operate [v,u] (getItem v u)->wpAny (model X.prog X.w) X.A (subscriptTail value slice v u) (EP X pins σ Q) X.xe s
noncomputable def xu(X:Cx)(id:String)(r:V->List V->Hp->VK->Prop):Prop:=
 ∀(pins:List (Addr × Obj)) (s:Shared) (σ:St) (H:Hp) (x:V) (xs:List V) (v:Value) (us:List Value) (Q:VK),Inv X pins σ H s->RelV x v->Vals xs us->r x xs H Q ->
  wpAny (model X.prog X.w) X.A (call (.builtin id) (v::us)) (EP X pins σ Q) X.xe s
section
variable {X:Cx} {a b:Expr} {ta tb:TE} {pos:Pos}
theorem ay{r:R2}(hr:mI X r)(ha:PE X a ta)(hb:PE X b tb)(hs:RB b):PE X (.Subscript a b pos) (mB r ta tb):=by
 intro pins s σ H Q I h;exact Subscript_ (yg ha hb I h λv u s2 x y H2 I2 rx ry q=>hr a b pins s2 σ H2 x y v u Q I2 rx ry q (hs _ _))
noncomputable def Nh(K:W.Frag):R2:=λx y H Q=>∃p xs i v,x = .ref p/\y = .int i/\ai K H p xs/\jt xs i=some v/\Q v H
noncomputable def Ni(K:W.Frag):R2:=λx y H Q=>∃p xs i v,x = .ref p/\y = .int i/\av K H p xs/\jt xs i=some v/\Q v H
theorem Xe:mI X (Nh X.K):=by
 intro value slice pins s σ H x y v u Q I rx ry h hs;obtain⟨p,xs,i,z,rfl,rfl,hq,he,q⟩:=h;cases rx;obtain⟨t,rfl⟩:=ry;obtain⟨its,r,pl,hz⟩:=I.list hq;obtain⟨j,h1,h2,h3,h4,h5⟩:=Hu he;obtain⟨w,ew,rg⟩:=r.get h2;have hl:=r.length;have hn:=qC;have fin:EP X pins σ Q w s:=⟨z,H,I,rg,q⟩
 by_cases h0:0<=i
 ·have hj:i.toNat=j:=by
   rw[seqIndex_of h0 h5]at h1;exact dW h1
  exact item_listR pl.isList h0 (by omega) (by rw[hj];simpa using ew) fin hs
 ·have hj:(i+(its.toArray.size:Int)).toNat=j:=by
   rw[seqIndex_neg (by omega) h4]at h1;rw[cw,<- hl];exact dW h1
  exact subscriptTail_builtinR (x:=w) pl.isList.typeIs slot_list_getitem.lookup
   (wpAny_getItem_list_neg (Q:=λr s'=>r=w/\EP X pins σ Q r s') pl.isList (by omega) (by rw[cw]<;>omega) (by omega) (by rw[hj];simpa using ew) ⟨rfl,fin⟩) hs
theorem Xg:mI X (Ni X.K):=by
 intro value slice pins s σ H x y v u Q I rx ry h hs;obtain⟨p,xs,i,z,rfl,rfl,hq,he,q⟩:=h;cases rx;obtain⟨t,rfl⟩:=ry;obtain⟨its,r,pl,hz⟩:=I.tuple hq;obtain⟨j,h1,h2,h3,h4,h5⟩:=Hu he;obtain⟨w,ew,rg⟩:=r.get h2;have hl:=r.length;have hn:=qC;have fin:EP X pins σ Q w s:=⟨z,H,I,rg,q⟩;exact subscriptTail_builtinR (x:=w) pl.typeIs slot_tuple_getitem.lookup
  (getItem_tuple (j:=j) (Q:=λr s'=>r=w/\EP X pins σ Q r s') pl (by omega) (by omega) (by rw[cw,<- hl];exact h1) (by simpa using ew) ⟨rfl,fin⟩) hs
theorem XQ (its:List Value) (n j:Nat) (u:Value):Obj.mapSeq (·.setIfInBounds j u) {cls:=.type "list", data:=.seq its.toArray n} = {cls:=.type "list", data:=.seq (its.set j u).toArray n}:=by
 simp[Obj.mapSeq]
theorem Inv.lst{pins:List (Addr × Obj)}{σ:St}{H:Hp}{s:Shared}{p:Addr}{xs:List V}(I:Inv X pins σ H s)(h:H p=some (.lst xs)):
  ∃(its:List Value) (n:Nat),Vals xs its/\s.heap.get? p=some {cls:=.type "list", data:=.seq its.toArray n}/\xs.length<=sizeLine:=by
 obtain⟨z,its,n,r,e⟩:=I.hok p _ h;exact⟨its,n,r,e,z⟩
theorem Inv.XC{pins:List (Addr × Obj)}{σ:St}{H:Hp}{s:Shared}{p:Addr}{xs ys:List V}{its its':List Value}{n n':Nat}{f:Obj->Obj}(I:Inv X pins σ H s)(h:H p=some (.lst xs))
  (ho:s.heap.get? p=some {cls:=.type "list", data:=.seq its.toArray n}) (hf:f {cls:=.type "list", data:=.seq its.toArray n} = {cls:=.type "list", data:=.seq its'.toArray n'}) (r:Vals ys its') (hz:ys.length<=sizeLine) (t:Nat) :
  Inv X pins σ (upd H p (.lst ys)) {s with heap:=s.heap.update p f,toks:=t}:=by
 have e:(s.heap.update p f).get? p=some {cls:=.type "list", data:=.seq its'.toArray n'}:=by
  rw[sf f ho (by rw[hf]<;>rfl),hf]
 refine I.write (x:=p) (e:=p) (by rw[h];trivial) (.inl rfl) (λb u hb q=>(xO _ _ (cZ hb)).trans q) ⟨_,e⟩ ?_;exact⟨hz,its',n',r,e⟩
noncomputable def Z_:V->V->V->Hp->(Hp->Prop)->Prop:=λo i v H Q=>∃p xs k j,o = .ref p/\i = .int k/\H p=some (.lst xs)/\iX xs.length k=some j/\Q (upd H p (.lst (xs.set j v)))
theorem set_list:GK X Z_:=by
 intro pins s σ H o i v ov iv u Q I ro ri rv h;obtain⟨p,xs,k,j,rfl,rfl,hp,hj,q⟩:=h;cases ro;obtain⟨t,rfl⟩:=ri;obtain⟨its,n,r,ho,hz⟩:=I.lst hp;obtain⟨h1,h2,h3,h4⟩:=Kx hj;have hl:=r.length;have hn:=qC;have I':Inv X pins σ (upd H p (.lst (xs.set j v))) {s with heap:=s.heap.update p (Obj.mapSeq (·.setIfInBounds j u))}:=
  I.XC hp ho (XQ its n j u) (r.set rv j) (by rw[FX];exact hz) s.toks
 by_cases h0:0<=k
 ·have hk:k.toNat=j:=by
   rw[seqIndex_of h0 h4]at h1;exact dW h1
  exact W.ki_setAt ho h0 (by omega) (by rw[cw,<- hl];exact h4) (by rw[hk];exact⟨_,I',q⟩)
 ·have hk:(k+(its.toArray.size:Int)).toNat=j:=by
   rw[seqIndex_neg (by omega) h3]at h1;rw[cw,<- hl];exact dW h1
  exact W.ki_setBack ho (by omega) (by rw[cw,<- hl];exact h3) (by omega) (by rw[hk];exact⟨_,I',q⟩)
theorem aaK(lo hi:Option Int)(n:Nat):(sliceBounds lo hi none n).1=((HT.eD n 0 lo:Nat):Int)/\(sliceBounds lo hi none n).2.1=((HT.eD n n hi:Nat):Int)/\(sliceBounds lo hi none n).2.2=1:=by
 refine⟨?_,?_,rfl⟩
 ·cases lo with
  |none=>simp[sliceBounds,HT.eD]
  |some i =>
   simp only[sliceBounds,HT.eD,Option.getD_none,show(1:Int) > 0 by decide,jI]
   by_cases h:i<0
   ·simp only[h,jI]<;>omega
   ·simp only[h,jH]<;>omega
 ·cases hi with
  |none=>simp[sliceBounds,HT.eD]
  |some i =>
   simp only[sliceBounds,HT.eD,Option.getD_none,show(1:Int) > 0 by decide,jI]
   by_cases h:i<0
   ·simp only[h,jI]<;>omega
   ·simp only[h,jH]<;>omega
theorem aaJ(its:List Value)(lo hi:Option Int):slicePick its.toArray lo hi none=((its.drop (HT.eD its.length 0 lo)).take (HT.eD its.length its.length hi - HT.eD its.length 0 lo)).toArray:=by
 obtain⟨h1,h2,h3⟩:=aaK lo hi its.toArray.size;unfold slicePick;rw[h1,h2,h3];simp only[sliceRange_one,pick_run,cw]<;>rfl
noncomputable def Nk(K:W.Frag):V->Option Int->Option Int->Hp->VK->Prop:=λx lo hi H Q=>∃a xs,x = .ref a/\ai K H a xs/\∀p,H p=none->Q (.ref p) (upd H p (.lst (fX xs lo hi)))
theorem aaI:xY X (Nk X.K):=by
 intro pins s σ H x v vl vu lo hi sl Q I rx hs pl pu h;obtain⟨a,xs,rfl,hx,q⟩:=h;cases rx;obtain⟨its,r,ht,hz⟩:=I.list hx;have hlen:=r.length;refine⟨"list", _,slot_list_getitem.lookup,ht.isList.typeIs,?_⟩;refine wpAny_getItem_list_slice ht.isList hs pl pu .none (by simp) ?_ (by rw[cw]<;>omega);rw[aaJ,<- hlen];refine⟨.ref s.heap.objs.size,_,I.laid (t':=s.toks) (o:=.lst (fX xs lo hi)) (λb ob q=>aU _ q) (aY _) ?_,rfl,q _ (I.hok.fresh (aY _))⟩;exact⟨di (Ts xs lo hi) hz,_,0,(r.drop (HT.eD xs.length 0 lo)).take (HT.eD xs.length xs.length hi - HT.eD xs.length 0 lo),bJ _ rfl⟩
theorem S0:d5 X (.builtin "len") (λxs H Q=>∃p ys,xs = [.ref p]/\(ai X.K H p ys\/av X.K H p ys)/\Q (.int ys.length) H):=by
 intro pins s σ H xs us Q I r h;obtain⟨p,ys,rfl,hq,q⟩:=h;obtain⟨u,rfl,rx⟩:=vals1 r;cases rx;have hn:=qC
 rcases hq with hq|hq
 ·obtain⟨its,r',pl,hz⟩:=I.list hq
  have hlen:=r'.length;exact Calls.call_len_list pl.isList (by simp only[cw]<;>omega) ⟨.int ys.length,H,I.tok _,⟨s.toks+1,by rw[cw,hlen]⟩,q⟩
 ·obtain⟨its,r',pl,hz⟩:=I.tuple hq
  have hlen:=r'.length;exact len_tuple pl (by simp only[cw]<;>omega) ⟨.int ys.length,H,I.tok _,⟨s.toks+1,by rw[cw,hlen]⟩,q⟩
theorem Tf:d5 X (.type "tuple") (λxs H Q=>∃p ys,xs = [.ref p]/\((ai X.K H p ys/\∀l,H l=none->Q (.ref l) (upd H l (.tup ys)))\/(av X.K H p ys/\Q (.ref p) H))):=by
 intro pins s σ H xs us Q I r h;obtain⟨p,ys,rfl,h⟩:=h;obtain⟨u,rfl,rx⟩:=vals1 r;cases rx
 rcases h with⟨hq,q⟩|⟨hq,q⟩
 ·obtain⟨its,r',pl,hz⟩:=I.list hq
  have hlen:=r'.length;refine call_tuple_list pl.isList (λh' kp=>?_) (by simp only[cw]<;>omega);have I1:Inv X pins σ H {s with heap:=h'}:=I.kept (t':=s.toks) kp;have I2:Inv X pins σ (upd H h'.objs.size (.tup ys)) {s with heap:=h'.push {cls:=.type "tuple", data:=.seq its.toArray}}:=
   I1.laid (t':=s.toks) (λb o e=>aU _ e) (aY _) (show bQ X.prog X.w _ _ _ (.tup ys)from⟨hz,its,r',IsTup.new _ _,_,bJ _ rfl,rfl⟩)
  exact⟨.ref h'.objs.size,_,I2,rfl,q _ (I1.hok.fresh (aY _))⟩
 ·obtain⟨its,r',pl,hz⟩:=I.tuple hq
  exact call_tuple_same pl ⟨.ref p,H,I,rfl,q⟩
noncomputable def Qu(K:W.Frag)(T:String)(x:V)(H:Hp):Prop:=match x with
 |.str _=>T = "str"
 |.int _=>T = "int"
 |.ref p=>(T = "list" /\ ∃xs,ai K H p xs)\/(T = "tuple" /\ ∃o,K.lookup p=some o/\o.cls = .type "tuple" /\ o.dict=none) \/
   (T = "dict" /\ ((∃kvs,H p=some (.dK kvs))\/∃kvs,H p=some (.dT kvs)))\/(T = "set" /\ ∃S n,H p=some (.set S n))\/(T = "tuple" /\ ∃xs,H p=some (.tup xs))
 |_=>False
theorem abp{pins:List (Addr × Obj)}{σ:St}{H:Hp}{s:Shared}{T:String}{x:V}{v:Value}(I:Inv X pins σ H s)(r:RelV x v)(ty:Qu X.K T x H):s.TypeIs v T/\∀a,v = .ref a->∃ob,s.heap.get? a=some ob/\ob.dict=none:=by
 cases x with
 |str z =>
  obtain⟨t,rfl⟩:=r;cases(show T = "str" from ty);exact⟨typeIs_str s z t,λ_ e=>nomatch e⟩
 |int i =>
  obtain⟨t,rfl⟩:=r;cases(show T = "int" from ty);exact⟨typeIs_int s i t,λ_ e=>nomatch e⟩
 |ref p =>
  cases r
  rcases ty with⟨rfl,xs,hq⟩|⟨rfl,o,hk,hc,hd⟩|⟨rfl,hk⟩|⟨rfl,S,n,hk⟩|⟨rfl,zs,hk⟩
  ·obtain⟨its,_,pl,_⟩:=I.list hq
   refine⟨pl.isList.typeIs,λa e=>?_⟩;cases e;obtain⟨o,n,e,c,hd,_⟩:=pl;exact⟨o,e,hd⟩
  ·refine⟨⟨o,I.cF p o hk,hc⟩,λa e=>?_⟩
   cases e;exact⟨o,I.cF _ o hk,hd⟩
  ·have z:∃o,s.heap.get? p=some o/\o.ExactDict:=by
    rcases hk with⟨kvs,hk⟩|⟨kvs,hk⟩
    ·obtain⟨_,_,_,_,o,_,_,e,ex,_⟩:=I.hok p _ hk
     exact⟨o,e,ex⟩
    ·obtain⟨_,_,_,_,o,_,_,e,ex,_⟩:=I.hok p _ hk
     exact⟨o,e,ex⟩
   obtain⟨o,e,ex⟩:=z;refine⟨⟨o,e,ex.1⟩,λa e2=>?_⟩;cases e2;exact⟨o,e,ex.2.1⟩
  ·obtain⟨o,_,_,_,e,ex,_⟩:=I.hok p _ hk
   refine⟨⟨o,e,ex.1⟩,λa e2=>?_⟩;cases e2;exact⟨o,e,ex.2.1⟩
  ·obtain⟨_,_,_,⟨o2,e2,c2,_⟩,o,e,hd⟩:=(show bQ X.prog X.w H s.heap p (.tup zs)from I.hok p _ hk)
   refine⟨⟨o2,e2,c2⟩,λa e3=>?_⟩;cases e3;exact⟨o,e,hd⟩
 |_=>exact False.elim ty
noncomputable def Ex(K:W.Frag)(T:String)(r:V->List V->Hp->VK->Prop)(to:TE)(t:TA):TE:=λσ H Q=>to σ H λx H1=>Qu K T x H1/\t σ H1 λxs H2=>r x xs H2 Q
variable {o e:Expr} {es:List Expr} {to:TE} {t:TA} {name:Str} {apos cpos:Pos} {T id:String} {r:V->List V->Hp->VK->Prop}
theorem Zi (pa:PlainAttrs T) (slot:Slot T name id) (hty:typeOf (.builtin id)=pure (.type "method_descriptor")) (hm:xu X id r) (ho:PE X o to) (ha:PA X (e::es) t)
  (hbase:attributeBase o name X.env (eval o X.env)=eval o X.env:=by rfl)
  (hfew:((backTo cpos (starEach (e::es) X.env)).all (λx=>!x.1)&&(backToKw cpos (keywordEach [] X.env)).all (λx=>x.1.isSome)
   && decide ((e::es).length+([]:List Keyword).length+(if([]:List Keyword).isEmpty then 0 else 1)<30))=true:=by rfl)
  (hline:(apos.endLine==cpos.line)=true:=by rfl) (hs:starEach (e::es) X.env=(false,eval e X.env)::starEach es X.env:=by rfl) (hplain:(backTo cpos (starEach es X.env)).any (·.1)=false:=by rfl) :
  PE X (.Call (.Attribute o name apos) (e::es) [] cpos) (Ex X.K T r to t):=by
 intro pins s σ H Q I h;refine wpAny_Call_method_late hbase hfew hline rfl (aL (ho pins s σ H _ I h) λv s1 ⟨x,H1,I1,r1,ty,q1⟩=>?_);obtain⟨h1,h2⟩:=abp I1 r1 ty;refine⟨T,id,pa,slot,hty,h1,h2,?_⟩;have hA:=ha cpos pins s1 σ H1 _ I1 q1;rw[hs]at hA ⊢;refine Calls.callWith_builtin (by show(false||(backTo cpos (starEach es X.env)).any (·.1))=false;rw[hplain]<;>rfl) (Calls.evalArgs_plain ?_);exact aL hA λus s2 ⟨vs,H2,I2,r2,q2⟩=>hm pins s2 σ H2 x vs v us Q I2 r1 r2 q2
end
noncomputable def xt(X:Cx)(id:String)(r:V->List V->Hp->VK->Prop):Prop:=
 ∀(pins:List (Addr × Obj)) (s:Shared) (σ:St) (H:Hp) (x:V) (xs:List V) (v:Value) (us:List Value) (Q:VK),Inv X pins σ H s->RelV x v->Vals xs us->r x xs H Q ->
  wpAny (model X.prog X.w) X.A (call (.builtin id) (v::us)) (EP X pins σ Q) X.xe s
theorem Vals.one{x:V}{us:List Value}(h:Vals [x] us):∃u,us = [u]/\RelV x u:=by
 cases h with
 |cons r t=>cases t;exact⟨_,rfl,r⟩
theorem Vals.two{x y:V}{us:List Value}(h:Vals [x,y] us):∃u v,us = [u,v]/\RelV x u/\RelV y v:=by
 cases h with
 |cons r t =>
  obtain⟨v,rfl,q⟩:=Vals.one t;exact⟨_,_,rfl,r,q⟩
section
variable {X:Cx} {pins:List (Addr × Obj)} {σ:St} {H:Hp} {s:Shared} {l b:Addr} {xs ys zs:List V}
theorem Inv.qF{its its':List Value}{n:Nat}{f:Array Value->Array Value}{t':Nat}(I:Inv X pins σ H s)(hH:H l=some (.lst xs))
  (e:s.heap.get? l=some {cls:=.type "list", data:=.seq its.toArray n}) (hf:f its.toArray=its'.toArray) (hv:Vals ys its') (hz:ys.length<=sizeLine) :
  Inv X pins σ (upd H l (.lst ys)) {s with heap:=s.heap.update l (Obj.mapSeq f),toks:=t'}:=by
 have q:=PySem.IsL.update e f;rw[hf]at q;refine I.write (x:=l) (e:=l) (by rw[hH];exact trivial) (.inl rfl) (λb' u hb hu=>(xO s.heap (Obj.mapSeq f) (cZ hb)).trans hu) ⟨_,q⟩ ?_;exact⟨hz,its',_,hv,q⟩
theorem Inv.Bn{its:List Value}{t':Nat}(I:Inv X pins σ H s)(hv:Vals ys its)(hz:ys.length<=sizeLine):
  Inv X pins σ (upd H s.heap.objs.size (.lst ys)) {s with heap:=s.heap.push {cls:=.type "list", data:=.seq its.toArray},toks:=t'}:=
 I.laid (λ_ _ q=>aU _ q) (aY _) ⟨hz,its,0,hv,bJ _ rfl⟩
theorem Inv.fresh(I:Inv X pins σ H s):H s.heap.objs.size=none:=I.hok.fresh (aY _)
theorem Inv.ky (I:Inv X pins σ H s) (hH:H l=some (.lst xs)):xs.length<=sizeLine/\∃(its:List Value) (n:Nat),Vals xs its/\xs.length=its.length/\s.heap.get? l=some {cls:=.type "list", data:=.seq its.toArray n}:=by
 obtain⟨z,its,n,r,e⟩:=I.hok l _ hH;exact⟨z,its,n,r,r.length,e⟩
theorem Yj{n:Nat}(h:n<=sizeLine):Builtin.List.listTooLong n=false:=by
 unfold Builtin.List.listTooLong;exact fH (by omega)
end
section
variable {X:Cx}
noncomputable def Z1:V->List V->Hp->VK->Prop:=λx vs H Q=>∃l xs y,x = .ref l/\vs = [y]/\H l=some (.lst xs)/\xs.length<sizeLine/\Q .non (upd H l (.lst (xs++[y])))
theorem lV:xt X "list.append" Z1:=by
 intro pins s σ H x vs v us Q I rx rv h;obtain⟨l,xs,y,rfl,rfl,hH,hz,q⟩:=h;cases rx;obtain⟨u,rfl,ru⟩:=rv.one;obtain⟨z,its,n,r,hl,e⟩:=I.ky hH;refine call_meets mS ⟨_,e,rfl⟩ F.entry_list_append (F.args_list_append_2 _ _) (PySem.list_append l its.toArray n u (by rw[cw];omega)) ⟨e,?_⟩;refine⟨.non,_,I.qF (its':=its++[u]) hH e (by simp) (r.append (.cons ru .nil)) ?_,rfl,q⟩;rw[cU,xi];omega
noncomputable def Z5:V->List V->Hp->VK->Prop:=λx vs H Q=>∃l b xs zs,x = .ref l/\vs = [.ref b]/\H l=some (.lst xs)/\H b=some (.lst zs)/\xs.length+zs.length<=sizeLine/\Q .non (upd H l (.lst (xs++zs)))
theorem uF:xt X "list.extend" Z5:=by
 intro pins s σ H x vs v us Q I rx rv h;obtain⟨l,b,xs,zs,rfl,rfl,hH,hB,hz,q⟩:=h;cases rx;obtain⟨u,rfl,ru⟩:=rv.one;cases ru;obtain⟨z,its,n,r,hl,e⟩:=I.ky hH;obtain⟨z2,its2,n2,r2,hl2,e2⟩:=I.ky hB;have hsz:its.toArray.size+its2.toArray.size<=sizeLine:=by rw[cw,cw];omega
 have V3:¬ (!its.toArray.isEmpty&&Builtin.List.listTooLong (its.toArray.size+its2.toArray.size))=true:=by
  rw[Yj hsz,Bool.and_false];exact dJ
 refine call_meets r9 ⟨_,e,rfl⟩ F.entry_list_extend (F.args_list_extend_2 _ _)
  (AutoSeq1.list_extend_list_list_0 l its.toArray n b its2.toArray n2 V3 (by rw[cw];omega) (by omega)) ⟨e,e2,?_⟩
 refine⟨.non,_,I.qF (its':=its++its2) hH e (by simp) (r.append r2) ?_,rfl,q⟩;rw[cU];omega
noncomputable def Z2:R2:=λx y H Q=>∃l b xs zs,x = .ref l/\y = .ref b/\H l=some (.lst xs)/\H b=some (.lst zs)/\xs.length+zs.length<=sizeLine/\∀p,H p=none->Q (.ref p) (upd H p (.lst (xs++zs)))
theorem jK:cx X (binaryOp .Add) Z2:=by
 intro pins s σ H x y v u Q I rx ry h;obtain⟨l,b,xs,zs,rfl,rfl,hH,hB,hz,q⟩:=h;cases rx;cases ry;obtain⟨z,its,n,r,hl,e⟩:=I.ky hH;obtain⟨z2,its2,n2,r2,hl2,e2⟩:=I.ky hB;refine PySem.P.add_list e e2 ?_ (by rw[cw,cw];omega);have ea:its.toArray++its2.toArray=(its++its2).toArray:=by simp
 rw[ea];exact⟨.ref _,_,I.Bn (t':=s.toks) (r.append r2) (by rw[cU];omega),rfl,q _ I.fresh⟩
end
section
variable {prog:Program} {w:World} {A:Around} {E:Value->Shared->Prop} {s:Shared}
end
section
variable {X:Cx}
end
section
variable {κ:Type} [DecidableEq κ]
noncomputable def de(kvs:List (κ × V))(k:κ):Option V:=(kvs.find? λkv=>decide (kv.1=k)).map (·.2)
noncomputable def putK(kvs:List (κ × V))(k:κ)(v:V):List (κ × V):=
 if(kvs.any λkv=>decide (kv.1=k))=true then kvs.map (λkv=>if kv.1=k then(kv.1,v)else kv)else kvs++[(k,v)]
theorem kY{p:κ × V}{r:List (κ × V)}{k:κ}(e:p.1=k):de (p::r) k=some p.2:=by simp[de,o5,e]
theorem jT{p:κ × V}{r:List (κ × V)}{k:κ}(e:¬ p.1=k):de (p::r) k=de r k:=by simp[de,o5,e]
theorem Ff(k:κ):∀kvs:List (κ × V),(kvs.any λkv=>decide (kv.1=k))=(de kvs k).isSome
 | []=>rfl
 |p::r=>by
  rw[w9]
  by_cases e:p.1=k
  ·simp only[kY e,eh e,Bool.true_or,Option.isSome_some]
  ·rw[jT e,fH e,Bool.false_or];exact Ff k r
theorem Qv(k j:κ)(y:V):∀kvs:List (κ × V),de kvs k=none->de (kvs++[(k,y)]) j=if j=k then some y else de kvs j
 | [],_=>by
  by_cases e:k=j
  ·rw[aC e.symm];exact kY (p:=(k,y)) e
  ·rw[aq (λz=>e z.symm)];exact jT (p:=(k,y)) e
 |p::r,hn=>by
  rw[List.cons_append];have hk:¬ p.1=k:=λz=>by rw[kY z]at hn;cases hn
  rw[jT hk]at hn;have ih:=Qv k j y r hn
  by_cases e:p.1=j
  ·rw[kY e,kY e,aq (λz=>hk (e.trans z))]
  ·rw[jT e,jT e,ih]
theorem K4(kvs:List (κ × V))(k:κ)(v:V):(putK kvs k v).length<=kvs.length+1:=by
 unfold putK
 split
 ·rw[aG];omega
 ·rw[cU,fz,List.length_nil];omega
theorem ZV{kvs:List (κ × V)}{k:κ}(v:V)(h:de kvs k=none):putK kvs k v=kvs++[(k,v)]:=by
 unfold putK;rw[Ff,h];exact aq (by decide)
theorem eF.W'{o:Option V}{u:Option Value}(r:eF o u):o.isSome=u.isSome:=by
 cases o with
 |none=>cases u with
  |none=>rfl
  |some _=>exact(show False from r).elim
 |some _=>cases u with
  |none=>exact(show False from r).elim
  |some _=>rfl
theorem eF.getD{o:Option V}{u:Option Value}{d:V}{d':Value}(r:eF o u)(rd:RelV d d'):RelV (o.getD d) (u.getD d'):=by
 cases o with
 |none=>cases u with
  |none=>exact rd
  |some _=>exact(show False from r).elim
 |some _=>cases u with
  |none=>exact(show False from r).elim
  |some _=>exact r
theorem KV.val{kvs:List (κ × V)}{vs:List (κ × Value)}(r:KV kvs vs)(k:κ):eF (de kvs k) (valueAt vs k):=by
 unfold KV at r
 induction r with
 |nil=>exact True.intro
 | @cons p q ps qs h t ih =>
  obtain⟨h1,h2⟩:=h
  by_cases e:p.1=k
  ·have e':q.1=k:=h1.symm.trans e
   have b:valueAt (q::qs) k=some q.2:=by simp[valueAt,o5,e']
   rw[kY e,b];exact h2
  ·have e':¬ q.1=k:=λz=>e (h1.trans z)
   have b:valueAt (q::qs) k=valueAt qs k:=by simp[valueAt,o5,e']
   rw[jT e,b];exact ih
theorem KV.any{kvs:List (κ × V)}{vs:List (κ × Value)}(r:KV kvs vs)(k:κ):(kvs.any λkv=>decide (kv.1=k))=vs.any λkv=>decide (kv.1=k):=by
 unfold KV at r
 induction r with
 |nil=>rfl
 |cons h t ih=>rw[w9,w9,ih,h.1]
theorem KV.repl{kvs:List (κ × V)}{vs:List (κ × Value)}(r:KV kvs vs)(k:κ){y:V}{u:Value}(ry:RelV y u):
  KV (kvs.map λkv=>if kv.1=k then(kv.1,y)else kv) (vs.map λkv=>if kv.1=k then(kv.1,u)else kv):=by
 unfold KV at r ⊢
 induction r with
 |nil=>exact .nil
 | @cons p q ps qs h t ih =>
  rw[cE,cE];refine .cons ?_ ih;obtain⟨h1,h2⟩:=h
  by_cases e:p.1=k
  ·rw[aC e,aC (h1.symm.trans e)];exact⟨h1,ry⟩
  ·rw[aq e,aq (λz=>e (h1.trans z))];exact⟨h1,h2⟩
theorem KV.put{kvs:List (κ × V)}{vs:List (κ × Value)}(r:KV kvs vs)(k:κ){y:V}{u:Value}(ry:RelV y u):KV (putK kvs k y) (stored vs k u):=by
 unfold putK stored;rw[r.any k]
 by_cases e:(vs.any λkv=>decide (kv.1=k))=true
 ·rw[aC e,aC e];exact r.repl k ry
 ·rw[aq e,aq e];exact Paired.snoc r ⟨rfl,ry⟩
theorem KV.length{kvs:List (κ × V)}{vs:List (κ × Value)}(r:KV kvs vs):kvs.length=vs.length:=cK r
end
theorem Bb{P:Program}{w:World}{k:Key}{u:Value}(r:RelV (kV k) u):(eQ P w).is k u=true:=by
 cases k with
 |inl i=>obtain⟨t,e⟩:=(show ∃t,u=Value.int i t from r);subst e;exact X7 P w i t
 |inr x=>obtain⟨t,e⟩:=(show ∃t,u=Value.str x t from r);subst e;exact X8 P w x t
theorem Xi{P:Program}{w:World}{k:Key}{v:V}{u:Value}(q:Kz k v)(r:RelV v u):(eQ P w).is k u=true:=by
 rcases q with e|⟨b,e,ek⟩
 ·subst e;exact Bb r
 ·subst e;subst ek;cases(show u=Value.bool b from r);exact Xk b
theorem Kw{P:Program}{w:World}:∀{ks:List Key} {ws:List V} {us:List Value},Bc ks ws->Vals ws us->ItemsAre (eQ P w) ks us
 |_,_,_,.nil,.nil=>.nil
 |_,_,_,.cons q t,.cons h t'=>.cons (Xi q h) (Kw t t')
abbrev KT (H:Hp):List (List Key × V)->List (List Key × Addr × Value)->Prop:=Paired λp q=>p.1=q.1/\jq H q.2.1 p.1/\RelV p.2 q.2.2
theorem KT.val{H:Hp}{kvs:List (List Key × V)}{xs:List (List Key × Addr × Value)}(r:KT H kvs xs)(k:List Key):eF (de kvs k) ((atKey xs k).map (·.2)):=by
 induction r with
 |nil=>exact True.intro
 | @cons p q ps qs h t ih =>
  obtain⟨h1,_,h2⟩:=h
  by_cases e:p.1=k
  ·have e':q.1=k:=h1.symm.trans e
   have b:atKey (q::qs) k=some q.2:=by simp[atKey,o5,e']
   rw[kY e,b];exact h2
  ·have e':¬ q.1=k:=λz=>e (h1.trans z)
   have b:atKey (q::qs) k=atKey qs k:=by simp[atKey,o5,e']
   rw[jT e,b];exact ih
theorem KT.repl{H:Hp}{kvs:List (List Key × V)}{xs:List (List Key × Addr × Value)}(r:KT H kvs xs)(k:List Key){y:V}{u:Value}(ry:RelV y u):
  KT H (kvs.map λkv=>if kv.1=k then(kv.1,y)else kv) (xs.map (putAt k u)):=by
 induction r with
 |nil=>exact .nil
 | @cons p q ps qs h t ih =>
  rw[cE,cE];refine .cons ?_ ih;obtain⟨h1,h2,h3⟩:=h;unfold putAt
  by_cases e:p.1=k
  ·rw[aC e,aC (h1.symm.trans e)];exact⟨h1,h2,ry⟩
  ·rw[aq e,aq (λz=>e (h1.trans z))];exact⟨h1,h2,h3⟩
theorem KT.put{H:Hp}{kvs:List (List Key × V)}{xs:List (List Key × Addr × Value)}(r:KT H kvs xs)(k:List Key){b:Addr}{y:V}{u:Value}(hb:jq H b k)(ry:RelV y u):KT H (putK kvs k y) (storedH xs k b u):=by
 have e:(kvs.any λkv=>decide (kv.1=k))=(atKey xs k).isSome:=by
  rw[Ff,(r.val k).W',Option.isSome_map]
 unfold putK storedH;rw[e]
 by_cases q:(atKey xs k).isSome=true
 ·rw[aC q,aC q];exact r.repl k ry
 ·rw[aq q,aq q];exact Paired.snoc r ⟨rfl,hb,ry⟩
theorem KT.keeps{H H':Hp}{kvs:List (List Key × V)}{xs:List (List Key × Addr × Value)}(r:KT H kvs xs)(ht:∀b ys,H b=some (.tup ys)->H' b=some (.tup ys)):KT H' kvs xs:=
 Paired.dB r λ_ _ z=>⟨z.1,(let⟨ws,k1,k2⟩:=z.2.1;⟨ws,k1,ht _ _ k2⟩),z.2.2⟩
section
variable {P:Program} {w:World} {H:Hp} {h:Heap} {a:Addr}
theorem Nr{u:HO}(ok:b9 P w H h)(e:Rd H a u):bQ P w H h a u:=e.ok ok
theorem yJ{kvs:List (Key × V)}(ok:b9 P w H h)(e:Rd H a (.dK kvs)):kvs.length<=sizeLine/\(a==sysModules)=false/\∃vs,KV kvs vs/\h.DictOf (eQ P w) a vs:=
 show bQ P w H h a (.dK kvs)from Nr ok e
theorem TB{kvs:List (Key × V)}(ok:b9 P w H h)(e:H a=some (.dK kvs)):kvs.length<=sizeLine/\(a==sysModules)=false/\∃vs,KV kvs vs/\h.DictOf (eQ P w) a vs:=yJ ok (.inl e)
theorem Be{ks:List Key}(ok:b9 P w H h)(e:jq H a ks):(tupleKind (eQ P w)).is h ks a:=by
 obtain⟨ws,q,e⟩:=e;obtain⟨_,its,r,⟨o,h1,h2,n,h3⟩,_⟩:=(show bQ P w H h a (.tup ws)from ok a _ e);exact⟨o,its.toArray,n,h1,h2,h3,by simpa using Kw q r⟩
theorem yK{kvs:List (List Key × V)}(ok:b9 P w H h)(e:Rd H a (.dT kvs)):kvs.length<=sizeLine/\(a==sysModules)=false/\∃xs,KT H kvs xs/\h.DictOfH (tupleKind (eQ P w)) a xs:=by
 obtain⟨z,y,xs,r,o,es,ep,h1,h2,h3,h4,h5⟩:=(show bQ P w H h a (.dT kvs)from Nr ok e);refine⟨z,y,xs,r,o,es,ep,h1,h2,h3,h4,λx hx=>?_,h5⟩;have all:∀{l:List (List Key × V)} {m:List (List Key × Addr × Value)},KT H l m->∀x∈m,(tupleKind (eQ P w)).is h x.1 x.2.1:=by
  intro l m q
  induction q with
  |nil=>intro x hx;exact nomatch hx
  | @cons p q ps qs hq t ih =>
   intro x hx
   rcases bC.mp hx with e|hx
   ·subst e
    exact Be ok (by rw[<- hq.1];exact hq.2.1)
   ·exact ih x hx
 exact all r x hx
theorem TQ{kvs:List (List Key × V)}(ok:b9 P w H h)(e:H a=some (.dT kvs)):kvs.length<=sizeLine/\(a==sysModules)=false/\∃xs,KT H kvs xs/\h.DictOfH (tupleKind (eQ P w)) a xs:=yK ok (.inl e)
end
noncomputable def oN(H:Hp)(a:Addr)(y:V)(r:Option V):Prop:=
 (∃kvs k,Rd H a (.dK kvs)/\y=kV k/\r=de kvs k)\/∃kvs k b,Rd H a (.dT kvs)/\y = .ref b/\jq H b k/\r=de kvs k
noncomputable def oO(H:Hp)(a:Addr)(y v:V)(H':Hp):Prop:=
 (∃kvs k,H a=some (.dK kvs)/\y=kV k/\kvs.length<sizeLine/\H'=upd H a (.dK (putK kvs k v))) \/
 ∃kvs k b,H a=some (.dT kvs)/\y = .ref b/\jq H b k/\kvs.length<sizeLine/\H'=upd H a (.dT (putK kvs k v))
theorem oN.t{H:Hp}{a b:Addr}{kvs:List (List Key × V)}{k:List Key}(e:H a=some (.dT kvs))(eb:jq H b k):oN H a (.ref b) (de kvs k):=.inr ⟨kvs,k,b,.inl e,rfl,eb,rfl⟩
theorem oO.t{H:Hp}{a b:Addr}{kvs:List (List Key × V)}{k:List Key}{v:V}(e:H a=some (.dT kvs))(eb:jq H b k)(hl:kvs.length<sizeLine):oO H a (.ref b) v (upd H a (.dT (putK kvs k v))):=.inr ⟨kvs,k,b,e,rfl,eb,hl,rfl⟩
section
variable {X:Cx} {pins:List (Addr × Obj)} {σ:St} {H:Hp} {s:Shared} {a:Addr} {y v:V} {u r:Value} {o:Option V} {A:Around} {E:Value->Shared->Prop}
theorem Inv.big(I:Inv X pins σ H s):sysModules<s.heap.objs.size:=by
 have h:mainGlobals<s.heap.objs.size:=(I.mod.glob.keeps I.bk).lt;exact xC (by decide) h
theorem Il{h':Heap}{t':Nat}{ob:HO}(I:Inv X pins σ H s)(mu:o_ (H a))(hs:Heap.SameBut a s.heap h')(he:∃q,h'.get? a=some q)(new:bQ X.prog X.w (upd H a ob) h' a ob):
  Inv X pins σ (upd H a ob) {s with heap:=h',toks:=t'}:=
 I.write (x:=a) (e:=a) mu (.inl rfl) (λb q hb z=>(hs.2 b hb).trans z) he new
theorem Tz{P:Program}{w:World}{H':Hp}{h':Heap}{kvs:List (Key × V)}{vs:List (Key × Value)}(z:kvs.length<=sizeLine)(hd:(a==sysModules)=false)(rel:KV kvs vs)(dd:h'.DictOf (eQ P w) a vs):bQ P w H' h' a (.dK kvs):=⟨z,hd,vs,rel,dd⟩
theorem Tx{H':Hp}{Q:Unit->Shared->Prop}(hu:A.units+1<cLine)(I:Inv X pins σ H s)(g:oO H a y v H')(ry:RelV y u)(rv:RelV v r)(h:∀s',Inv X pins σ H' s'->Q () s'):wpAny (model X.prog X.w) A (setItem (.ref a) u r) Q E s:=by
 rcases g with⟨kvs,k,e,ey,l,eH⟩|⟨kvs,k,b,e,ey,eb,l,eH⟩
 ·subst ey eH
  obtain⟨z,hd,vs,rel,dd⟩:=TB I.hok e;have hz:vs.length<=sizeLine:=by rw[<- rel.length];exact z
  have hl:(putK kvs k v).length<=sizeLine:=by have:=K4 kvs k v;omega
  refine wpAny_setItem_pairs (hsz:=hz) (Bb ry) dd λh' sW hs=>h _ ?_;have he:∃q,h'.get? a=some q:=let⟨q,_,_,hq,_⟩:=sW;⟨q,hq⟩
  exact Il I (by rw[e];exact True.intro) hs he (Tz hl hd (rel.put k rv) sW)
 ·subst ey eH
  cases(show u=Value.ref b from ry);obtain⟨z,hd,xs,rel,dd⟩:=TQ I.hok e;have hz:xs.length<=sizeLine:=by rw[<- cK rel];exact z
  have hl:(putK kvs k v).length<=sizeLine:=by have:=K4 kvs k v;omega
  refine wpAny_setItem_heap (hsz:=hz) (tupleKind_room_in1 hu) (Be I.hok eb) dd λh' sW hs=>h _ ?_;obtain⟨q,es,ep,hq,h2,h3,h4,_,h5⟩:=sW;refine Il I (by rw[e];exact True.intro) hs ⟨q,hq⟩ ⟨hl,hd,_,(rel.put k eb rv).keeps λc ys ec=>?_,q,es,ep,hq,h2,h3,h4,h5⟩;rw[aJ (kB ec e (λz=>nomatch z))];exact ec
end
section
variable {X:Cx} {pins:List (Addr × Obj)} {σ:St} {H:Hp} {s:Shared} {a:Addr} {kvs:List (Key × V)} {k:Key} {u:Value} {A:Around} {E:Value->Shared->Prop}
end
noncomputable def aax(td ty tv:TE):TS:=λD σ H=>tv σ H λv H1=>td σ H1 λx H2=>ty σ H2 λy H3=>∃a H4,x = .ref a/\oO H3 a y v H4/\D.nx σ H4
section
variable {X:Cx} {o i e value:Expr} {pos pos' tpos:Pos} {td ty tv:TE}
theorem ZP(hu:X.A.units+1<cLine)(ho:PE X o td)(hi:PE X i ty)(hv:PE X value tv)(hs:swapsWith value (some (.Subscript o i pos')) pos.line X.env=pure false):PS X (.Assign [.Subscript o i pos'] value pos) (aax td ty tv):=by
 intro pins s σ H D I h;refine wpAny_Assign_Subscript (aL (hv pins s σ H _ I h) λr s1 ⟨v,H1,I1,rv,q1⟩=>aL (ho pins s1 σ H1 _ I1 q1) λu s2 ⟨x,H2,I2,rx,q2⟩=>aL (hi pins s2 σ H2 _ I2 q2) λiv s3 ⟨y,H3,I3,ry,a,H4,ex,g,q3⟩=>?_) hs;subst ex;obtain rfl:u=Value.ref a:=rx;exact Tx hu I3 g ry rv λs4 I4=>⟨σ,H4,I4,q3⟩
end
theorem TL {P:Program} {w:World} {H:Hp} (h:Heap) (hb:sysModules<h.objs.size):bQ P w H (h.push {cls:=.type "dict", data:=.dict #[]}) h.objs.size (.dT []):=
 ⟨cW _,mY.mpr (cZ (bI hb)),[],.nil,_,#[],0,bJ _ rfl,⟨rfl,rfl,rfl⟩,rfl,rfl,List.nodup_nil⟩
noncomputable def aa1:TE:=λ_ H Q=>∀p,H p=none->Q (.ref p) (upd H p (.dT []))
section
variable {X:Cx} {pos:Pos}
theorem Zq:PE X (.Dict [] [] pos) aa1:=λpins s σ H Q I h =>
 wpAny_Dict_empty ⟨.ref s.heap.objs.size,_,I.laid (a:=s.heap.objs.size) (o:=.dT []) (t':=s.toks) (λ_ _ q=>aU _ q) (aY _) (TL s.heap I.big),rfl,h _ (I.hok.fresh (aY _))⟩
end
structure M1 (X:Cx) (o:Expr) (m:Str) (apos:Pos) (e:Expr) (cpos:Pos):Prop where
 base:attributeBase o m X.env (eval o X.env)=eval o X.env
 few:((backTo cpos (starEach [e] X.env)).all (λx=>!x.1)&&(backToKw cpos (keywordEach [] X.env)).all (λx=>x.1.isSome)
  && decide (([e]:List Expr).length+([]:List Keyword).length+(if([]:List Keyword).isEmpty then 0 else 1)<30))=true
 line:(apos.endLine==cpos.line)=true
 trees:backTo cpos (starEach [e] X.env) = [(false,eval e X.env)]
structure M2 (X:Cx) (o:Expr) (m:Str) (apos:Pos) (e f:Expr) (cpos:Pos):Prop where
 base:attributeBase o m X.env (eval o X.env)=eval o X.env
 few:((backTo cpos (starEach [e,f] X.env)).all (λx=>!x.1)&&(backToKw cpos (keywordEach [] X.env)).all (λx=>x.1.isSome)
  && decide (([e,f]:List Expr).length+([]:List Keyword).length+(if([]:List Keyword).isEmpty then 0 else 1)<30))=true
 line:(apos.endLine==cpos.line)=true
 trees:backTo cpos (starEach [e,f] X.env) = [(false,eval e X.env),(false,eval f X.env)]
noncomputable def FJ(H:Hp)(a:Addr):Prop:=(∃kvs,Rd H a (.dK kvs))\/∃kvs,Rd H a (.dT kvs)
theorem W_{X:Cx}{pins:List (Addr × Obj)}{σ:St}{H:Hp}{s:Shared}{a:Addr}(I:Inv X pins σ H s)(d:FJ H a):
  s.TypeIs (.ref a) "dict" /\ (∀b,Value.ref a = .ref b->∃ob,s.heap.get? b=some ob/\ob.dict=none)/\(a==sysModules)=false:=by
 rcases d with⟨kvs,e⟩|⟨kvs,e⟩
 ·obtain⟨_,hd,vs,_,dd⟩:=yJ I.hok e
  refine⟨dd.typeIs,λb q=>?_,hd⟩;cases q;obtain⟨ob,_,_,h1,h2,_⟩:=dd;exact⟨ob,h1,h2.2.1⟩
 ·obtain⟨_,hd,xs,_,dd⟩:=yK I.hok e
  refine⟨dd.typeIs,λb q=>?_,hd⟩;cases q;obtain⟨ob,_,_,h1,h2,_⟩:=dd;exact⟨ob,h1,h2.2.1⟩
section
variable {X:Cx} {pins:List (Addr × Obj)} {σ:St} {H:Hp} {s:Shared} {a:Addr} {y d:V} {u r:Value} {o:Option V} {A:Around} {E:Value->Shared->Prop}
theorem Tw{Q:Value->Shared->Prop}(hu:A.units+1<cLine)(I:Inv X pins σ H s)(g:oN H a y o)(ry:RelV y u)(h:∀w' s',Inv X pins σ H s'->RelV (o.getD .non) w'->Q w' s'):
  wpAny (model X.prog X.w) A (call (.builtin "dict.get") [.ref a,u]) Q E s:=by
 rcases g with⟨kvs,k,e,ey,l⟩|⟨kvs,k,b,e,ey,eb,l⟩
 ·subst ey
  obtain⟨z,hd,vs,rel,dd⟩:=yJ I.hok e;refine call_meetsIn GX dd.typeIs RG (RC _ _) (meets_dict_get (eQ X.prog X.w) a (Bb ry) hd) ⟨_,dd.mapOf,h _ _ (I.tok _) ?_⟩;rw[l];exact(rel.val k).getD rfl
 ·subst ey
  cases(show u=Value.ref b from ry);obtain⟨z,hd,xs,rel,dd⟩:=yK I.hok e;refine call_meetsIn GX dd.typeIs RG (RC _ _) (meetsH_dict_get (tupleKind (eQ X.prog X.w)) a b hd) ⟨tupleKind_room_in1 hu,k,xs,Be I.hok eb,dd,h _ _ (I.tok _) ?_⟩;rw[l];exact(rel.val k).getD rfl
end
noncomputable def aa0(td ty:TE):TE:=λσ H Q=>td σ H λx H1=>∃a,x = .ref a/\FJ H1 a/\ty σ H1 λy H2=>∃o,oN H2 a y o/\Q (o.getD .non) H2
section
variable {X:Cx} {o e f:Expr} {apos cpos:Pos} {td ty tx:TE}
theorem Zo (hu:X.A.units+1<cLine) (ho:PE X o td) (he:PE X e ty) (m:M1 X o "get" apos e cpos):PE X (.Call (.Attribute o "get" apos) [e] [] cpos) (aa0 td ty):=by
 intro pins s σ H Q I h;refine wpAny_Call_method m.base m.few m.line PySem.F.plainAttrs_dict GX PySem.F.type_dict_get (aL (ho pins s σ H _ I h) λu s1 ⟨x,H1,I1,rx,a,ex,d,q1⟩=>?_);subst ex;obtain rfl:u=Value.ref a:=rx;obtain⟨t1,t2,_⟩:=W_ I1 d;refine⟨t1,t2,?_⟩;rw[m.trees];refine Calls.callWith_builtin rfl (Calls.evalArgs_plain (Calls.spliced_cons (aL (he pins s1 σ H1 _ I1 q1) λiv s2 ⟨y,H2,I2,ry,ov,g,q2⟩=>Calls.spliced_nil ?_)));exact Tw hu I2 g ry λw' s3 I3 rg=>⟨_,H2,I3,rg,q2⟩
end
section
variable {X:Cx} {pins:List (Addr × Obj)} {σ:St} {H:Hp} {s:Shared} {a:Addr} {kvs:List (Key × V)} {A:Around} {E:Value->Shared->Prop}
end
section
variable {X:Cx} {pins:List (Addr × Obj)} {σ:St} {H:Hp} {s:Shared} {a:Addr} {y:V} {u:Value} {A:Around} {E:Value->Shared->Prop}
end
end L2
namespace Fo
open PySem PySem.W PySem.Calls PyProof.Rows
theorem W6{P:Params}{h:Heap}:∀(ns:List Int) (vs:List Value),WellAll P h vs (ns.map WData.int)->IntsAre vs ns:=by
 intro ns
 induction ns with
 |nil =>
  intro vs w;rw[xl]at w;cases w;exact .nil
 |cons n ns ih =>
  intro vs w;rw[cE]at w;cases w with
  |cons a b =>
   cases a;exact .cons _ _ (ih _ b)
theorem aay{l:OpenLaw}{n:Nat}(hn:l.most=some n){P:Params}{h:Heap}{args:List WData}{vals:List Value}(hpre:l.row.toRowW.claim.pre args=true)(hwl:WellAll P h vals args):
  ∃a vs ns,vals = [Value.ref a]/\args = [WData.list (ns.map WData.int)]/\h.get? a=some {cls:=.type "list", data:=.seq vs.toArray}/\IntsAre vs ns/\ns.length<=n:=by
 have hsh:WShape.hasAll [] args [.list .int]=true:=(pre_splitW hpre).1;have hc:l.pre.holds [] {args:=args}=true:=(pre_splitW hpre).2;obtain⟨d,r,rfl,h1,h2⟩:=hasAllW_cons hsh;obtain rfl:=hasAllW_nil h2;obtain⟨xs,rfl,h3⟩:=hasW_list h1;obtain⟨ns,rfl⟩:=items_int h3;have hlen:ns.length<=n:=by
  unfold OpenLaw.pre at hc;have h4:(WTm.not (.lt (.lit (.int (n:Int))) (.len (.arg 0)))).holds [] {args:=[.list (ns.map .int)]}=true:=by
   have h4:=(holds_andW hc).1;rw[hn]at h4;exact h4
  have h5:=condW_of h4 (w_not (w_lt w_lit (w_len_list (w_arg rfl))));rw[aG]at h5;refine xA λq=>?_;have q':(n:Int)<((ns.length:Nat):Int):=by omega
  first
   | (rw[eh q']at h5;exact absurd h5 (by decide))
   | (simp at h5;omega)
 cases hwl with
 |cons w1 w2 =>
  cases w2;cases w1 with
  |list ho hall=>exact⟨_,_,ns,rfl,rfl,ho,W6 ns _ hall,hlen⟩
theorem ZN(l:OpenLaw)(args:List WData):l.row.toRowW.claim.post args (.bool true) args=true:=
 postW_of (r:=l.row.toRowW) (X:=(true==true))
  (show WShape.has [] (.bool true) .bool=true by first|rfl|decide|simp[WShape.has,WShape.arms,WShape.armsAll])
  (show(WTm.eq .res (.lit (.bool true))).value [] {args:=args,res:=some (.bool true),after:=args}=some (.bool (true==true))from w_eq_bool (w_res rfl) w_lit) rfl
theorem Se{l:OpenLaw}{n:Nat}{q:Program}{loose:List Str}{XP:(Str->Option Value)->Heap->Prop}{YP:World->Heap->Prop}{d:DefRec}(hn:l.most=some n)(hdf:d.params.defaults = [])
  (call:∀(w:World) (s₀ s₁:Shared) (mg mb:Str->Option Value) (fa:Addr) (o:Obj) (pm cd doc:Value) (a:Addr) (vs:List Value) (ns:List Int),
   Ground q loose [] XP w s₀ mg mb s₁.heap->YP w s₁.heap ->
   s₁.heap.get? fa=some o->o.data = .func (docDef d.name d.params d.body d.scope pm cd doc)->s₁.heap.CodeRec cd d.name->mg d.name=some (.ref fa) ->
   s₁.heap.get? a=some {cls:=.type "list", data:=.seq vs.toArray}->IntsAre vs ns->ns.length<=n->s₁.gens = #[] ->
   codeAny (model l.prog w) callerA (.call (.ref fa) ⟨[.ref a],[]⟩) (λr s'=>r = .ok (.ret (.bool true))/\OldK s₁.heap s'.heap/\s'.os=s₁.os/\AllBare s'.gens) s₁) :
  WalkO q loose XP YP l.row.toRowW d [] (λf vs=>PySem.call f vs):=by
 intro w s₀ s₁ mg mb G Y fa o pm cd doc dV kV ho hd hcd hD hmg hg args vals as hpre hlay hrd hwl hlo;obtain rfl:dV = .none:=Dflts.none hD hdf;obtain rfl:kV = .none:=Dflts.noKw hD;obtain⟨a,vs,ns,rfl,rfl,hobj,hints,hlen⟩:=aay hn hpre hwl;refine enter_call (hZ (call w s₀ s₁ mg mb fa o pm cd doc a vs ns G Y ho (fd_plain hd) hcd hmg hobj hints hlen hg) λr s' hq=>?_);obtain⟨rfl,h2,h3,h4⟩:=hq;exact⟨.inl ⟨.bool true,.bool true,[],rfl,λ_=>rfl,.bool true,ZN l _,λ_=>⟨List.Pairwise.nil,λ_ hm=>(nomatch hm)⟩⟩,h2,h3,h4⟩
section
variable {prog:Program} {w:World} {A:Around} {E:Value->Shared->Prop} {s:Shared} {K:Frag}
end
end Fo
namespace L2
open PySem PySem.Spec PyProof.Rows
theorem Fg:∀{vs:List Value} {ns:List Int},IntsAre vs ns->Vals (ns.map V.int) vs
 |_,_,.nil=>.nil
 |_,_,.cons n t h=>.cons ⟨t,rfl⟩ (Fg h)
noncomputable def inClass(s:Stmt)(j:Nat):Stmt:=match s with
 |.ClassDef _ _ _ body _ _ _ _ _ _ _=>body.getD j (.Pass ⟨0,0,0,0⟩)
 |_=>.Pass ⟨0,0,0,0⟩
noncomputable def ik(s:Stmt):Arguments:=match s with
 |.FunctionDef _ a _ _ _ _ _ _ _ _=>a
 |_=>{posonlyargs:=[],args:=[],vararg:=none,kwonlyargs:=[],kw_defaults:=[],kwarg:=none,defaults:=[]}
noncomputable def fZ(s:Stmt):List Stmt:=match s with
 |.FunctionDef _ _ b _ _ _ _ _ _ _=>b
 |_=>[]
noncomputable def aE(s:Stmt):Scope:=match s with
 |.FunctionDef _ _ _ _ _ _ sc _ _ _=>sc
 |_=>{kind:=.function,names:=[],isGenerator:=false,isCoroutine:=false}
abbrev aS:gB:=λ_ _ _ _ _ _=>False
abbrev E0:XK:=λ_ _ _=>False
theorem ot{X:Cx}:Passes aS X E0:=λ_ _ _ _ _ _ _ h=>h.elim
structure aV (K:W.Frag) (x qual:Str) (st:Stmt) (f:Addr) (fd:FuncData):Prop where
 ex:∃(oc:Value) (od:Option Addr) (kV doc pm:Value) (an:Option Addr) (cdv ct:Value) (osl:Array (Option Value)),
  fd=W.fnOf x qual (ik st) (fZ st) (aE st) .none kV doc pm an cdv ct/\K.lookup f=some ⟨oc,od,.func fd,osl⟩/\W.codeIn K cdv qual=true
 kp:W.keepIn K (.ref f)=true
section
variable {P:Program} {w:World} {K:W.Frag} {mg:Str->Option Value} {base:Heap}
theorem aV.ok{x qual:Str}{st:Stmt}{f:Addr}{fd:FuncData}{N ps:List Str}{k:Nat}{sp:Sp}(F:aV K x qual st f fd)(S:aZ N ps (aE st))(len:∀vs H Q E,sp vs H Q E->vs.length=ps.length)(hbody:∀(cdv:Value) (A:Around) (outer:List Env) (s:Shared) (H:Hp) (vs:List V) (Q:VK) (E:XK),bK k (A.deeper (envOfC qual (aE st) s.heap.objs.size f cdv))->sp vs H Q E->∃t,fB (lH aS P w K mg base N qual (aE st) f cdv A outer s H E).oh (fZ st) t/\t {nx:=λ_ H'=>Q .non H',rt:=Q} (start N vs) H):aN P w K mg base aS (k+1) f fd ps sp:=by
 obtain⟨oc,od,kV,doc,pm,an,cdv,ct,osl,rfl,lk,hcd⟩:=F.ex;refine Jf lk hcd S len λA outer s H vs Q E hr hsp=>?_;obtain⟨t,h,q⟩:=hbody cdv A outer s H vs Q E hr hsp;exact⟨t,h.oh,q⟩
theorem aV.binds{x qual:Str}{st:Stmt}{f:Addr}{fd:FuncData}{ps:List Str}(F:aV K x qual st f fd)
  (h:∀(kV doc pm:Value) (an:Option Addr) (cdv ct:Value) (us:List Value),us.length=ps.length->bindArgs (W.fnOf x qual (ik st) (fZ st) (aE st) .none kV doc pm an cdv ct) ⟨us,[]⟩=pure (ps.zip us)):Binds K fd ps []:=by
 obtain⟨oc,od,kV,doc,pm,an,cdv,ct,osl,rfl,lk,hcd⟩:=F.ex;exact .all (h kV doc pm an cdv ct)
theorem zP{x qual:Str}{st:Stmt}{f:Addr}{oc:Value}{od an:Option Addr}{osl:Array (Option Value)}{kV doc pm cdv ct:Value}(l:K.lookup f=some ⟨oc,od,.func (W.fnOf x qual (ik st) (fZ st) (aE st) .none kV doc pm an cdv ct),osl⟩)
  (c:W.codeIn K cdv qual=true) (k:W.keepIn K (.ref f)=true):aV K x qual st f (W.fnOf x qual (ik st) (fZ st) (aE st) .none kV doc pm an cdv ct):=⟨⟨oc,od,kV,doc,pm,an,cdv,ct,osl,rfl,l,c⟩,k⟩
end
theorem J_{A:Around}{k:Nat}(hr:bK k A):A.units+1<cLine:=rW (Nat.add_le_add_left (by decide:1<=64) _) hr.units
theorem jR{n:Nat}(h:n<=1000):n<sizeLine:=rW h (by decide)
section
variable {X:Cx}
theorem pv (i:Nat) {x:Str} {pos:Pos} (hN:X.N[i]?=some x:=by rfl) (hv:sv X.env.scope x:=by first|exact Or.inl rfl|exact Or.inr (Or.inl rfl)|exact Or.inr (Or.inr rfl)) (hd:(x==("__debug__" : Str))=false:=by decide)
  (hcd:(x==("__classdict__" : Str))=false:=by decide):PE X (.Name x pos) (kT i):=Zy hN hv hd hcd
end
theorem cz{A B:Prop}(h:B):if false=true then A else B:=by
 rw[aq dJ];exact h
theorem gQ{A B:Prop}(h:A):if true=true then A else B:=by
 rw[aC rfl];exact h
theorem bM{c A B:Prop}[Decidable c](h1:c->A)(h2:¬ c->B):if c then A else B:=by
 by_cases h:c
 ·rw[aC h]
  exact h1 h
 ·rw[aq h]
  exact h2 h
noncomputable def Same(H H':Hp):Prop:=∀b o,H b=some o->H' b=some o
theorem Same.refl(H:Hp):Same H H:=λ_ _ h=>h
theorem Same.trans{H H1 H2:Hp}(a:Same H H1)(b:Same H1 H2):Same H H2:=λc o h=>b c o (a c o h)
theorem Same.free{H H':Hp}(e:Same H H'){l:Addr}(h:H' l=Option.none):H l=Option.none:=by
 cases q:H l with
 |none=>rfl
 |some o =>
  rw[e l o q]at h;cases h
theorem Same.seq{K:W.Frag}{H H':Hp}{a:Addr}{xs:List V}(e:Same H H')(h:ai K H a xs):ai K H' a xs:=by
 rcases h with(h|⟨o,h⟩)|h
 ·exact .inl (.inl (e _ _ h))
 ·exact .inl (.inr ⟨o,e _ _ h⟩)
 ·exact .inr h
section
variable {κ:Type} [DecidableEq κ]
end
noncomputable def cj(cells:List (Str × Addr)):List (Str × NameKind)->List (Str × Addr)->List (Str × Addr)
 | [],acc=>acc
 | (n,k)::r,acc=>cj cells r (if(k==NameKind.free)=true then(n,(cells.lookup n).getD 0)::acc else acc)
theorem Ie{cells:List (Str × Addr)}{x:Str}{c:Addr}:∀{names:List (Str × NameKind)} {acc:List (Str × Addr)},(cj cells names acc).lookup x=some c->acc.lookup x=some c\/((x,NameKind.free)∈names/\c=(cells.lookup x).getD 0)
 | [],acc,h=>.inl h
 | (n,k)::r,acc,h=>by
  unfold cj at h
  rcases Ie h with h1|⟨h1,e⟩
  ·clear h
   split at h1
   ·rename_i hk
    rw[gF]at h1;cases hx:x==n with
    |true =>
     rw[hx]at h1;have hx':x=n:=by simpa using hx
     have hk':k = .free:=by simpa using hk
     subst hx' hk';exact .inr ⟨cC,(dW h1).symm⟩
    |false =>
     rw[hx]at h1;exact .inl h1
   ·exact .inl h1
  ·exact .inr ⟨bT _ h1,e⟩
theorem sO{cells:List (Str × Addr)}{x:Str}:∀{names:List (Str × NameKind)} {acc:List (Str × Addr)} {c:Addr},acc.lookup x=some c->∃c',(cj cells names acc).lookup x=some c'
 | [],_,c,h=>⟨c,h⟩
 | (n,k)::r,acc,c,h=>by
  unfold cj
  split
  ·cases hx:x==n with
   |true=>exact sO (c:=(cells.lookup n).getD 0) (by rw[gF,hx])
   |false=>exact sO (c:=c) (by rw[gF,hx];exact h)
  ·exact sO h
theorem qd{cells:List (Str × Addr)}{x:Str}:∀{names:List (Str × NameKind)} {acc:List (Str × Addr)},(x,NameKind.free)∈names->∃c,(cj cells names acc).lookup x=some c
 | [],_,h=>nomatch h
 | (n,k)::r,acc,h=>by
  unfold cj
  rcases bC.mp h with e|h
  ·injection e with e1 e2
   subst e1;subst e2;exact sO (c:=(cells.lookup x).getD 0) (by simp)
  ·exact qd h
theorem sN{scope:Scope}{env:Env}(h:∀x∈scope.names,x.2 = .free->∃c,env.cells.lookup x.1=some c):closureFor scope env=pure (cj env.cells scope.names []):=by
 have go:∀(names:List (Str × NameKind)) (acc:List (Str × Addr)),(∀x∈names,x.2 = .free->∃c,env.cells.lookup x.1=some c) ->
   (forIn names acc λx cs=>if(x.2==NameKind.free)=true then do let c <- cellOf env x.1;pure (ForInStep.yield ((x.1,c)::cs))else pure (ForInStep.yield cs):Sem (List (Str × Addr)))=pure (cj env.cells names acc):=by
  intro names
  induction names with
  |nil=>intro acc _;rfl
  |cons x r ih =>
   intro acc hx;obtain⟨n,k⟩:=x;rw[FT];unfold cj;cases hk:k==NameKind.free with
   |true =>
    obtain⟨c,hc⟩:=hx (n,k) cC (by simpa using hk);simp only[hk,jI,cellOf,hc,pure_bind,Option.getD_some];exact ih _ λy hy=>hx y (bT _ hy)
   |false =>
    simp only[hk,k0,jH,pure_bind];exact ih _ λy hy=>hx y (bT _ hy)
 have e:=go scope.names [] h;have e2:closureFor scope env=(forIn scope.names [] λx cs=>if(x.2==NameKind.free)=true then do let c <- cellOf env x.1;pure (ForInStep.yield ((x.1,c)::cs))else pure (ForInStep.yield cs):Sem (List (Str × Addr)))>>=λcs=>pure cs:=by
  rfl
 rw[e2,e];rfl
theorem K8{env:Env}:∀{names:List (Str × NameKind)} {x:Str},names.lookup x=some .free ->
  (names.map λ(n,k)=>if(k==NameKind.free&&env.scope.kind==.function&&env.kindOf n==some .cell)then(n,NameKind.cell)else(n,k)).lookup x=some .cell \/
  (names.map λ(n,k)=>if(k==NameKind.free&&env.scope.kind==.function&&env.kindOf n==some .cell)then(n,NameKind.cell)else(n,k)).lookup x=some .free
 | [],_,h=>by simp at h
 | (n,k)::r,x,h=>by
  have ih:=@K8 env r x;show List.lookup x ((if(k==NameKind.free&&env.scope.kind==.function&&env.kindOf n==some .cell)=true then(n,NameKind.cell)else(n,k))::_)=_\/List.lookup x ((if(k==NameKind.free&&env.scope.kind==.function&&env.kindOf n==some .cell)=true then(n,NameKind.cell)else(n,k))::_)=_;cases hx:x==n with
  |true =>
   simp only[gF,hx]at h;cases h
   by_cases hc:(NameKind.free==NameKind.free&&env.scope.kind==.function&&env.kindOf n==some .cell)=true
   ·rw[aC hc];simp[gF,hx]
   ·rw[aq hc];simp[gF,hx]
  |false =>
   simp only[gF,hx]at h
   by_cases hc:(k==NameKind.free&&env.scope.kind==.function&&env.kindOf n==some .cell)=true
   ·rw[aC hc];simp only[gF,hx];exact ih h
   ·rw[aq hc];simp only[gF,hx];exact ih h
theorem Lc{env:Env}:∀{names:List (Str × NameKind)} {x:Str},(∀y∈names,y.2≠.cell) ->
  ((names.map λ(n,k)=>if(k==NameKind.free&&env.scope.kind==.function&&env.kindOf n==some .cell)then(n,NameKind.cell)else(n,k)).lookup x=some .cell \/
  (names.map λ(n,k)=>if(k==NameKind.free&&env.scope.kind==.function&&env.kindOf n==some .cell)then(n,NameKind.cell)else(n,k)).lookup x=some .free)->(x,NameKind.free)∈names
 | [],_,_,h=>by simp at h
 | (n,k)::r,x,hn,h=>by
  have ih:=@Lc env r x λy hy=>hn y (bT _ hy)
  change List.lookup x ((if(k==NameKind.free&&env.scope.kind==.function&&env.kindOf n==some .cell)=true then(n,NameKind.cell)else(n,k))::_)=_\/List.lookup x ((if(k==NameKind.free&&env.scope.kind==.function&&env.kindOf n==some .cell)=true then(n,NameKind.cell)else(n,k))::_)=_ at h
  cases hx:x==n with
  |true =>
   have e:x=n:=by simpa using hx
   subst e
   by_cases hc:(k==NameKind.free&&env.scope.kind==.function&&env.kindOf x==some .cell)=true
   ·have hk:k = .free:=by
     have:=(bH _ _▸hc:_/\_).1;have:=(bH _ _▸this:_/\_).1;simpa using this
    subst hk;exact cC
   ·rw[aq hc]at h
    simp only[gF,hx]at h
    rcases h with h|h
    ·cases h;exact absurd rfl (hn _ cC)
    ·cases h;exact cC
  |false =>
   by_cases hc:(k==NameKind.free&&env.scope.kind==.function&&env.kindOf n==some .cell)=true
   ·rw[aC hc]at h;simp only[gF,hx]at h;exact bT _ (ih h)
   ·rw[aq hc]at h;simp only[gF,hx]at h;exact bT _ (ih h)
noncomputable def blk(X:Cx)(scope:Scope)(N':List Str)(C:Addr)(s₀:Shared)(H₀:Hp)(fp:List Addr):Cx:=
 {X with N:=N',s₀:=s₀,H₀:=H₀,env:=compEnvC scope (cj X.env.cells scope.names []) C X.env,outer:=X.stack,stack:=X.stack,ex:=fp,fn:=λ_=>false,pn:=[],xe:=λ_ _=>False}
structure fw (X:Cx) (scope:Scope) (fr:List (Str × Nat)):Prop where
 kind:scope.kind = .function
 qK:∀y∈scope.names,y.2≠.cell
 names:∀y∈scope.names,y.2 = .local->scope.names.lookup y.1=some .local
 free:∀y∈scope.names,y.2 = .free->X.env.scope.names.lookup y.1=some .cell\/X.env.scope.names.lookup y.1=some .free
 ix:∀p∈fr,X.N[p.2]?=some p.1/\scope.names.lookup p.1=some .free
noncomputable def blkσ(no:Nat)(fr:List (Str × Nat))(σ:St):St:=List.replicate no none++fr.map λp=>σ.getD p.2 none
noncomputable def Wk(σ σ':St):Prop:=σ.length=σ'.length/\∀(i:Nat) v,σ[i]?=some (some v)->σ'[i]?=some (some v)
theorem Wk.refl(σ:St):Wk σ σ:=⟨rfl,λ_ _ h=>h⟩
theorem Wk.set{σ σ':St}{i:Nat}{x:Option V}(h:Wk σ σ')(hi:σ[i]?=some none):Wk σ (σ'.set i x):=by
 refine⟨by rw[FX];exact h.1,λj v e=>?_⟩;have hj:j≠i:=by rintro rfl;rw[hi]at e;cases e
 rw[xh (cZ hj)];exact h.2 j v e
section
variable {X:Cx} {pins:List (Addr × Obj)} {σ:St} {H:Hp} {s:Shared} {scope:Scope} {fr:List (Str × Nat)} {own:List Str} {fp:List Addr}
theorem fw.cell(B:fw X scope fr)(ok:X.Ok):∀x∈scope.names,x.2 = .free->∃c,X.env.cells.lookup x.1=some c:=λx hx hk=>ok.has x.1 (B.free x hx hk)
theorem fw.sub(B:fw X scope fr)(ok:X.Ok){x:Str}{c:Addr}(h:(cj X.env.cells scope.names []).lookup x=some c):X.env.cells.lookup x=some c:=by
 rcases Ie h with h|⟨hm,e⟩
 ·simp at h
 ·obtain⟨c',hc⟩:=B.cell ok _ hm rfl
  rw[e,hc];rfl
theorem Sw(B:fw X scope fr)(I:Inv X pins σ H s)(hf:∀b∈fp,dq X pins H b)(hfs:∀b∈fp,b<s.heap.objs.size){N':List Str}:(blk X scope N' s.heap.objs.size s H fp).Ok where
 mod:=I.ok.mod
 kind:=B.kind
 glob:=I.ok.glob
 blt:=I.ok.blt
 above:=aY _
 inj:=λx y c h1 h2=>I.ok.inj x y c (B.sub I.ok h1) (B.sub I.ok h2)
 has:=λx h=>qd (Lc B.qK h)
 cab:=λx c h=>by cases h
 hd:=I.ok.hd
 frames:=I.ok.frames
 stk:=.inl rfl
 tu:=λb hb=>⟨bI (hfs b hb),λx c h=>(hf b hb).2.2.2.2.1 x c (B.sub I.ok h)⟩
 bs:=I.bs
 fW:=di I.ok.fW I.sz
 lZ:=λb o e hb=>by
  rcases(hf b hb).2.2.2.1 with h|h
  ·exact I.ok.lZ b o e h
  ·exact absurd (dE (a9 e) (di I.ok.fW h)) (g6 _)
 nE:=λb hb h=>by
  rcases bC.mp (I.Et b h)with e|h
  ·exact(hf b hb).2.1 e
  ·exact(hf b hb).2.2.1 h
 eJ:=I.stack
 iT:=I.Es
theorem Sx(B:fw X scope fr)(I:Inv X pins σ H s)(hf:∀b∈fp,dq X pins H b)(hfs:∀b∈fp,b<s.heap.objs.size){h1:Heap}{m:Str->Option Value}{tk:Nat}(hn:h1.Ns s.heap.objs.size m)
  (hk:∀b o,s.heap.get? b=some o->h1.get? b=some o):Inv (blk X scope (own++fr.map (·.1)) s.heap.objs.size s H fp) [] (blkσ own.length fr σ) H {s with heap:=h1,toks:=tk} where
 ok:=Sw B I hf hfs
 os:=rfl
 bare:=I.bare
 base:=Un.kept hk
 loc:=by
  refine⟨m,hn,λi x v e1 e2 e3=>?_⟩
  change (own++fr.map (·.1))[i]?=some x at e1
  unfold blkσ at e2
  by_cases hi:i<own.length
  ·rw[jh (by simpa using hi),Rc]at e2
   split at e2<;>cases e2
  ·rw[iH (by simpa using xA hi),cT]at e1
   rw[iH (by simpa using xA hi),cT,Ri]at e2;cases hp:fr[i - own.length]? with
   |none=>rw[hp]at e1;cases e1
   |some p =>
    rw[hp]at e1 e2;simp only[GJ,xG]at e1 e2;obtain⟨i1,i2⟩:=B.ix p (cV hp);subst e1;have e2':σ[p.2]?=some (some v):=by
     rw[bh]at e2;cases q:σ[p.2]? with
     |none=>rw[q]at e2;cases e2
     |some z=>rw[q]at e2;exact congrArg some e2
    have kX:X.env.kindOf p.1=some .cell\/X.env.kindOf p.1=some .free:=B.free (p.1,.free) (iN i2) rfl;obtain⟨m',hn',hl'⟩:=I.loc;have vis:sv X.env.scope p.1:=.inr kX;obtain⟨u,r,l⟩:=hl' p.2 p.1 v i1 e2' vis;refine⟨u,r,.inr ⟨K8 i2,?_⟩⟩
    rcases l with⟨k,_⟩|⟨_,c,hc,z⟩
    ·rcases kX with q|q<;>(rw[k]at q;cases q)
    ·obtain⟨c',hc'⟩:=qd (cells:=X.env.cells) (acc:=[]) (iN i2)
     have:=B.sub I.ok hc';rw[hc]at this;cases this;exact⟨c,hc',z.keeps hk⟩
 cell:=λx c h=>by
  obtain⟨v,z⟩:=I.cell x c (B.sub I.ok h);exact⟨v,z.keeps hk⟩
 free:=I.hok.fresh (aY _)
 e9:=λx c h=>I.e9 x c (B.sub I.ok h)
 pin:=λp hp=>absurd (show p∈([]:List (Addr × Obj))from hp) (by simp)
 hok:=I.hok.kept hk
 len:=by
  unfold blkσ;show _=(own++fr.map (·.1)).length;simp
theorem Sv{s':Shared}{H':Hp}{σ':St}{pY:List (Addr × Obj)}{N':List Str}(I:Inv X pins σ H s)(hf:∀b∈fp,dq X pins H b)(J:Inv (blk X scope N' s.heap.objs.size s H fp) pY σ' H' s'):Inv X pins σ H' s':=
 I.call' J.os J.base J.hok J.bare λb hb=>⟨(hf b hb).2.2.2.1,(hf b hb).2.1,(hf b hb).2.2.2.2.1,(hf b hb).2.2.2.2.2⟩
end
noncomputable def mP(Y:Cx)(ifs:List Expr)(t:TT):Prop:=
 ∀(pins:List (Addr × Obj)) (s:Shared) (σ:St) (H:Hp) (Q:Bool->Hp->Prop),Inv Y pins σ H s->t σ H Q ->
  wpAny (model Y.prog Y.w) Y.A (forIn ifs true λc r=>if r=true then do let ok <- isTrue c Y.env (eval c Y.env);pure (ForInStep.yield ok)else pure (ForInStep.yield r)) (TP Y pins σ Q) Y.xe s
noncomputable def oF:TT:=λ_ H Q=>Q true H
theorem da{Y:Cx}:mP Y [] oF:=λ_ _ _ H _ I h=>wpAny_tests_nil ⟨H,I,h⟩
theorem ox{Y:Cx}{c:Expr}{t:TT}(h:PT Y c t):mP Y [c] t:=λpins s σ H Q I hq=>wpAny_tests_one (h pins s σ H Q I hq)
noncomputable def jZ(J:It)(g:TG)(tc:TT)(te:TE)(σ₀:St)(D:Addr)(Q:Hp->Prop)(H:Hp):Prop:=
 ∃W:Nat->Nat->List V->Hp->Prop,(∃m,W 0 m [] H)/\∀i m ys H,W i m ys H ->
  (J.stop i H/\Q H)\/(J.go i H/\∃N:List V->Hp->Prop,(∀ys' H',N ys' H'->∃m',m'<m/\W (i+1) m' ys' H')/\∀x H',J.jW i H x H'->g x σ₀ H' λσ2 H2=>Wk σ₀ σ2 /\
   tc σ2 H2 λb H3=>if b=true then te σ2 H3 λy H4=>H4 D=some (.lst ys)/\ys.length<sizeLine/\N (ys++[y]) (upd H4 D (.lst (ys++[y])))else N ys H3)
theorem Inv.abA{X:Cx}{pins:List (Addr × Obj)}{σ σ':St}{H:Hp}{s:Shared}(I:Inv X pins σ' H s)(h:Wk σ σ'):Inv X pins σ H s:=I.weak h.1 h.2
theorem Tq{Y:Cx}{elt tg iter:Expr}{ifs:List Expr}{scope:Scope}{pos:Pos}{it D:Addr}{fp:List Addr}{tn:Nat->Heap->Prop}{J:It}{g:TG}{tc:TT}{te:TE}{σ₀:St}{H:Hp}{s:Shared}{Q:Hp->Prop}
  (hc:Y.calm=true) (T:Turn Y.prog Y.w Y.K tg J fp it tn) (hg:PG Y tg g) (hif:mP Y ifs tc) (he:PE Y elt te)
  (I:Inv Y [] σ₀ H s) (st:tn 0 s.heap) (hf:∀b∈fp,dq Y [] H b) (hw:jZ J g tc te σ₀ D Q H) (hx:Y.xe=λ_ _=>False) :
  codeAny (model Y.prog Y.w) Y.A (.compLoop (.ListComp elt [⟨tg,iter,ifs,0⟩] scope pos) 0 (.ref it) (.ref D) Y.env) (λr s'=>∃H',r = .ok .next/\Inv Y [] σ₀ H' s'/\Q H') s:=by
 obtain⟨W,⟨m0,w0⟩,turn⟩:=hw;have stat:∀{H':Hp},(∀b∈fp,H' b=none)->∀b∈fp,dq Y [] H' b:=λhn b hb=>⟨hn b hb,(hf b hb).2⟩;refine codeAny_loop rfl (λn s'=>∃i ys H',Inv Y [] σ₀ H' s'/\tn i s'.heap/\(∀b∈fp,H' b=none)/\W i n ys H') ?_ m0 ⟨0,[],H,I,st,λb hb=>(hf b hb).1,w0⟩;rintro n s3 ⟨i,ys,H3,I3,st3,qi,w3⟩;show wpAny _ Y.A ((compTurn (.ListComp elt [⟨tg,iter,ifs,0⟩] scope pos) 0 (.ref it) (.ref D) Y.env).onRaise (λx=>do noteFrame x Y.env;theTreesLotGoes x)) _ _ s3;refine wpAny_noted ?_;rw[compTurn_list];refine ah (wpAny_standAt (ah ?_));have toE:∀{α:Type} {t:Sem α} {P:α->Shared->Prop} {E:Value->Shared->Prop} {s:Shared},wpAny (model Y.prog Y.w) Y.A t P Y.xe s->wpAny (model Y.prog Y.w) Y.A t P E s:=λ{α t P E s} h=>by
  rw[hx]at h;exact h6 h (λ_ _ q=>q) λ_ _ q=>q.elim
 rcases turn i n ys H3 w3 with⟨stop,qn⟩|⟨go,N,hN,step⟩
 ·refine aL (T.done Y rfl rfl rfl hc i [] s3 σ₀ H3 _ I3 (stat qi) st3 stop) λr s4 ⟨hr,I4⟩=>?_
  subst hr;exact aK ⟨H3,rfl,I4,qn⟩
 ·refine aL (T.item Y rfl rfl rfl hc i [] s3 σ₀ H3 _ I3 (stat qi) st3 go) λr s4 ⟨u,hr,h4⟩=>?_
  subst hr;refine ah (aL h4 λ_ s5 ⟨x,H5,I5,r5,y5,je,zO⟩=>?_);have w5:=I5.pinned (stat zO) (T.obj _ _ je);refine ah (toE (aL (hg _ s5 σ₀ H5 x u _ w5 r5 (step x H5 y5)) λ_ s6 ⟨σ6,H6,I6,Qz,q6⟩=>?_));have again:∀{s7:Shared} {σ7:St} {wN:List V} {H7:Hp},Inv Y ([]++qU fp s5.heap) σ7 H7 s7->Wk σ₀ σ7->N wN H7->∃m,m<n/\∃i ys H',Inv Y [] σ₀ H' s7/\tn i s7.heap/\(∀b∈fp,H' b=none)/\W i m ys H':=λ{s7 σ7 wN H7} I7 wk7 n7=>by
   obtain⟨m',hm,w7⟩:=hN wN H7 n7;refine⟨m',hm,i+1,wN,H7,(I7.wJ).abA wk7,T.keep _ _ _ je λb hb o e=>(I7.pin (b,o) (fQ _ (fQ _ (uD hb e)))).1,λb hb=>?_,w7⟩;obtain⟨o,e,d⟩:=T.obj _ _ je b hb;exact(I7.pin (b,o) (fQ _ (fQ _ (uD hb e)))).2.1
  refine ah (h6 (hif _ s6 σ6 H6 _ I6 q6) (λok s7 ⟨H7,I7,q7⟩=>?_) λ_ _ q=>by rw[hx]at q;exact q.elim);cases ok with
  |false=>exact aK ⟨rfl,again I7 Qz q7⟩
  |true =>
   refine ah (ah (h6 (he _ s7 σ6 H7 _ I7 q7) (λv s8 ⟨y,H8,I8,r8,hD,hz,n8⟩=>?_) λ_ _ q=>by rw[hx]at q;exact q.elim));refine ah (h6 (lV _ s8 σ6 H8 (.ref D) [y] (.ref D) [v] (λ_ H9=>N (ys++[y]) H9) I8 rfl (.cons r8 .nil) ⟨D,ys,y,rfl,rfl,hD,hz,n8⟩) (λz s9 ⟨_,H9,I9,_,n9⟩=>?_) λ_ _ q=>by rw[hx]at q;exact q.elim);exact aK (aK ⟨rfl,again I9 Qz n9⟩)
noncomputable def Qe(wi:TI)(no:Nat)(fr:List (Str × Nat))(g:TG)(tc:TT)(te:TE):TE:=λσ H Q=>wi σ H λJ H1=>∀D,H1 D=none->jZ J g tc te (blkσ no fr σ) D (λH'=>Q (.ref D) H') (upd H1 D (.lst []))
section
variable {X:Cx} {elt tg iter:Expr} {ifs:List Expr} {scope:Scope} {pos:Pos} {own:List Str} {fr:List (Str × Nat)} {wi:TI} {g:TG} {tc:TT} {te:TE}
theorem Ig{pins:List (Addr × Obj)}{σ:St}{H2:Hp}{s2:Shared}{it:Addr}{fp:List Addr}{tn:Nat->Heap->Prop}{J:It}{Qd:V->Hp->Prop}{RR:Value->Addr->Result->Shared->Prop}{E:Value->Shared->Prop}(hc:X.calm=true)(B:fw X scope fr)
  (hb:∀(C:Addr) (s₀:Shared) (H₀:Hp) (fp:List Addr),PG (blk X scope (own++fr.map (·.1)) C s₀ H₀ fp) tg g/\mP (blk X scope (own++fr.map (·.1)) C s₀ H₀ fp) ifs tc/\PE (blk X scope (own++fr.map (·.1)) C s₀ H₀ fp) elt te)
  (I2:Inv X pins σ H2 s2) (T:Turn X.prog X.w X.K tg J fp it tn) (st2:tn 0 s2.heap) (f2:∀b∈fp,dq X pins H2 b)
  (hw:∀D,H2 D=none->jZ J g tc te (blkσ own.length fr σ) D (λH'=>Qd (.ref D) H') (upd H2 D (.lst [])))
  (hR:∀(D C:Addr) (s':Shared) (H':Hp) (m:Str->Option Value),Inv X pins σ H' s'->s'.heap.Ns C m->H' C=none->C≠X.env.locals->X.s₀.heap.objs.size<=C->(∀x c,X.env.cells.lookup x=some c->c≠C)->(∀p∈X.pn++pins,p.1≠C) ->
   Qd (.ref D) H'->RR (.ref D) C (.ok .next) s') :
  wpAny (model X.prog X.w) X.A (newList []) (λacc s₃=>wpAny (model X.prog X.w) X.A (newFunctionEnv scope X.env.globals (cj X.env.cells scope.names []) [] X.env.qual none .none (some X.env)) (λcenv s₄ =>
   codeAny (model X.prog X.w) X.A (.compStart (.ListComp elt [⟨tg,iter,ifs,0⟩] scope pos) 0 (.ref it) acc {cenv with scope:=relabel scope X.env}) (RR acc cenv.locals) s₄) E s₃) E s2:=by
 refine pH (wpAny_newFunctionEnv B.qK (by intro y hy;simp at hy) (λh₁ hns₁ hsb₁=>?_) B.kind);dsimp only at hns₁ hsb₁ ⊢;have hD:H2 s2.heap.objs.size=none:=I2.fresh;have I3:Inv X pins σ (upd H2 s2.heap.objs.size (.lst [])) {s2 with heap:=s2.heap.push {cls:=.type "list", data:=.seq ([]:List Value).toArray},toks:=s2.toks}:=I2.Bn .nil (by simp);have K_:∀b∈fp,b<s2.heap.objs.size:=λb hb=>by obtain⟨o,e,_⟩:=T.obj _ _ st2 b hb;exact a9 e
 have f3:∀b∈fp,dq X pins (upd H2 s2.heap.objs.size (.lst [])) b:=λb hb=>⟨by rw[aJ (bI (K_ b hb))];exact(f2 b hb).1,(f2 b hb).2⟩;generalize hs3:({s2 with heap:=s2.heap.push {cls:=.type "list", data:=.seq ([]:List Value).toArray},toks:=s2.toks}:Shared)=s3 at I3;have e3:s3.heap=s2.heap.push {cls:=.type "list", data:=.seq ([]:List Value).toArray}:=by rw[<- hs3]
 have La:∀b∈fp,b<s3.heap.objs.size:=λb hb=>by rw[e3,eY];exact rX (K_ b hb)
 have eC:(s2.heap.push {cls:=.type "list", dict:=none,data:=.seq ([]:List Value).toArray}).objs.size=s3.heap.objs.size:=by rw[e3]
 have old:∀b o,s3.heap.get? b=some o->h₁.get? b=some o:=λb o e=>by
  have hb:b<s3.heap.objs.size:=a9 e;rw[e3]at e;exact hsb₁.extBut b o (by rw[eC];exact bI hb) (aU _ e)
 rw[eC]at hns₁ ⊢;have IY:Inv (blk X scope (own++fr.map (·.1)) s3.heap.objs.size s3 (upd H2 s2.heap.objs.size (.lst [])) fp) [] (blkσ own.length fr σ) (upd H2 s2.heap.objs.size (.lst [])) {s3 with heap:=h₁,toks:=s2.toks+([]:List (Str × Value)).length}:=
  Sx (own:=own) B I3 f3 La hns₁ old
 have st3:tn 0 h₁:=T.keep _ _ _ st2 λb hb o e=>old b o (by rw[e3];exact aU _ e);have fY:∀b∈fp,dq (blk X scope (own++fr.map (·.1)) s3.heap.objs.size s3 (upd H2 s2.heap.objs.size (.lst [])) fp) [] (upd H2 s2.heap.objs.size (.lst [])) b:=λb hb =>
  ⟨(f3 b hb).1,bI (La b hb),(IY.ok.nE b hb),.inl hb,(IY.ok.tu b hb).2,λp hp=>absurd (show p∈([]:List (Addr × Obj))from hp) (by simp)⟩
 obtain⟨b1,b2,b3⟩:=hb s3.heap.objs.size s3 (upd H2 s2.heap.objs.size (.lst [])) fp;have loop:=Tq (Y:=blk X scope (own++fr.map (·.1)) s3.heap.objs.size s3 (upd H2 s2.heap.objs.size (.lst [])) fp) (iter:=iter) (scope:=scope) (pos:=pos) hc T b1 b2 b3 IY st3 fY (hw _ hD) rfl;have K9:codeAny (model X.prog X.w) X.A (.compLoop (.ListComp elt [⟨tg,iter,ifs,0⟩] scope pos) 0 (.ref it) (.ref s2.heap.objs.size) (compEnvC scope (cj X.env.cells scope.names []) s3.heap.objs.size X.env)) (RR (.ref s2.heap.objs.size) s3.heap.objs.size) {s3 with heap:=h₁,toks:=s2.toks+([]:List (Str × Value)).length}:=by
  refine hZ loop λr s' ⟨H',hr,J',q⟩=>?_;subst hr;obtain⟨m',hn',_⟩:=id J'.loc;refine hR s2.heap.objs.size s3.heap.objs.size s' H' m' (Sv I3 f3 J') hn' J'.free (g_ I3.lt) I3.sz (λx c e=>?_) (λp hp z=>?_) q
  ·obtain⟨v,z⟩:=I3.cell x c e
   exact bI z.lt
  ·exact absurd (a9 (I3.pin p hp).1) (by rw[z];exact g6 _)
 have es:({s2 with heap:=h₁,toks:=s2.toks+([]:List (Str × Value)).length}:Shared) = {s3 with heap:=h₁,toks:=s2.toks+([]:List (Str × Value)).length}:=by rw[<- hs3]
 rw[es];exact codeAny_compStart_list K9 (T.self X.A 0 _ _ _ st3 K9)
theorem cS(hc:X.calm=true)(B:fw X scope fr)(hi:PI X tg iter wi)
  (hb:∀(C:Addr) (s₀:Shared) (H₀:Hp) (fp:List Addr),PG (blk X scope (own++fr.map (·.1)) C s₀ H₀ fp) tg g/\mP (blk X scope (own++fr.map (·.1)) C s₀ H₀ fp) ifs tc/\PE (blk X scope (own++fr.map (·.1)) C s₀ H₀ fp) elt te)
  (hs:∀x,foldedSetIterable iter X.env x=pure x:=by intro _;rfl):PE X (.ListComp elt [⟨tg,iter,ifs,0⟩] scope pos) (Qe wi own.length fr g tc te):=by
 intro pins s σ H Q I h;rw[eval_ListComp];refine wpAny_comprehension_free (use:=none) rfl hs (sN (B.cell I.ok)) B.kind B.names (aL (hi pins s σ H _ I h) λv s1 h1=>aL h1 λitv s2 h2=>?_);obtain⟨it,fp,tn,J,H2,e,I2,T,st2,f2,hD⟩:=h2;subst e;refine Ig (own:=own) (Qd:=Q) (RR:=λacc C=>compPost (model X.prog X.w) X.A X.xe none (EP X pins σ Q) acc C) hc B hb I2 T st2 f2 hD ?_;intro D C s' H' m I' hn hC c1 c2 c3 c4 q;exact⟨m,hn,λh' sb=>⟨.ref D,H',I'.turned (t':=s'.toks) (λb o hb e=>sb.extBut b o hb e) hC (cZ c1).symm (.inr c2) c3 c4,rfl,q⟩⟩
theorem uZ{i:Nat}{x:Str}{py spos:Pos}(hN:X.N.Nodup)(hx:X.N[i]?=some x)(hl:X.env.scope.names.lookup x=some .local)(hc:X.calm=true)(B:fw X scope fr)(hi:PI X tg iter wi)
  (hb:∀(C:Addr) (s₀:Shared) (H₀:Hp) (fp:List Addr),PG (blk X scope (own++fr.map (·.1)) C s₀ H₀ fp) tg g/\mP (blk X scope (own++fr.map (·.1)) C s₀ H₀ fp) ifs tc/\PE (blk X scope (own++fr.map (·.1)) C s₀ H₀ fp) elt te)
  (hsw:swapsWith (.ListComp elt [⟨tg,iter,ifs,0⟩] scope pos) (some (.Name x py)) spos.line X.env=pure true:=by rfl)
  (hs:∀x,foldedSetIterable iter X.env x=pure x:=by intro _;rfl):PS X (.Assign [.Name x py] (.ListComp elt [⟨tg,iter,ifs,0⟩] scope pos) spos) (rK (Qe wi own.length fr g tc te) (bj i)):=by
 intro pins s σ H D0 I h;rw[exec_Assign_Name_used _ _ _ _ hsw];refine ah (wpAny_standAt (ah ?_));show wpAny _ X.A (do let _ <- comprehension (.ListComp elt [⟨tg,iter,ifs,0⟩] scope pos) scope X.env _ (newList []) false (eval iter X.env) (some (assign (.Name x py) X.env))) _ _ s;refine ah (h6 (wpAny_comprehension_free (use:=some (assign (.Name x py) X.env)) (Q:=λ_ s'=>SP X pins D0 .next s') rfl hs (sN (B.cell I.ok)) B.kind B.names
  (aL (hi pins s σ H _ I h) λv s1 h1=>aL h1 λitv s2 h2=>?_)) (λ_ s' hq=>aK (aK hq)) λ_ _ e=>e)
 obtain⟨it,fp,tn,J,H2,e,I2,T,st2,f2,hD⟩:=h2;subst e;refine Ig (own:=own) (Qd:=λv H'=>bj i v σ H' D0.nx) (RR:=λacc C=>compPost (model X.prog X.w) X.A X.xe (some (assign (.Name x py) X.env)) (λ_ s'=>SP X pins D0 .next s') acc C) hc B hb I2 T st2 f2 hD ?_;intro D C s' H' m I' hn hC c1 c2 c3 c4 q;show wpAny _ X.A (assign (.Name x py) X.env (.ref D)) _ _ _;refine wpAny_assign_Name (P8 I' hN hx (.inl hl) (v:=.ref D) rfl (λs'' QX ⟨a,sb,ha⟩=>?_) (.inr hl));have U5:C≠a:=by
  rcases ha with rfl|ha
  ·exact c1
  ·exact λe=>c3 x a ha e.symm
 refine⟨m,hn.sameBut sb U5,λh' sb'=>?_⟩;exact⟨_,H',QX.turned (t':=s''.toks) (λb o hb e=>sb'.extBut b o hb e) hC c1 (.inr c2) c3 c4,q⟩
end
noncomputable def bW(b:Bool)(h:Heap)(it a:Addr)(i:Nat):Prop:=match b with
 |true=>h.IsListIter it a i
 |false=>h.IsTupleIter it a i
noncomputable def cB(b:Bool)(h:Heap)(a:Addr)(items:Array Value):Prop:=match b with
 |true=>h.IsList a items
 |false=>h.IsTuple a items
theorem bW.at{b:Bool}{h h':Heap}{it a:Addr}{i:Nat}(x:bW b h it a i)(k:∀o,h.get? it=some o->h'.get? it=some o):bW b h' it a i:=by
 cases b with
 |true=>exact Heap.IsListIter.at x k
 |false=>exact Heap.IsTupleIter.at x k
theorem cB.at{b:Bool}{h h':Heap}{a:Addr}{items:Array Value}(x:cB b h a items)(k:∀o,h.get? a=some o->h'.get? a=some o):cB b h' a items:=by
 cases b with
 |true=>exact Heap.IsList.at x k
 |false=>obtain⟨o,e,r⟩:=x;exact⟨o,k o e,r⟩
theorem bW.obj{b:Bool}{h:Heap}{it a:Addr}{i:Nat}(x:bW b h it a i):∃o,h.get? it=some o/\∀v,o.data≠.cell v:=by
 cases b with
 |true=>obtain⟨o,e,c,d⟩:=x;exact⟨o,e,λv z=>by rw[d]at z;cases z⟩
 |false=>obtain⟨o,e,c,d⟩:=x;exact⟨o,e,λv z=>by rw[d]at z;cases z⟩
section
variable {prog:Program} {w:World} {A:Around} {E:Value->Shared->Prop} {s:Shared}
theorem Yc{it l:Addr}{i:Nat}{items:Array Value}{x:Value}{Q:Value->Shared->Prop}(hit:s.heap.IsTupleIter it l i)(hl:s.heap.IsTuple l items)(hx:items[i]?=some x)
  (hQ:∀h',h'.IsTupleIter it l (i+1)->Heap.SameBut it s.heap h'->Q x {s with heap:=h'}):wpAny (model prog w) A (Builtin.SmallTypes.nextOf (.ref it)) Q E s:=by
 obtain⟨o,ho,hc,hd⟩:=id hit;obtain⟨ol,hol,_,nl,hdl⟩:=hl;unfold Builtin.SmallTypes.nextOf;refine ah (lq (name:=Str.ofString "__next__") hit.typeIs xJ (iO xJ hit.typeIs RJ ?_ (RD _)));show wpAny _ _ (field (.ref it) 0>>=_) _ _ s;refine ah (iP ho hd (x:=.ref l) rfl ?_);show wpAny _ _ (if(Value.ref l==Value.none)=true then _ else _) _ _ s;rw[aq (show ¬ ((Value.ref l==Value.none)=true)from dJ)];show wpAny _ _ (field (.ref it) 1>>=_) _ _ s;refine ah (iP ho hd (x:=.int i 0) rfl ?_);show wpAny _ _ (seqItems? (.ref l)>>=_) _ _ s;refine ah (jo hol hdl ?_);simp only[bu,hx];refine ah (wpAny_setField ho hd (by simp) (aK ⟨x,rfl,aK (hQ _ ?_ (xN ..))⟩));exact⟨_,sf _ ho (Obj.isFreed_of_fields (Obj.data_mapFields hd _)),(Obj.cls_mapFields ..).trans hc,by rw[Obj.data_mapFields hd];simp[rawInt]⟩
theorem Yd{it l:Addr}{i:Nat}{items:Array Value}{Q:Value->Shared->Prop}(hh:A.handled=none)(hit:s.heap.IsTupleIter it l i)(hl:s.heap.IsTuple l items)(hx:items[i]?=none)
  (hE:∀h' e,Heap.ExtBut it s.heap h'->(∃o,h'.get? e=some o/\o.cls = .type "StopIteration")->E (.ref e) {s with heap:=h'}):wpAny (model prog w) A (Builtin.SmallTypes.nextOf (.ref it)) Q E s:=by
 obtain⟨o,ho,hc,hd⟩:=id hit;obtain⟨ol,hol,_,nl,hdl⟩:=hl;unfold Builtin.SmallTypes.nextOf;refine ah (lq (name:=Str.ofString "__next__") hit.typeIs xJ (iO xJ hit.typeIs RJ ?_ (RD _)));show wpAny _ _ (field (.ref it) 0>>=_) _ _ s;refine ah (iP ho hd (x:=.ref l) rfl ?_);show wpAny _ _ (if(Value.ref l==Value.none)=true then _ else _) _ _ s;rw[aq (show ¬ ((Value.ref l==Value.none)=true)from dJ)];show wpAny _ _ (field (.ref it) 1>>=_) _ _ s;refine ah (iP ho hd (x:=.int i 0) rfl ?_);show wpAny _ _ (seqItems? (.ref l)>>=_) _ _ s;refine ah (jo hol hdl ?_);simp only[bu,hx];refine ah (lr (ah (wpAny_setField ho hd (by simp) ?_)));show wpAny _ _ (newExc (.type "StopIteration") []>>=_) _ _ _;refine ah ?_;simp only[newExc,newTuple];refine ah (pH ?_ (by size_fits));refine ah (m:=firstArgMember _ _) (wpAny_of_eq (a:=Value.none) (by first|rfl | (simp only[firstArgMember];rfl)) ?_);refine pH ?_ (by size_fits);simp only[raiseNew];refine ah (wpAny_handled ?_)
 first|rw[show A.in1.handled=none from hh] | rw[hh]
 refine ah (aK (wpAny_throw ?_));exact hE _ _ (((xN ..).extBut.push _).push _) ⟨_,bJ _ rfl,rfl⟩
theorem uJ{b:Bool}{it l:Addr}{i:Nat}{items:Array Value}{x:Value}{Q:Value->Shared->Prop}(hit:bW b s.heap it l i)(hl:cB b s.heap l items)(hx:items[i]?=some x)
  (hQ:∀h',bW b h' it l (i+1)->Heap.SameBut it s.heap h'->Q x {s with heap:=h'}):wpAny (model prog w) A (Builtin.SmallTypes.nextOf (.ref it)) Q E s:=by
 cases b with
 |true=>exact wpAny_nextOf_list_item hit hl hx hQ
 |false=>exact Yc hit hl hx hQ
theorem Bu{b:Bool}{it l:Addr}{i:Nat}{items:Array Value}{Q:Value->Shared->Prop}(hh:A.handled=none)(hit:bW b s.heap it l i)(hl:cB b s.heap l items)(hx:items[i]?=none)
  (hE:∀h' e,Heap.ExtBut it s.heap h'->(∃o,h'.get? e=some o/\o.cls = .type "StopIteration")->E (.ref e) {s with heap:=h'}):wpAny (model prog w) A (Builtin.SmallTypes.nextOf (.ref it)) Q E s:=by
 cases b with
 |true=>exact wpAny_nextOf_list_end hh hit hl hx hE
 |false=>exact Yd hh hit hl hx hE
end
abbrev gY (h:Heap) (z TI TO:Addr) (f0:Value) (b:Bool):Prop:=
 h.get? z=some {cls:=.type "zip", dict:=none,data:=.fields #[f0,.bool b,.bool false,.ref TI,.ref TO],slots:=#[]}
section
variable {prog:Program} {w:World} {A:Around} {E:Value->Shared->Prop} {s:Shared} {c1 c2:Bool} {z TI TO i1 i2 l1 l2:Addr} {k1 k2:Nat} {xs ys:Array Value} {x y a b:Value}
theorem abK{f0:Value}{bb:Bool}{Q:Value->Shared->Prop}(D:ZipApart z TI TO i1 i2 l1 l2)(hz:gY s.heap z TI TO f0 bb)(hfree:∀{A':Around} {E':Value->Shared->Prop} {Q':Bool->Shared->Prop},Q' true s->wpAny (model prog w) A' (Builtin.SmallTypes.ownedTupleIsFree (.ref z)) Q' E' s)(hTI:IsPair s.heap TI (.ref i1) (.ref i2))(hTO:IsPair s.heap TO a b)(h1:bW c1 s.heap i1 l1 k1)(h2:bW c2 s.heap i2 l2 k2)(hl1:cB c1 s.heap l1 xs)(hl2:cB c2 s.heap l2 ys)(hx:xs[k1]?=some x)(hy:ys[k2]?=some y)(hQ:∀h',IsZip h' z TI TO (rawInt s.heap.objs.size)->IsPair h' TO x y->bW c1 h' i1 l1 (k1+1)->bW c2 h' i2 l2 (k2+1)->IsPair h' s.heap.objs.size x y->h'.objs.size=s.heap.objs.size+1 ->
   (∀c o,c≠z->c≠TO->c≠i1->c≠i2->s.heap.get? c=some o->h'.get? c=some o)->Q (.ref s.heap.objs.size) {s with heap:=h'}) :
  wpAny (model prog w) A (Builtin.«zip.__next__» ⟨[.ref z],[]⟩) (λfin s'=>∃v,fin = .done (.ret v)/\Q v s') E s:=by
 show wpAny _ _ (field (.ref z) 2>>=_) _ _ _;refine ah (iP hz rfl (x:=.bool false) rfl ?_);show wpAny _ _ (field (.ref z) 3>>=_) _ _ _;refine ah (iP hz rfl (x:=.ref TI) rfl ?_);refine ah (jo hTI rfl ?_);show wpAny _ _ (Builtin.SmallTypes.ownedTupleIsFree (.ref z)>>=_) _ _ _;refine ah (hfree ?_);simp only[jI];refine ah (lr ?_);refine ah (iP hz rfl (x:=.ref TO) rfl ?_);refine ah (h7 hz (by simp) λg1 hz1 e1=>?_)
 replace hz1:gY g1 z TI TO .ellipsis bb:=hz1
 refine ah ?_;simp only[List.zipIdx_cons,List.zipIdx_nil,FT,List.forIn_nil];refine ah (ah (xW ?_));show wpAny _ _ (Builtin.SmallTypes.nextOf (.ref i1)>>=_) _ _ _;refine ah (uJ (h1.at λo q=>e1.extBut _ o D.i1z q) (hl1.at λo q=>e1.extBut _ o D.l1z q) hx λg2 h1' e2=>aK ?_);have qq:IsPair g2 TO a b:=e2.extBut _ _ D.TOi1 (e1.extBut _ _ D.TOz hTO);refine ah (jo qq rfl ?_);refine ah (Hi qq λg3 ud e3=>?_)
 replace ud:IsPair g3 TO x b:=ud
 refine ah (xU (aK ?_));refine ah (ah (xW ?_));show wpAny _ _ (Builtin.SmallTypes.nextOf (.ref i2)>>=_) _ _ _;have Fb:∀o,s.heap.get? i2=some o->g3.get? i2=some o:=λo q=>e3.extBut _ o D.TOi2.symm (e2.extBut _ o D.i12.symm (e1.extBut _ o D.i2z q));have Fc:∀o,s.heap.get? l2=some o->g3.get? l2=some o:=λo q=>e3.extBut _ o D.l2TO (e2.extBut _ o D.l2i1 (e1.extBut _ o D.l2z q));refine ah (uJ (h2.at Fb) (hl2.at Fc) hy λg4 h2' e4=>aK ?_);have Js:IsPair g4 TO x b:=e4.extBut _ _ D.TOi2 ud;refine ah (jo Js rfl ?_);refine ah (Hi Js λg5 uf e5=>?_)
 replace uf:IsPair g5 TO x y:=uf
 refine ah (xU (aK (aK ?_)));refine ah (jo uf rfl ?_);refine ah (xV ?_);have sz:g5.objs.size=s.heap.objs.size:=by rw[e5.1,e4.1,e3.1,e2.1,e1.1]
 have Kd:gY g5 z TI TO .ellipsis bb:=e5.extBut _ _ D.TOz.symm (e4.extBut _ _ D.i2z.symm (e3.extBut _ _ D.TOz.symm (e2.extBut _ _ D.i1z.symm hz1)));have k5:∀c o,c≠z->c≠TO->c≠i1->c≠i2->s.heap.get? c=some o->g5.get? c=some o:=λc o q1 q2 q3 q4 q =>
  e5.extBut _ _ q2 (e4.extBut _ _ q4 (e3.extBut _ _ q2 (e2.extBut _ _ q3 (e1.extBut _ _ q1 q))))
 have h15:bW c1 g5 i1 l1 (k1+1):=h1'.at λo q=>e5.extBut _ o D.TOi1.symm (e4.extBut _ o D.i12 (e3.extBut _ o D.TOi1.symm q));have UW:bW c2 g5 i2 l2 (k2+1):=h2'.at λo q=>e5.extBut _ o D.TOi2.symm q;have QK:z<g5.objs.size:=a9 Kd;show wpAny _ _ (Builtin.SmallTypes.ownedTupleHandOut (.ref z) (.ref g5.objs.size)>>=_) _ _ _;refine ah ?_;unfold Builtin.SmallTypes.ownedTupleHandOut;have WL:gY (g5.push {cls:=.type "tuple", data:=.seq #[x,y]}) z TI TO .ellipsis bb:=aU _ Kd;refine ah (h7 WL (by simp) λg7 Ax e7=>?_)
 replace Ax:gY g7 z TI TO (rawInt g5.objs.size) bb:=Ax
 refine h7 Ax (by simp) λg8 hz8 e8=>?_
 replace hz8:IsZip g8 z TI TO (rawInt g5.objs.size):=hz8
 have up:∀c o,c≠z->g5.get? c=some o->g8.get? c=some o:=λc o q1 q=>e8.extBut _ _ q1 (e7.extBut _ _ q1 (aU _ q));have hT8:IsPair g8 g5.objs.size x y:=e8.extBut _ _ (g_ QK) (e7.extBut _ _ (g_ QK) (bJ _ rfl));have z8:g8.objs.size=g5.objs.size+1:=by rw[e8.1,e7.1,eY]
 rw[sz]at hz8 hT8 z8;refine aK ⟨_,rfl,?_⟩;show Q (.ref g5.objs.size) _;rw[sz];exact hQ g8 hz8 (up _ _ D.TOz uf) (h15.at λo q=>up _ o D.i1z q) (UW.at λo q=>up _ o D.i2z q) hT8 z8 λc o q1 q2 q3 q4 q=>up c o q1 (k5 c o q1 q2 q3 q4 q)
theorem abN{f0:Value}{bb:Bool}{Q:Fin->Shared->Prop}(hh:A.handled=none)(D:ZipApart z TI TO i1 i2 l1 l2)(hz:gY s.heap z TI TO f0 bb)(hfree:∀{A':Around} {E':Value->Shared->Prop} {Q':Bool->Shared->Prop},Q' true s->wpAny (model prog w) A' (Builtin.SmallTypes.ownedTupleIsFree (.ref z)) Q' E' s)(hTI:IsPair s.heap TI (.ref i1) (.ref i2))(hTO:IsPair s.heap TO a b)(h1:bW c1 s.heap i1 l1 k1)(h2:bW c2 s.heap i2 l2 k2)(hl1:cB c1 s.heap l1 xs)(hl2:cB c2 s.heap l2 ys)(hend:xs[k1]?=none\/ys[k2]?=none)
  (hE:∀h' e,(∀c o,c≠z->c≠TO->c≠i1->c≠i2->s.heap.get? c=some o->h'.get? c=some o)->(∃o,h'.get? e=some o/\o.cls = .type "StopIteration")->E (.ref e) {s with heap:=h'}) :
  wpAny (model prog w) A (Builtin.«zip.__next__» ⟨[.ref z],[]⟩) Q E s:=by
 show wpAny _ _ (field (.ref z) 2>>=_) _ _ _;refine ah (iP hz rfl (x:=.bool false) rfl ?_);show wpAny _ _ (field (.ref z) 3>>=_) _ _ _;refine ah (iP hz rfl (x:=.ref TI) rfl ?_);refine ah (jo hTI rfl ?_);show wpAny _ _ (Builtin.SmallTypes.ownedTupleIsFree (.ref z)>>=_) _ _ _;refine ah (hfree ?_);simp only[jI];refine ah (lr ?_);refine ah (iP hz rfl (x:=.ref TO) rfl ?_);refine ah (h7 hz (by simp) λg1 hz1 e1=>?_)
 replace hz1:gY g1 z TI TO .ellipsis bb:=hz1
 refine ah ?_;simp only[List.zipIdx_cons,List.zipIdx_nil,FT,List.forIn_nil];refine ah (ah (xW ?_));show wpAny _ _ (Builtin.SmallTypes.nextOf (.ref i1)>>=_) _ _ _;have u1:∀o,s.heap.get? i1=some o->g1.get? i1=some o:=λo q=>e1.extBut _ o D.i1z q;have u2:∀o,s.heap.get? l1=some o->g1.get? l1=some o:=λo q=>e1.extBut _ o D.l1z q;cases hx:xs[k1]? with
 |none =>
  refine ah (Bu hh (h1.at u1) (hl1.at u2) hx λg2 e e2 he=>?_);obtain⟨oe,hoe,hce⟩:=he;have hz2:gY g2 z TI TO .ellipsis bb:=e2 _ _ D.i1z.symm hz1;have hez:e≠z:=λq=>by subst q;rw[hz2]at hoe;cases hoe;simp at hce
  exact h7 hz2 (by simp) λg3 _ e3=>hE g3 e (λc o q1 _ q3 _ q=>e3.extBut _ _ q1 (e2 _ _ q3 (e1.extBut _ _ q1 q))) ⟨oe,e3.extBut _ _ hez hoe,hce⟩
 |some x =>
  have hy:ys[k2]?=none:=by rcases hend with h|h;rw[hx]at h;cases h;exact h
  refine ah (uJ (h1.at u1) (hl1.at u2) hx λg2 h1' e2=>aK ?_);have qq:IsPair g2 TO a b:=e2.extBut _ _ D.TOi1 (e1.extBut _ _ D.TOz hTO);refine ah (jo qq rfl ?_);refine ah (Hi qq λg3 ud e3=>?_);refine ah (xU (aK ?_));refine ah (ah (xW ?_));show wpAny _ _ (Builtin.SmallTypes.nextOf (.ref i2)>>=_) _ _ _;have Fb:∀o,s.heap.get? i2=some o->g3.get? i2=some o:=λo q=>e3.extBut _ o D.TOi2.symm (e2.extBut _ o D.i12.symm (e1.extBut _ o D.i2z q));have Fc:∀o,s.heap.get? l2=some o->g3.get? l2=some o:=λo q=>e3.extBut _ o D.l2TO (e2.extBut _ o D.l2i1 (e1.extBut _ o D.l2z q));refine ah (Bu hh (h2.at Fb) (hl2.at Fc) hy λg4 e e4 he=>?_);obtain⟨oe,hoe,hce⟩:=he;have Kc:gY g4 z TI TO .ellipsis bb:=e4 _ _ D.i2z.symm (e3.extBut _ _ D.TOz.symm (e2.extBut _ _ D.i1z.symm hz1));have hez:e≠z:=λq=>by subst q;rw[Kc]at hoe;cases hoe;simp at hce
  exact h7 Kc (by simp) λg5 _ e5=>hE g5 e (λc o q1 q2 q3 q4 q=>e5.extBut _ _ q1 (e4 _ _ q4 (e3.extBut _ _ q2 (e2.extBut _ _ q3 (e1.extBut _ _ q1 q))))) ⟨oe,e5.extBut _ _ hez hoe,hce⟩
theorem abM{f0:Value}{bb:Bool}{Q:Option Value->Shared->Prop}(D:ZipApart z TI TO i1 i2 l1 l2)(hz:gY s.heap z TI TO f0 bb)(hfree:∀{A':Around} {E':Value->Shared->Prop} {Q':Bool->Shared->Prop},Q' true s->wpAny (model prog w) A' (Builtin.SmallTypes.ownedTupleIsFree (.ref z)) Q' E' s)(hTI:IsPair s.heap TI (.ref i1) (.ref i2))(hTO:IsPair s.heap TO a b)(h1:bW c1 s.heap i1 l1 k1)(h2:bW c2 s.heap i2 l2 k2)(hl1:cB c1 s.heap l1 xs)(hl2:cB c2 s.heap l2 ys)(hx:xs[k1]?=some x)(hy:ys[k2]?=some y)(hQ:∀h',IsZip h' z TI TO (rawInt s.heap.objs.size)->IsPair h' TO x y->bW c1 h' i1 l1 (k1+1)->bW c2 h' i2 l2 (k2+1)->IsPair h' s.heap.objs.size x y->h'.objs.size=s.heap.objs.size+1 ->
   (∀c o,c≠z->c≠TO->c≠i1->c≠i2->s.heap.get? c=some o->h'.get? c=some o)->Q (some (.ref s.heap.objs.size)) {s with heap:=h'}) :
  wpAny (model prog w) A (pyNext (.ref z)) Q E s:=by
 have hT:s.TypeIs (.ref z) "zip" :=⟨_,hz,rfl⟩;unfold pyNext;exact ah (ll (lq (name:=Str.ofString "__next__") hT xK (iO xK hT F.entry_zip_next
  (abK D hz hfree hTI hTO h1 h2 hl1 hl2 hx hy λh' a1 a2 a3 a4 a5 a6 a7=>aK (hQ h' a1 a2 a3 a4 a5 a6 a7)) (F.args_zip_next_1 _))))
theorem abJ{f0:Value}{bb:Bool}{Q:Option Value->Shared->Prop}(hh:A.handled=none)(D:ZipApart z TI TO i1 i2 l1 l2)(hz:gY s.heap z TI TO f0 bb)(hfree:∀{A':Around} {E':Value->Shared->Prop} {Q':Bool->Shared->Prop},Q' true s->wpAny (model prog w) A' (Builtin.SmallTypes.ownedTupleIsFree (.ref z)) Q' E' s)(hTI:IsPair s.heap TI (.ref i1) (.ref i2))(hTO:IsPair s.heap TO a b)(h1:bW c1 s.heap i1 l1 k1)(h2:bW c2 s.heap i2 l2 k2)(hl1:cB c1 s.heap l1 xs)(hl2:cB c2 s.heap l2 ys)(hend:xs[k1]?=none\/ys[k2]?=none)
  (hQ:∀h',(∀c o,c≠z->c≠TO->c≠i1->c≠i2->s.heap.get? c=some o->h'.get? c=some o)->Q none {s with heap:=h'}):wpAny (model prog w) A (pyNext (.ref z)) Q E s:=by
 have hT:s.TypeIs (.ref z) "zip" :=⟨_,hz,rfl⟩;unfold pyNext;refine ah (ll (lq (name:=Str.ofString "__next__") hT xK (iO xK hT F.entry_zip_next (abN hh D hz hfree hTI hTO h1 h2 hl1 hl2 hend λh' e hk he=>?_) (F.args_zip_next_1 _))));obtain⟨o,ho,hc⟩:=he;refine ah (xT (T:= "StopIteration") (b:=true) ⟨o,ho,hc⟩ isSubtype_stop ?_);exact aK (hQ _ hk)
theorem Ji(hz:IsZip s.heap z TI TO .none){A':Around}{E':Value->Shared->Prop}{Q':Bool->Shared->Prop}(h:Q' true s):wpAny (model prog w) A' (Builtin.SmallTypes.ownedTupleIsFree (.ref z)) Q' E' s:=by
 unfold Builtin.SmallTypes.ownedTupleIsFree;exact ah (iP hz rfl (x:=.none) rfl (aK h))
theorem abL{Q:Option Value->Shared->Prop}(D:ZipApart z TI TO i1 i2 l1 l2)(hz:IsZip s.heap z TI TO .none)(hTI:IsPair s.heap TI (.ref i1) (.ref i2))(hTO:IsPair s.heap TO a b)(h1:bW c1 s.heap i1 l1 k1)(h2:bW c2 s.heap i2 l2 k2)(hl1:cB c1 s.heap l1 xs)(hl2:cB c2 s.heap l2 ys)(hx:xs[k1]?=some x)(hy:ys[k2]?=some y)(hQ:∀h',IsZip h' z TI TO (rawInt s.heap.objs.size)->IsPair h' TO x y->bW c1 h' i1 l1 (k1+1)->bW c2 h' i2 l2 (k2+1)->IsPair h' s.heap.objs.size x y->h'.objs.size=s.heap.objs.size+1 ->
   (∀c o,c≠z->c≠TO->c≠i1->c≠i2->s.heap.get? c=some o->h'.get? c=some o)->Q (some (.ref s.heap.objs.size)) {s with heap:=h'}) :
  wpAny (model prog w) A (pyNext (.ref z)) Q E s:=abM D hz (Ji hz) hTI hTO h1 h2 hl1 hl2 hx hy hQ
theorem abI{Q:Option Value->Shared->Prop}(hh:A.handled=none)(D:ZipApart z TI TO i1 i2 l1 l2)(hz:IsZip s.heap z TI TO .none)(hTI:IsPair s.heap TI (.ref i1) (.ref i2))(hTO:IsPair s.heap TO a b)(h1:bW c1 s.heap i1 l1 k1)(h2:bW c2 s.heap i2 l2 k2)(hl1:cB c1 s.heap l1 xs)(hl2:cB c2 s.heap l2 ys)(hend:xs[k1]?=none\/ys[k2]?=none)
  (hQ:∀h',(∀c o,c≠z->c≠TO->c≠i1->c≠i2->s.heap.get? c=some o->h'.get? c=some o)->Q none {s with heap:=h'}):wpAny (model prog w) A (pyNext (.ref z)) Q E s:=abJ hh D hz (Ji hz) hTI hTO h1 h2 hl1 hl2 hend hQ
end
noncomputable def Sq(b:Bool)(K:W.Frag)(H:Hp)(a:Addr)(xs:List V):Prop:=match b with
 |true=>ai K H a xs
 |false=>av K H a xs
section
variable {X:Cx} {pins:List (Addr × Obj)} {σ:St} {H:Hp} {s:Shared} {a:Addr} {xs ys:List V} {c:Bool}
theorem Inv.sq(I:Inv X pins σ H s)(h:Sq c X.K H a xs):∃its:List Value,Vals xs its/\cB c s.heap a its.toArray/\xs.length<=sizeLine:=by
 cases c with
 |true=>obtain⟨its,r,p,z⟩:=I.list h;exact⟨its,r,p.isList,z⟩
 |false=>obtain⟨its,r,p,z⟩:=I.tuple h;exact⟨its,r,p,z⟩
theorem Inv.En(I:Inv X pins σ H s)(h:Sq c X.K H a xs)(h':Sq c X.K H a ys):xs=ys:=by
 cases c with
 |true=>exact I.Bm h h'
 |false=>exact I.EY h h'
theorem Inv.dS(I:Inv X pins σ H s)(h:Sq c X.K H a xs){b:Addr}(f:dq X pins H b):a≠b:=by
 intro e;subst e;have base:∀o,X.K.lookup a=some o->False:=λo q=>by
  have e1:=I.ok.mod.kx a o q
  rcases f.2.2.2.1 with z|z
  ·exact I.ok.lZ a o e1 z
  ·exact absurd (dE (a9 e1) (di I.ok.fW z)) (g6 _)
 cases c with
 |true =>
  rcases h with(h|⟨o,h⟩)|⟨o,_,_,h,_⟩
  ·rw[f.1]at h;cases h
  ·rw[f.1]at h;cases h
  ·exact base o h
 |false =>
  rcases h with(h|⟨o,h⟩)|⟨o,_,_,h,_⟩
  ·rw[f.1]at h;cases h
  ·rw[f.1]at h;cases h
  ·exact base o h
theorem Inv.Qt{h':Heap}{t':Nat}{ch:List Addr}{T:Addr}{o:HO}(I:Inv X pins σ H s)(hch:∀b∈ch,dq X pins H b)
  (k:∀b u,b ∉ ch->s.heap.get? b=some u->h'.get? b=some u) (hT:s.heap.objs.size<=T) (new:bQ X.prog X.w (upd H T o) h' T o):Inv X pins σ (upd H T o) {s with heap:=h',toks:=t'}:=by
 have nU:H T=none:=I.hok.fresh hT;have qL:∀b u,H b=some u->b ∉ ch:=λb u e z=>by rw[(hch b z).1]at e;cases e
 have hb:∀b u,s.heap.get? b=some u->b≠T:=λb u e=>bI (dE (a9 e) hT);refine I.step (g':=s.gens) (d':=s.drawn) (ch:=ch) (λb hb=>⟨(hch b hb).2.2.2.1,(hch b hb).2.1,(hch b hb).2.2.2.2.1,(hch b hb).2.2.2.2.2⟩) (λb u _ _ hc e _=>k b u hc e) (λb u _ _ hc e _=>⟨u.slots,k b u hc e⟩)
  (λb u _ e n=>by rw[aJ (hb b u e)];exact n) (λb u hc e=>⟨u,k b u hc e⟩) (λb ys e=>by rw[aJ (bO e nU)];exact e) (λb u ys e=>by rw[aJ (bO e nU)];exact e)
  (λb ps e=>⟨#[],by rw[aJ (bO e nU),e];simp⟩) (λm hm=>?_) (λb u e=>?_) I.bare
 ·obtain⟨o',es,ep,ho,r⟩:=hm
  exact⟨o',es,ep,k _ o' (λz=>(hch _ z).2.1 rfl) ho,r⟩
 ·by_cases hbT:b=T
  ·subst hbT;rw[aA]at e;cases e;exact new
  ·rw[aJ hbT]at e
   refine(I.hok b u e).stay (λc v hc q=>k c v ?_ q) (λc q=>by rw[aJ (bO q nU)];exact q) (λc ys q=>by rw[aJ (bO q nU)];exact q) λc ob u q=>by rw[aJ (bO q nU)];exact q
   rcases hc with z|z
   ·rw[z];exact qL b u e
   ·exact qL c _ z
theorem Inv.Qs{h':Heap}{t':Nat}{ch:List Addr}(I:Inv X pins σ H s)(hch:∀b∈ch,dq X pins H b)
  (k:∀b u,b ∉ ch->s.heap.get? b=some u->h'.get? b=some u):Inv X pins σ H {s with heap:=h',toks:=t'}:=by
 have qL:∀b u,H b=some u->b ∉ ch:=λb u e z=>by rw[(hch b z).1]at e;cases e
 refine I.step (g':=s.gens) (d':=s.drawn) (ch:=ch) (λb hb=>⟨(hch b hb).2.2.2.1,(hch b hb).2.1,(hch b hb).2.2.2.2.1,(hch b hb).2.2.2.2.2⟩) (λb u _ _ hc e _=>k b u hc e) (λb u _ _ hc e _=>⟨u.slots,k b u hc e⟩)
  (λb u _ e n=>n) (λb u hc e=>⟨u,k b u hc e⟩) (λb ys e=>e) (λb u ys e=>e) (λb ps e=>⟨#[],by rw[e];simp⟩) (λm hm=>?_) (λb u e=>?_) I.bare
 ·obtain⟨o',es,ep,ho,r⟩:=hm
  exact⟨o',es,ep,k _ o' (λz=>(hch _ z).2.1 rfl) ho,r⟩
 ·refine(I.hok b u e).stay (λc v hc q=>k c v ?_ q) (λc q=>q) (λc ys q=>q) λc ob u q=>q
  rcases hc with z|z
  ·rw[z];exact qL b u e
  ·exact qL c _ z
end
noncomputable def w8(K:W.Frag)(c1 c2:Bool)(l1 l2:Addr):It:=
 ⟨λi H=>∃xs ys x y,Sq c1 K H l1 xs/\Sq c2 K H l2 ys/\xs[i]?=some x/\ys[i]?=some y,
   λi H v H'=>∃T x y,v = .ref T/\H T=none/\H'=upd H T (.tup [x,y])/\(∀xs,Sq c1 K H l1 xs->xs[i]?=some x)/\∀ys,Sq c2 K H l2 ys->ys[i]?=some y,
   λi H=>∃xs ys,Sq c1 K H l1 xs/\Sq c2 K H l2 ys/\(xs.length<=i\/ys.length<=i)⟩
structure Hl (c1 c2:Bool) (z TI TO i1 i2 l1 l2:Addr) (i:Nat) (h:Heap):Prop where
 hz:IsZip h z TI TO .none
 ti:IsPair h TI (.ref i1) (.ref i2)
 to:∃a b,IsPair h TO a b
 h1:bW c1 h i1 l1 i
 h2:bW c2 h i2 l2 i
theorem Mr{P:Program}{w:World}{H:Hp}{h:Heap}{T:Addr}{x y:V}{u v:Value}(e:IsPair h T u v)(r1:RelV x u)(r2:RelV y v):bQ P w H h T (.tup [x,y]):=
 ⟨by show 2<=sizeLine;decide,[u,v],.cons r1 (.cons r2 .nil),⟨_,e,rfl,_,rfl⟩,_,e,rfl⟩
theorem abm{P:Program}{w:World}{K:W.Frag}{elts:List Expr}{k:Nat}{pos:Pos}{c1 c2:Bool}{z TI TO i1 i2:Addr}(l1 l2:Addr)(nd:TI≠z/\TO≠z/\i1≠z/\i2≠z/\TI≠TO/\TI≠i1/\TI≠i2/\TO≠i1/\TO≠i2/\i1≠i2):Turn P w K (.Tuple elts k pos) (w8 K c1 c2 l1 l2) [z,TI,TO,i1,i2] z (Hl c1 c2 z TI TO i1 i2 l1 l2) where
 mem:=by simp
 obj:=λi h st b hb=>by
  have fld:∀{a:Addr} {o:Obj},h.get? a=some o->(∀v,o.data≠.cell v)->∃o,h.get? a=some o/\∀v,o.data≠.cell v:=λe d=>⟨_,e,d⟩;simp only[bC,fA,fL]at hb
  rcases hb with rfl|rfl|rfl|rfl|rfl
  ·exact⟨_,st.hz,λv q=>by cases(show Data.fields _=Data.cell v from q)⟩
  ·exact⟨_,st.ti,λv q=>by cases(show Data.seq _ _=Data.cell v from q)⟩
  ·obtain⟨_,_,e⟩:=st.to
   exact⟨_,e,λv q=>by cases(show Data.seq _ _=Data.cell v from q)⟩
  ·exact st.h1.obj
  ·exact st.h2.obj
 keep:=λi h h' st kk=>⟨kk z (by simp) _ st.hz,kk TI (by simp) _ st.ti,let⟨a,b,e⟩:=st.to;⟨a,b,kk TO (by simp) _ e⟩,st.h1.at λo e=>kk i1 (by simp) o e,st.h2.at λo e=>kk i2 (by simp) o e⟩
 item:=by
  intro X hP hw hK hc i pins s σ H E I hf st hg;subst hP hw hK;obtain⟨xs,ys,x,y,q1,q2,hx,hy⟩:=hg;obtain⟨A_,B_,p1,z1⟩:=I.sq q1;obtain⟨Ba,Ca,p2,z2⟩:=I.sq q2;obtain⟨u,hu,ru⟩:=B_.get hx;obtain⟨v,hv,rv⟩:=Ca.get hy;obtain⟨a,b,hTO⟩:=st.to;obtain⟨n1,n2,n3,n4,n5,n6,n7,n8,n9,n10⟩:=nd;have D:ZipApart z TI TO i1 i2 l1 l2:=⟨n1,n2,n3,n4,n5,n6,n7,n8,n9,n10,I.dS q1 (hf z (by simp)),I.dS q1 (hf TO (by simp)),I.dS q1 (hf i1 (by simp)),I.dS q1 (hf i2 (by simp)),
   I.dS q2 (hf z (by simp)),I.dS q2 (hf TO (by simp)),I.dS q2 (hf i1 (by simp)),I.dS q2 (hf i2 (by simp))⟩
  refine abL D st.hz st.ti hTO st.h1 st.h2 p1 p2 (by simpa using hu) (by simpa using hv) λh' a1 a2 a3 a4 a5 a6 a7=>?_;refine⟨_,rfl,wpAny_letOwnedTupleGo_zip a1 λh2 b1 b2=>?_⟩;have hzlt:z<s.heap.objs.size:=a9 st.hz;have Vs:IsPair h2 TI (.ref i1) (.ref i2):=b2.extBut _ _ n1 (a7 _ _ n1 n5 n6 n7 st.ti);have keep:∀b u,b ∉ [z,TO,i1,i2]->s.heap.get? b=some u->h2.get? b=some u:=λb u hb e=>by
   simp only[bC,fA,fL,not_or]at hb;exact b2.extBut _ _ hb.1 (a7 b u hb.1 hb.2.1 hb.2.2.1 hb.2.2.2 e)
  have hT2:IsPair h2 s.heap.objs.size u v:=b2.extBut _ _ (g_ hzlt) a5;have Eu:∀b∈[z,TO,i1,i2],b∈[z,TI,TO,i1,i2]:=λb hb=>by
   simp only[bC,fA,fL]at hb ⊢
   rcases hb with h|h|h|h<;>simp[h]
  have I2:Inv X pins σ (upd H s.heap.objs.size (.tup [x,y])) {s with heap:=h2,toks:=s.toks}:=
   I.Qt (λb hb=>hf b (Eu b hb)) keep (aY _) (Mr hT2 ru rv)
  refine⟨.ref s.heap.objs.size,_,I2,rfl,⟨_,x,y,rfl,I.fresh,rfl,λzs hz=>by rw[I.En hz q1];exact hx,λzs hz=>by rw[I.En hz q2];exact hy⟩,
   ⟨b1,Vs,⟨u,v,b2.extBut _ _ n2 a2⟩,a3.at λo e=>b2.extBut _ o n3 e,a4.at λo e=>b2.extBut _ o n4 e⟩,λb hb=>?_⟩
  have hlt:b<s.heap.objs.size:=by
   have live:∀b∈[z,TI,TO,i1,i2],b<s.heap.objs.size:=λb hb=>by
    simp only[bC,fA,fL]at hb
    rcases hb with rfl|rfl|rfl|rfl|rfl
    ·exact hzlt
    ·exact a9 st.ti
    ·exact a9 hTO
    ·obtain⟨o,e,_⟩:=st.h1.obj;exact a9 e
    ·obtain⟨o,e,_⟩:=st.h2.obj;exact a9 e
   exact live b hb
  rw[aJ (bI hlt)];exact(hf b hb).1
 done:=by
  intro X hP hw hK hc i pins s σ H E I hf st hg;subst hP hw hK;obtain⟨xs,ys,q1,q2,hend⟩:=hg;obtain⟨A_,B_,p1,z1⟩:=I.sq q1;obtain⟨Ba,Ca,p2,z2⟩:=I.sq q2;obtain⟨a,b,hTO⟩:=st.to;obtain⟨n1,n2,n3,n4,n5,n6,n7,n8,n9,n10⟩:=nd;have D:ZipApart z TI TO i1 i2 l1 l2:=⟨n1,n2,n3,n4,n5,n6,n7,n8,n9,n10,I.dS q1 (hf z (by simp)),I.dS q1 (hf TO (by simp)),I.dS q1 (hf i1 (by simp)),I.dS q1 (hf i2 (by simp)),
   I.dS q2 (hf z (by simp)),I.dS q2 (hf TO (by simp)),I.dS q2 (hf i1 (by simp)),I.dS q2 (hf i2 (by simp))⟩
  have e1:=B_.length;have e2:=Ca.length;have hend':A_.toArray[i]?=none\/Ba.toArray[i]?=none:=by
   rcases hend with h|h
   ·exact .inl (by simp;omega)
   ·exact .inr (by simp;omega)
  refine abI (I.ok.hd hc) D st.hz st.ti hTO st.h1 st.h2 p1 p2 hend' λh' kk=>⟨rfl,?_⟩;have Eu:∀b∈[z,TO,i1,i2],b∈[z,TI,TO,i1,i2]:=λb hb=>by
   simp only[bC,fA,fL]at hb ⊢
   rcases hb with h|h|h|h<;>simp[h]
  exact I.Qs (t':=s.toks) (ch:=[z,TO,i1,i2]) (λb hb=>hf b (Eu b hb)) λb u hb e=>by
   simp only[bC,fA,fL,not_or]at hb;exact kk b u hb.1 hb.2.1 hb.2.2.1 hb.2.2.2 e
 self:=λ_ _ _ _ _ st h=>wpAny_pyIter_zip st.hz h
noncomputable def gP (c:Bool) (l:Addr):Obj:={cls:=.type (match c with|true => "list_iterator" |false => "tuple_iterator"),data:=.fields #[.ref l,.int 0 0]}
theorem Em{c:Bool}{h:Heap}{it l:Addr}(e:h.get? it=some (gP c l)):bW c h it l 0:=by
 cases c with
 |true=>exact⟨_,e,rfl,rfl⟩
 |false=>exact⟨_,e,rfl,rfl⟩
section
variable {prog:Program} {w:World} {A:Around} {E:Value->Shared->Prop} {s:Shared}
theorem qx{c:Bool}{l:Addr}{items:Array Value}{Q:Value->Shared->Prop}(hl:cB c s.heap l items)
  (hQ:Q (.ref s.heap.objs.size) {s with heap:=s.heap.push (gP c l)}):wpAny (model prog w) A (pyIter (.ref l)) Q E s:=by
 cases c with
 |true=>exact si hl hQ
 |false=>exact wpAny_pyIter_tuple hl hQ
end
abbrev wO (c1:Bool) (h:Heap) (l1:Addr):Heap:=h.push (gP c1 l1)
abbrev wQ (c1 c2:Bool) (h:Heap) (l1 l2:Addr):Heap:=(wO c1 h l1).push (gP c2 l2)
abbrev wR (c1 c2:Bool) (h:Heap) (l1 l2:Addr):Heap:=(wQ c1 c2 h l1 l2).push {cls:=.type "tuple", data:=.seq #[.ref h.objs.size,.ref (wO c1 h l1).objs.size]}
abbrev wU (c1 c2:Bool) (h:Heap) (l1 l2:Addr):Heap:=(wR c1 c2 h l1 l2).push {cls:=.type "tuple", data:=.seq #[.none,.none]}
abbrev mG (c1 c2:Bool) (h:Heap) (l1 l2:Addr):Heap:=(wU c1 c2 h l1 l2).push {cls:=.type "zip", data:=.fields #[.none,.bool false,.bool false,.ref (wQ c1 c2 h l1 l2).objs.size,.ref (wR c1 c2 h l1 l2).objs.size]}
theorem XZ(c1 c2:Bool)(l1 l2:Addr)(xs ys:Array Value):
  Meets (Builtin.«zip.__new__» ⟨[.type "zip", .ref l1,.ref l2],[]⟩) (λ_ R s=>cB c1 s.heap l1 xs/\cB c2 s.heap l2 ys /\
   R (.ok (.ret (.ref (wU c1 c2 s.heap l1 l2).objs.size))) {s with heap:=mG c1 c2 s.heap l1 l2}):=
 .of_wp λprog w A R s h=>by
  obtain⟨hp,g,d,tk,os⟩:=s;obtain⟨hl1,hl2,h⟩:=h;have hsub:=sub_zip;have hL1:cB c1 (Shared.heap ⟨hp,g,d,tk,os⟩) l1 xs:=hl1;have hL2:cB c2 (Shared.heap ⟨hp.push (gP c1 l1),g,d,tk,os⟩) l2 ys:=hl2.at λo e=>aU _ e
  wp_walk using qx hL1,qx hL2
  exact⟨_,rfl,h⟩
section
variable {prog:Program} {w:World} {A:Around} {E:Value->Shared->Prop} {s:Shared}
theorem SM{c1 c2:Bool}{l1 l2:Addr}{xs ys:Array Value}{Q:Value->Shared->Prop}(hl1:cB c1 s.heap l1 xs)(hl2:cB c2 s.heap l2 ys)(h:∀h',Hl c1 c2 (s.heap.objs.size+4) (s.heap.objs.size+2) (s.heap.objs.size+3) s.heap.objs.size (s.heap.objs.size+1) l1 l2 0 h'->h'.objs.size=s.heap.objs.size+5 ->
   (∀c o,s.heap.get? c=some o->h'.get? c=some o)->Q (.ref (s.heap.objs.size+4)) {s with heap:=h'}) :
  wpAny (model prog w) A (call (.type "zip") [.ref l1,.ref l2]) Q E s:=by
 refine callType_new F.called_zip (by decide) (F.typeCall_zip_2 _ _) (F.newCall_zip_2 _ _) (λobj=>F.args_object_init_3 obj _ _) F.entry_zip_new (XZ c1 c2 l1 l2 xs ys) ⟨hl1,hl2,?_⟩;have z1:(wO c1 s.heap l1).objs.size=s.heap.objs.size+1:=eY ..;have z2:(wQ c1 c2 s.heap l1 l2).objs.size=s.heap.objs.size+2:=by rw[eY,z1]
 have z3:(wR c1 c2 s.heap l1 l2).objs.size=s.heap.objs.size+3:=by rw[eY,z2]
 have z4:(wU c1 c2 s.heap l1 l2).objs.size=s.heap.objs.size+4:=by rw[eY,z3]
 have z5:(mG c1 c2 s.heap l1 l2).objs.size=s.heap.objs.size+5:=by rw[eY,z4]
 have g5:(mG c1 c2 s.heap l1 l2).get? (wU c1 c2 s.heap l1 l2).objs.size=some _:=bJ _ rfl;have g4:(mG c1 c2 s.heap l1 l2).get? (wR c1 c2 s.heap l1 l2).objs.size=some _:=aU _ (bJ _ rfl);have g3:(mG c1 c2 s.heap l1 l2).get? (wQ c1 c2 s.heap l1 l2).objs.size=some _:=aU _ (aU _ (bJ _ rfl));have g2:(mG c1 c2 s.heap l1 l2).get? (wO c1 s.heap l1).objs.size=some _:=aU _ (aU _ (aU _ (bJ _ rfl)));have g1:(mG c1 c2 s.heap l1 l2).get? s.heap.objs.size=some _:=aU _ (aU _ (aU _ (aU _ (bJ _ rfl))));show _/\_;rw[z2,z3,z4]at g5;rw[z1,z2]at g3;rw[z3]at g4;rw[z1]at g2;rw[z4];exact⟨⟨_,g5,rfl⟩,h _ ⟨g5,g3,⟨_,_,g4⟩,Em g1,Em g2⟩ z5 λc o x =>
  aU _ (aU _ (aU _ (aU _ (aU _ x))))⟩
end
section
variable {X:Cx} {elts:List Expr} {k:Nat} {tpos:Pos}
noncomputable def Kj(K:W.Frag)(c1 c2:Bool)(ta:TA):TI:=λσ H R=>ta σ H λvs H1=>∃l1 l2 xs ys,vs = [.ref l1,.ref l2]/\Sq c1 K H1 l1 xs/\Sq c2 K H1 l2 ys/\R (w8 K c1 c2 l1 l2) H1
theorem ZM (c1 c2:Bool) {a b:Expr} {ta:TA} {p pos:Pos} (hg:Gl X "zip") (hm:X.mg "zip" = none) (ha:PA X [a,b] ta) (hs:starEach [a,b] X.env = [(false,eval a X.env),(false,eval b X.env)]:=by rfl) (hs2:starEach [b] X.env = [(false,eval b X.env)]:=by rfl) :
  PI X (.Tuple elts k tpos) (.Call (.Name "zip" p) [a,b] [] pos) (Kj X.K c1 c2 ta):=by
 intro pins s σ H R I h;refine Call_ (iY I hg hm (show bootBuiltins "zip" = some (.type "zip")by decide +kernel) (mR (aL (ha pos pins s σ H _ I h) λus s1 ⟨vs,H1,I1,r1,q1⟩=>?_) (by rw[hs,hs2]) (by rw[hs2];rfl)));obtain⟨l1,l2,xs,ys,e,q1,q2,q⟩:=q1;subst e;obtain⟨u,v,rfl,ru,rv⟩:=Vals.two r1;cases ru;cases rv;obtain⟨A_,_,p1,_⟩:=I1.sq q1;obtain⟨Ba,_,p2,_⟩:=I1.sq q2;refine SM p1 p2 λh' zr hz hk=>wpAny_pyIter_zip zr.hz ?_;have I2:Inv X pins σ H1 {s1 with heap:=h',toks:=s1.toks}:=I1.kept hk;have nd:∀n:Nat,n+2≠n+4/\n+3≠n+4/\n≠n+4/\n+1≠n+4/\n+2≠n+3/\n+2≠n/\n+2≠n+1/\n+3≠n/\n+3≠n+1/\n≠n+1:=λn=>by omega
 refine⟨_,_,_,_,H1,rfl,I2,abm l1 l2 (nd s1.heap.objs.size),zr,λb hb=>?_,q⟩;simp only[bC,fA,fL]at hb;have ge:s1.heap.objs.size<=b:=by rcases hb with rfl|rfl|rfl|rfl|rfl<;>omega
 exact I1.kj ge (I1.hok.fresh ge)
end
theorem Iv{prog:Program}{w:World}{A:Around}(hh:A.handled=none)(c:Bool)(it l:Addr)(hne:l≠it)(items:Array Value):Draws prog w A it [it,l] items.size (λi v=>items[i]?=some v) (λi h=>bW c h it l i/\cB c h l items) where
 live:=λ_ _ st=>let⟨o,ho,_⟩:=st.1.obj;⟨o,ho⟩
 frame:=λ_ _ _ st hk=>⟨st.1.at λo e=>hk it (by simp) o e,st.2.at λo e=>hk l (by simp) o e⟩
 item:=λi s Q E hi st hQ=>uJ st.1 st.2 (x:=items[i]) (by simp[hi]) λh' hit' hs'=>hQ _ h' s.toks (by simp[hi]) ⟨hit',st.2.at λo e=>hs'.extBut _ o hne e⟩ hs'
 done:=λs Q E st hE=>Bu hh st.1 st.2 (by simp) hE
theorem XX(c:Bool)(l:Addr)(items:Array Value):
  Meets (Builtin.«enumerate.__new__» ⟨[.type "enumerate", .ref l],[]⟩) (λ_ R s=>cB c s.heap l items /\
   R (.ok (.ret (.ref (s.heap.push (gP c l)).objs.size))) {s with heap:=(s.heap.push (gP c l)).push {cls:=.type "enumerate", data:=.fields #[.none,.bool false,.ref s.heap.objs.size,rawInt 0,.none,.none]}}):=
 .of_wp λprog w A R s h=>by
  obtain⟨hp,g,d,tk,os⟩:=s;obtain⟨hl,h⟩:=h;have hsub:=sub_enumerate;have hL:cB c (Shared.heap ⟨hp,g,d,tk,os⟩) l items:=hl
  wp_walk
  refine wpAny_stack_any λst=>aK ?_
  split
  ·rename_i cc _ _ _ _ _
   cases(cc==Value.type "enumerate")
   ·wp_walk using qx hL
    exact⟨_,rfl,h⟩
   ·wp_walk using qx hL
    exact⟨_,rfl,h⟩
  ·wp_walk using qx hL
   exact⟨_,rfl,h⟩
structure Fu (c:Bool) (e it l:Addr) (i:Nat) (h:Heap):Prop where
 he:∃old,IsEnum h e it i old
 h1:bW c h it l i
theorem SJ{prog:Program}{w:World}{A:Around}{E:Value->Shared->Prop}{s:Shared}{c:Bool}{l:Addr}{items:Array Value}{Q:Value->Shared->Prop}(hl:cB c s.heap l items)
  (h:∀h',Fu c (s.heap.objs.size+1) s.heap.objs.size l 0 h'->h'.objs.size=s.heap.objs.size+2->(∀b o,s.heap.get? b=some o->h'.get? b=some o)->Q (.ref (s.heap.objs.size+1)) {s with heap:=h'}) :
  wpAny (model prog w) A (call (.type "enumerate") [.ref l]) Q E s:=by
 refine callType_new F.called_enumerate (by decide) (F.typeCall_enumerate_1 _) (F.newCall_enumerate_1 _) (λobj=>F.args_object_init_2 obj _) F.entry_enumerate_new (XX c l items) ⟨hl,?_⟩;have hz:(s.heap.push (gP c l)).objs.size=s.heap.objs.size+1:=eY ..;have g2:((s.heap.push (gP c l)).push {cls:=.type "enumerate", data:=.fields #[.none,.bool false,.ref s.heap.objs.size,rawInt 0,.none,.none]}).get? (s.heap.push (gP c l)).objs.size=some _:=bJ _ rfl;have g1:((s.heap.push (gP c l)).push {cls:=.type "enumerate", data:=.fields #[.none,.bool false,.ref s.heap.objs.size,rawInt 0,.none,.none]}).get? s.heap.objs.size=some (gP c l):=aU _ (bJ _ rfl);show _/\_;rw[hz]at g2 ⊢;exact⟨⟨_,g2,rfl⟩,h _ ⟨⟨.none,g2⟩,Em g1⟩ (by rw[eY,hz]) λb o e=>aU _ (aU _ e)⟩
noncomputable def Ite(K:W.Frag)(c:Bool)(l:Addr):It:=
 ⟨λi H=>∃xs x,Sq c K H l xs/\xs[i]?=some x,
   λi H v H'=>∃T x,v = .ref T/\H T=none/\H'=upd H T (.tup [.int i,x])/\∀xs,Sq c K H l xs->xs[i]?=some x,
   λi H=>∃xs,Sq c K H l xs/\xs.length=i⟩
theorem abg{P:Program}{w:World}{K:W.Frag}{elts:List Expr}{k:Nat}{pos:Pos}{c:Bool}{e it:Addr}(l:Addr)(ne:e≠it):Turn P w K (.Tuple elts k pos) (Ite K c l) [e,it] e (Fu c e it l) where
 mem:=by simp
 obj:=λi h st b hb=>by
  simp only[bC,fA,fL]at hb
  rcases hb with rfl|rfl
  ·obtain⟨old,q⟩:=st.he
   exact⟨_,q,λv q=>by cases(show Data.fields _=Data.cell v from q)⟩
  ·exact st.h1.obj
 keep:=λi h h' st kk=>⟨let⟨old,q⟩:=st.he;⟨old,kk e (by simp) _ q⟩,st.h1.at λo q=>kk it (by simp) o q⟩
 item:=by
  intro X hP hw hK hc i pins s σ H E I hf st hg;subst hP hw hK;obtain⟨xs,x,q1,hx⟩:=hg;obtain⟨its,rv,p,z⟩:=I.sq q1;obtain⟨u,hu,ru⟩:=rv.get hx;obtain⟨old,he⟩:=st.he;have n1:l≠e:=I.dS q1 (hf e (by simp));have n2:l≠it:=I.dS q1 (hf it (by simp));have hil:i<its.length:=by rw[<- rv.length];exact(bD.mp hx).1
  have hh:X.A.in1.handled=none:=I.ok.hd hc;refine wpAny_pyNext_enum_itemD (Iv hh c it l n2 its.toArray) he ⟨st.h1,p⟩ (by simpa using hil) ne (by simp[ne,cZ n1]) λx' h' tk hP ho hs' hT hsz hk=>?_;have ex:x'=u:=by
   have hu':its.toArray[i]?=some u:=by simpa using hu
   rw[hu']at hP;exact(dW hP).symm
  subst ex;refine⟨_,rfl,wpAny_letOwnedTupleGo_enum ho λh2 b1 b2=>?_⟩;have elt:e<s.heap.objs.size:=a9 he;obtain⟨oi,ei,_⟩:=st.h1.obj;have W2:it<s.heap.objs.size:=a9 ei;have keep:∀b u,b ∉ [e,it]->s.heap.get? b=some u->h2.get? b=some u:=λb u hb q=>by
   simp only[bC,fA,fL,not_or]at hb;exact b2.extBut _ _ hb.1 (hk b u hb.1 hb.2 q)
  have hT2:IsPair h2 s.heap.objs.size (.int i tk) x':=b2.extBut _ _ (g_ elt) hT;have I2:Inv X pins σ (upd H s.heap.objs.size (.tup [.int i,x])) {s with heap:=h2,toks:=tk+1}:=I.Qt hf keep (aY _) (Mr hT2 ⟨tk,rfl⟩ ru);refine⟨.ref s.heap.objs.size,_,I2,rfl,⟨_,x,rfl,I.fresh,rfl,λzs hz=>by rw[I.En hz q1];exact hx⟩,⟨⟨x',by simpa using b1⟩,hs'.1.at λo q=>b2.extBut _ o (cZ ne) q⟩,λb hb=>?_⟩;have hlt:b<s.heap.objs.size:=by
   simp only[bC,fA,fL]at hb
   rcases hb with rfl|rfl
   ·exact elt
   ·exact W2
  rw[aJ (bI hlt)];exact(hf b hb).1
 done:=by
  intro X hP hw hK hc i pins s σ H E I hf st hg;subst hP hw hK;obtain⟨xs,q1,hend⟩:=hg;obtain⟨its,rv,p,z⟩:=I.sq q1;obtain⟨old,he⟩:=st.he;have n2:l≠it:=I.dS q1 (hf it (by simp));have el:i=its.toArray.size:=by rw[<- hend,rv.length];simp
  have hh:X.A.in1.handled=none:=I.ok.hd hc;refine wpAny_pyNext_enum_endD (Iv hh c it l n2 its.toArray) he (by rw[<- el];exact⟨st.h1,p⟩) λh' hx=>⟨rfl,?_⟩;exact I.Qs (t':=s.toks) (ch:=[e,it]) hf λb u hb q=>by
   simp only[bC,fA,fL,not_or]at hb;exact hx b u hb.2 q
 self:=λ_ _ _ _ _ st h=>let⟨_,he⟩:=st.he;wpAny_pyIter_enum he h
section
variable {X:Cx} {elts:List Expr} {k:Nat} {tpos:Pos}
noncomputable def Kg(K:W.Frag)(c:Bool)(ta:TA):TI:=λσ H R=>ta σ H λvs H1=>∃l xs,vs = [.ref l]/\Sq c K H1 l xs/\R (Ite K c l) H1
theorem ZD (c:Bool) {a:Expr} {ta:TA} {p pos:Pos} (hg:Gl X "enumerate") (hm:X.mg "enumerate" = none) (ha:PA X [a] ta) (hs:starEach [a] X.env = [(false,eval a X.env)]:=by rfl) :
  PI X (.Tuple elts k tpos) (.Call (.Name "enumerate" p) [a] [] pos) (Kg X.K c ta):=by
 intro pins s σ H R I h;refine Call_ (iY I hg hm (show bootBuiltins "enumerate" = some (.type "enumerate")by decide +kernel) (mR (aL (ha pos pins s σ H _ I h) λus s1 ⟨vs,H1,I1,r1,q1⟩=>?_) hs rfl));obtain⟨l,xs,e,q1,q⟩:=q1;subst e;obtain⟨u,rfl,ru⟩:=Vals.one r1;cases ru;obtain⟨its,_,p1,_⟩:=I1.sq q1;refine SJ p1 λh' er hz hk=>let⟨_,he⟩:=er.he;wpAny_pyIter_enum he ?_
 have I2:Inv X pins σ H1 {s1 with heap:=h',toks:=s1.toks}:=I1.kept hk;refine⟨_,_,_,_,H1,rfl,I2,abg l (show s1.heap.objs.size+1≠s1.heap.objs.size by omega),er,λb hb=>?_,q⟩;simp only[bC,fA,fL]at hb;have ge:s1.heap.objs.size<=b:=by rcases hb with rfl|rfl<;>omega
 exact I1.kj ge (I1.hok.fresh ge)
end
theorem Same.put{H:Hp}{a:Addr}{o:HO}(h:H a=none):Same H (upd H a o):=λb u e=>by rw[aJ (bO e h)];exact e
noncomputable def dj(D:Addr)(H H':Hp):Prop:=∀b o,b≠D->H b=some o->H' b=some o
theorem Same.x{H H':Hp}(s:Same H H')(D:Addr):dj D H H':=λb o _ e=>s b o e
theorem dj.put{D:Addr}{H:Hp}{o:HO}:dj D H (upd H D o):=λb u hb e=>by rw[aJ hb];exact e
theorem dj.trans{D:Addr}{H H1 H2:Hp}(a:dj D H H1)(b:dj D H1 H2):dj D H H2:=λc o hc e=>b c o hc (a c o hc e)
theorem dj.of{D:Addr}{H H':Hp}(h:H D=none)(s:dj D H H'):Same H H':=λb o e=>s b o (bO e h) e
theorem Same.sq{K:W.Frag}{H H':Hp}{a:Addr}{xs:List V}{c:Bool}(e:Same H H')(h:Sq c K H a xs):Sq c K H' a xs:=by
 cases c with
 |true=>exact e.seq h
 |false =>
  rcases h with(h|⟨o,h⟩)|h
  ·exact .inl (.inl (e _ _ h))
  ·exact .inl (.inr ⟨o,e _ _ h⟩)
  ·exact .inr h
theorem Same.oE{K:W.Frag}{H H':Hp}{a:Addr}{xs:List V}(e:Same H H')(h:av K H a xs):av K H' a xs:=e.sq (c:=false) h
structure gI (J:It) (g:TG) (σ₀:St) (H1:Hp) (n:Nat) (sl:Nat->St):Prop where
 go:∀i H,i<n->Same H1 H->J.go i H
 stop:∀H,Same H1 H->J.stop n H
 step:∀i H x H' (K:St->Hp->Prop),i<n->Same H1 H->J.jW i H x H'->(∀H2,Same H H2->K (sl i) H2)->g x σ₀ H' λσ2 H2=>Wk σ₀ σ2/\K σ2 H2
theorem src_range{lo:Int}{n:Nat}{ρ:St}{H1:Hp}:gI (j0 lo n) (bj 0) (none::ρ) H1 n (λi=>some (.int (lo+i))::ρ) where
 go:=λi H hi _=>hi
 stop:=λH _=>aY n
 step:=λi H x H' K hi hs hy hk=>by
  obtain⟨rfl,rfl⟩:=hy;exact⟨Wk.set (Wk.refl _) rfl,hk _ (Same.refl _)⟩
theorem src_list{K:W.Frag}{a:Addr}{xs:List V}{ρ:St}{H1:Hp}(h:ai K H1 a xs):gI (k7 K a) (bj 0) (none::ρ) H1 xs.length (λi=>some (xs.getD i .non)::ρ) where
 go:=λi H hi hs=>⟨xs,xs[i],hs.seq h,aI hi⟩
 stop:=λH hs=>⟨xs,hs.seq h,aY _⟩
 step:=λi H x H' K hi hs hy hk=>by
  obtain⟨rfl,hx⟩:=hy;have e:=hx xs (hs.seq h);have e2:xs.getD i .non=x:=by rw[bh,e];rfl
  refine⟨Wk.set (Wk.refl _) rfl,?_⟩;have:=hk _ (Same.refl _);rw[e2]at this;exact this
theorem Eo{K:W.Frag}{a:Addr}{xs:List V}{ρ:St}{H1:Hp}(h:av K H1 a xs):gI (oT K a) (bj 0) (none::ρ) H1 xs.length (λi=>some (xs.getD i .non)::ρ) where
 go:=λi H hi hs=>⟨xs,xs[i],hs.oE h,aI hi⟩
 stop:=λH hs=>⟨xs,hs.oE h,aY _⟩
 step:=λi H x H' K hi hs hy hk=>by
  obtain⟨rfl,hx⟩:=hy;have e:=hx xs (hs.oE h);have e2:xs.getD i .non=x:=by rw[bh,e];rfl
  refine⟨Wk.set (Wk.refl _) rfl,?_⟩;have:=hk _ (Same.refl _);rw[e2]at this;exact this
theorem PX{K:W.Frag}{c1 c2:Bool}{a b:Addr}{xs ys:List V}{n:Nat}{ρ:St}{H1:Hp}(h1:Sq c1 K H1 a xs)(h2:Sq c2 K H1 b ys)(hn:n=min xs.length ys.length):gI (w8 K c1 c2 a b) (nO K 2 (jB (bj 0) (jB (bj 1) qj))) (none::none::ρ) H1 n (λi=>some (xs.getD i .non)::some (ys.getD i .non)::ρ) where
 go:=λi H hi hs=>⟨xs,ys,xs[i]'(by omega),ys[i]'(by omega),hs.sq h1,hs.sq h2,aI (by omega),aI (by omega)⟩
 stop:=λH hs=>⟨xs,ys,hs.sq h1,hs.sq h2,by omega⟩
 step:=λi H v H' Kk hi hs hy hk=>by
  obtain⟨T,x,y,rfl,hT,rfl,hx,hy⟩:=hy;have e1:=hx xs (hs.sq h1);have e2:=hy ys (hs.sq h2);have e3:xs.getD i .non=x:=by rw[bh,e1];rfl
  have e4:ys.getD i .non=y:=by rw[bh,e2];rfl
  refine⟨T,[x,y],rfl,.inl (.inl aA),rfl,x,[y],rfl,y,[],rfl,rfl,?_⟩;have:=hk (upd H T (.tup [x,y])) (Same.put hT);rw[e3,e4]at this;exact⟨Wk.set (Wk.set (Wk.refl _) rfl) rfl,this⟩
theorem qe{J:It}{g:TG}{tc:TT}{te:TE}{σ₀:St}{D:Addr}{Q:Hp->Prop}{H1:Hp}{n:Nat}{sl:Nat->St}(keep:Nat->Bool)(Rl:Nat->V->Hp->Prop)(S:gI J g σ₀ H1 n sl)(hD:H1 D=none)(hn:n<sizeLine)(mono:∀i v H H',dj D H H'->Rl i v H->Rl i v H')(step:∀i H (Kt:V->Hp->Prop) (Kf:Hp->Prop),i<n->Same H1 H->(∃ys,H D=some (.lst ys))->(∀v H',keep i=true->Same H H'->Rl i v H'->Kt v H')->(∀H',keep i=false->Same H H'->Kf H') ->
   tc (sl i) H λb H3=>if b=true then te (sl i) H3 Kt else Kf H3)
  (fin:∀H' ys,Same H1 H'->H' D=some (.lst ys)->Paired (λi v=>Rl i v H') ((List.range n).filter keep) ys->Q H'):jZ J g tc te σ₀ D Q (upd H1 D (.lst [])):=by
 refine⟨λi m ys H=>m=n - i/\i<=n/\Same H1 H/\H D=some (.lst ys)/\Paired (λi v=>Rl i v H) ((List.range i).filter keep) ys,⟨n,by omega,by omega,Same.put hD,aA,.nil⟩,?_⟩;rintro i m ys H ⟨hm,hi,hs,hl,hp⟩;have hlen:ys.length<=i:=by
  have:=cK hp;rw[<- this];exact di (iI _ _) (by simp)
 by_cases e:i=n
 ·subst e
  exact .inl ⟨S.stop H hs,fin H ys hs hl hp⟩
 ·have hin:i<n:=by omega
  refine .inr ⟨S.go i H hin hs,λys' H'=>i+1<=n/\Same H1 H'/\H' D=some (.lst ys')/\Paired (λi v=>Rl i v H') ((List.range (i+1)).filter keep) ys',λys' H' h=>⟨n - (i+1),by omega,rfl,h⟩,λx H' hy=>?_⟩;refine S.step i H x H' (λσ2 H2=>tc σ2 H2 λb H3=>if b=true then te σ2 H3 λy H4=>H4 D=some (.lst ys)/\ys.length<sizeLine/\_ else _) hin hs hy λH2 s2=>?_;have up:∀{H':Hp},Same H2 H'->Paired (λi v=>Rl i v H') ((List.range i).filter keep) ys:=λ{H'} s'=>Paired.dB hp λa b r=>mono a b _ _ ((s2.trans s').x D) r;refine step i H2 _ _ hin (hs.trans s2) ⟨ys,s2 _ _ hl⟩ (λv H4 hk s4 r=>?_) λH4 hk s4=>?_
  ·have iW:H4 D=some (.lst ys):=s4 _ _ (s2 _ _ hl)
   refine⟨iW,by omega,hin,?_,aA,?_⟩
   ·exact dj.of hD (((hs.trans (s2.trans s4)).x D).trans dj.put)
   ·rw[o7,FP]
    have e1:[i].filter keep = [i]:=by simp[hk]
    rw[e1];exact PySem.Paired.snoc (Paired.dB (up s4) λa b q=>mono a b _ _ dj.put q) (mono _ _ _ _ dj.put r)
  ·refine⟨hin,hs.trans (s2.trans s4),s4 _ _ (s2 _ _ hl),?_⟩
   rw[o7,FP];have e1:[i].filter keep = []:=by simp[hk]
   rw[e1,oZ];exact up s4
theorem Mt{α:Type}{f:α->V}:∀{l:List α} {ys:List V},Paired (λi v=>v=f i) l ys->ys=l.map f
 |_,_,.nil=>rfl
 |_,_,.cons h t=>by rw[h,Mt t];rfl
theorem sS{J:It}{g:TG}{tc:TT}{te:TE}{σ₀:St}{D:Addr}{Q:Hp->Prop}{H1:Hp}{n:Nat}{sl:Nat->St}(keep:Nat->Bool)(f:Nat->V)(S:gI J g σ₀ H1 n sl)(hD:H1 D=none)(hn:n<sizeLine)(step:∀i H (Kt:V->Hp->Prop) (Kf:Hp->Prop),i<n->Same H1 H->(∀H',keep i=true->Same H H'->Kt (f i) H')->(∀H',keep i=false->Same H H'->Kf H') ->
   tc (sl i) H λb H3=>if b=true then te (sl i) H3 Kt else Kf H3)
  (fin:∀H',Same H1 H'->H' D=some (.lst (((List.range n).filter keep).map f))->Q H'):jZ J g tc te σ₀ D Q (upd H1 D (.lst [])):=
 qe keep (λi v _=>v=f i) S hD hn (λ_ _ _ _ _ h=>h) (λi H Kt Kf hi hs _ h1 h2=>step i H Kt Kf hi hs (λH' hk s'=>h1 _ H' hk s' rfl) h2)
  λH' ys hs hl hp=>fin H' hs (by rw[hl,Mt hp])
theorem filter_true{α:Type}(l:List α):l.filter (λ_=>true)=l:=List.filter_eq_self.mpr λ_ _=>rfl
theorem fE{J:It}{g:TG}{te:TE}{σ₀:St}{D:Addr}{Q:Hp->Prop}{H1:Hp}{n:Nat}{sl:Nat->St}(f:Nat->V)(S:gI J g σ₀ H1 n sl)(hD:H1 D=none)(hn:n<sizeLine)(step:∀i H (Kt:V->Hp->Prop),i<n->Same H1 H->(∀H',Same H H'->Kt (f i) H')->te (sl i) H Kt)(fin:∀H',Same H1 H'->H' D=some (.lst ((List.range n).map f))->Q H'):jZ J g oF te σ₀ D Q (upd H1 D (.lst [])):=
 sS (λ_=>true) f S hD hn (λi H Kt Kf hi hs h1 _=>gQ (A:=te (sl i) H Kt) (B:=Kf H) (step i H Kt hi hs λH' s'=>h1 H' rfl s')) λH' hs hl=>fin H' hs (by rw[hl,filter_true])
theorem kh{J:It}{g:TG}{te:TE}{σ₀:St}{D:Addr}{Q:Hp->Prop}{H1:Hp}{n:Nat}{sl:Nat->St}(Rl:Nat->V->Hp->Prop)(S:gI J g σ₀ H1 n sl)(hD:H1 D=none)(hn:n<sizeLine)(mono:∀i v H H',dj D H H'->Rl i v H->Rl i v H')(step:∀i H (Kt:V->Hp->Prop),i<n->Same H1 H->(∃ys,H D=some (.lst ys))->(∀v H',Same H H'->Rl i v H'->Kt v H')->te (sl i) H Kt)(fin:∀H' ys,Same H1 H'->H' D=some (.lst ys)->Paired (λi v=>Rl i v H') (List.range n) ys->Q H'):jZ J g oF te σ₀ D Q (upd H1 D (.lst [])):=
 qe (λ_=>true) Rl S hD hn mono (λi H Kt Kf hi hs hy h1 _=>gQ (A:=te (sl i) H Kt) (B:=Kf H) (step i H Kt hi hs hy λv H' s' r=>h1 v H' rfl s' r)) λH' ys hs hl hp=>fin H' ys hs hl (by rw[filter_true]at hp;exact hp)
theorem Ih{J:It}{g:TG}{te:TE}{σ₀:St}{D:Addr}{Q:Hp->Prop}{H1:Hp}{n:Nat}{sl:Nat->St}(c:Nat->List V)(S:gI J g σ₀ H1 n sl)(hD:H1 D=none)(hn:n<sizeLine)(step:∀i H (Kt:V->Hp->Prop),i<n->Same H1 H->(∀a H',Same H H'->H a=none->H' a=some (.lst (c i))->Kt (.ref a) H')->te (sl i) H Kt)(fin:∀H' (as:List Addr),Same H1 H'->H' D=some (.lst (as.map V.ref))->as.length=n->as.Nodup->(∀a∈as,H1 a=none/\a≠D)->(∀(i:Nat) a,as[i]?=some a->H' a=some (.lst (c i)))->Q H'):jZ J g oF te σ₀ D Q (upd H1 D (.lst [])):=by
 refine⟨λi m ys H=>m=n - i/\i<=n/\Same H1 H/\H D=some (.lst ys)/\∃as:List Addr,ys=as.map V.ref/\as.length=i/\as.Nodup/\(∀a∈as,H1 a=none/\a≠D)/\∀(j:Nat) a,as[j]?=some a->H a=some (.lst (c j)),
  ⟨n,by omega,by omega,Same.put hD,aA,[],rfl,rfl,List.nodup_nil,λ_ h=>(nomatch h),λj a h=>by simp at h⟩,?_⟩
 rintro i m ys H ⟨hm,hi,hs,hl,as,rfl,h1,h2,h3,h4⟩
 by_cases e:i=n
 ·subst e
  exact .inl ⟨S.stop H hs,fin H as hs hl h1 h2 h3 h4⟩
 ·have hin:i<n:=by omega
  refine .inr ⟨S.go i H hin hs,λys' H'=>i+1<=n/\Same H1 H'/\H' D=some (.lst ys')/\∃as:List Addr,ys'=as.map V.ref/\as.length=i+1/\as.Nodup/\(∀a∈as,H1 a=none/\a≠D)/\∀(j:Nat) a,as[j]?=some a->H' a=some (.lst (c j)),
   λys' H' h=>⟨n - (i+1),by omega,rfl,h⟩,λx H' hy=>?_⟩
  refine S.step i H x H' (λσ2 H2=>oF σ2 H2 λb H3=>if b=true then te σ2 H3 λy H4=>H4 D=some (.lst (as.map V.ref))/\(as.map V.ref).length<sizeLine/\_ else _) hin hs hy λH2 s2=>?_;dsimp only[oF];rw[aC rfl];refine step i H2 _ hin (hs.trans s2) λa H4 s4 ha hc=>?_;have iW:H4 D=some (.lst (as.map V.ref)):=s4 _ _ (s2 _ _ hl);have haD:a≠D:=λe=>by rw[e,s2 _ _ hl]at ha;cases ha
  have R9:a ∉ as:=λhm=>by
   obtain⟨j,hj,e⟩:=k8 hm;have:=s2 _ _ (h4 j a (by rw[aI hj,e]));rw[ha]at this;cases this
  refine⟨iW,by simp;omega,hin,dj.of hD (((hs.trans (s2.trans s4)).x D).trans dj.put),aA,as++[a],by simp,by simp[h1],?_,?_,?_⟩
  ·exact Gd.mpr ⟨h2,by simp,λx hx y hy=>by simp at hy;subst hy;exact λe=>R9 (e▸hx)⟩
  ·intro b hb
   rcases iK.mp hb with hb|hb
   ·exact h3 b hb
   ·simp at hb
    subst hb;exact⟨(hs.trans s2).free ha,haD⟩
  ·intro j b hj
   by_cases hjl:j<as.length
   ·rw[jh hjl]at hj
    have q:=h4 j b hj;have hbD:b≠D:=(h3 b (cV hj)).2;rw[aJ hbD];exact s4 _ _ (s2 _ _ q)
   ·have hj2:(as++[a])[j]?=some b:=hj
    rw[iH (by omega)]at hj2;have e0:j=as.length:=by
     by_cases z:j - as.length=0
     ·omega
     ·rw[Q_ (by simp;omega)]at hj2;cases hj2
    subst e0;simp at hj2;subst hj2;rw[aJ haD,h1];exact hc
noncomputable def Pu(pre:List V->Hp->Prop)(post:List V->Hp->V->Hp->Prop):Sp:=λvs H Q _=>pre vs H/\∀v H',Same H H'->post vs H v H'->Q v H'
noncomputable def HB(sc qO:Scope)(N:List Str)(fr:List (Str × Nat)):Bool:=
 sc.kind==.function&&sc.names.all (λy=>y.2 != .cell&&(y.2 != .local||sc.names.lookup y.1==some .local)&&(y.2 != .free||qO.names.lookup y.1==some .cell||qO.names.lookup y.1==some .free)) &&
 fr.all λp=>N[p.2]?==some p.1&&sc.names.lookup p.1==some .free
theorem bX{X:Cx}{scope:Scope}{fr:List (Str × Nat)}(qO:Scope)(N:List Str)(h1:X.env.scope=qO)(h2:X.N=N)(h:HB scope qO N fr=true):fw X scope fr:=by
 unfold HB at h;rw[bH,bH]at h;obtain⟨⟨a,b⟩,c⟩:=h;rw[oX]at b c;subst h1 h2;refine⟨by simpa using a,λy hy e=>?_,λy hy e=>?_,λy hy e=>?_,λp hp=>?_⟩
 ·have:=b y hy
  rw[e]at this;simp at this
 ·have:=b y hy
  rw[e]at this;simpa using this
 ·have:=b y hy
  rw[e]at this;simpa using this
 ·have:=c p hp
  simpa using this
structure ao (P:Program) (w:World) (K:W.Frag) (mg:Str->Option Value) (base:Heap) (x:Str) (ps:List Str) (k:Nat) (sp:Sp):Prop where
 ex:∃(f:Addr) (fd:FuncData),aN P w K mg base aS k f fd ps sp/\mg x=some (.ref f)/\W.keepIn K (.ref f)=true/\Binds K fd ps []
section
variable {X:Cx} {x:Str} {ps:List Str} {k k':Nat} {sp:Sp} {e:Expr} {es:List Expr} {t:TA} {p pos:Pos}
theorem aH (c:ao X.prog X.w X.K X.mg X.base x ps k sp) (hr:bK k' X.A) (hg:Gl X x) (ha:PA X (e::es) t) (hk:k<=k':=by decide) (hdb:(x==("__debug__" : Str))=false:=by decide)
  (he:starEach (e::es) X.env=(false,eval e X.env)::starEach es X.env:=by rfl) (hpl:(backTo pos (starEach es X.env)).any (·.1)=false:=by rfl):PE X (.Call (.Name x p) (e::es) [] pos) (Qa sp [] E0 t):=by
 obtain⟨f,fd,F,hm,kp,b⟩:=c.ex;exact Zj F (hr.mono hk) hg hm kp b .nil ot ha hdb he hpl
end
theorem SX {X:Cx} (T:String):d5 X (.builtin "isinstance") (λxs H Q=>∃x t b,xs = [x,.ty T]/\fD X.K H x t/\W.kitOne X.K t (.type T)=some b/\Q (.bl b) H):=by
 intro pins s σ H xs us Q I r h;obtain⟨x,t,b,rfl,ty,e,q⟩:=h;obtain⟨u,v,rfl,ru,rv⟩:=Vals.two r;cases rv;exact Xa I ru ty e λtk=>⟨.bl b,H,I.tok _,rfl,q⟩
theorem Sz:bootBuiltins "bool" = some (.type "bool"):=by decide +kernel
theorem SF:bootBuiltins "int" = some (.type "int"):=by decide +kernel
theorem lC:bootBuiltins "tuple" = some (.type "tuple"):=by decide +kernel
section
variable {X:Cx} {K:W.Frag}
theorem bE(h:X.K=K):mI X (Nh K):=h▸Xe
theorem aO(h:X.K=K):mI X (Ni K):=h▸Xg
theorem rD(h:X.K=K):xY X (Nk K):=h▸aaI
noncomputable def Nj(K:W.Frag):List V->Hp->VK->Prop:=λxs H Q=>∃p ys,xs = [.ref p]/\(ai K H p ys\/av K H p ys)/\Q (.int ys.length) H
theorem dw (h:X.K=K):d5 X (.builtin "len") (Nj K):=h▸S0
noncomputable def aad(K:W.Frag):List V->Hp->VK->Prop:=λxs H Q=>∃p ys,xs = [.ref p]/\((ai K H p ys/\∀l,H l=none->Q (.ref l) (upd H l (.tup ys)))\/(av K H p ys/\Q (.ref p) H))
theorem lF (h:X.K=K):d5 X (.type "tuple") (aad K):=h▸Tf
noncomputable def Z6(K:W.Frag)(T:String):List V->Hp->VK->Prop:=λxs H Q=>∃x t b,xs = [x,.ty T]/\fD K H x t/\W.kitOne K t (.type T)=some b/\Q (.bl b) H
theorem HR (T:String) (h:X.K=K):d5 X (.builtin "isinstance") (Z6 K T):=h▸SX T
variable {tg:Expr} {l:Expr} {tl:TE} {elts:List Expr} {k:Nat} {tpos pos p apos cpos:Pos} {a b o e:Expr} {es:List Expr} {ta:TA} {te tv to:TE} {f:Str}
theorem eU(h:X.K=K)(hl:PE X l tl):PI X tg l (Kh K tl):=h▸ZF hl
theorem uW(h:X.K=K)(hl:PE X l tl):PI X tg l (Ki K tl):=h▸ZL hl
theorem MT (c1 c2:Bool) (h:X.K=K) (hg:Gl X "zip") (hm:X.mg "zip" = none) (ha:PA X [a,b] ta) (hs:starEach [a,b] X.env = [(false,eval a X.env),(false,eval b X.env)]:=by rfl) (hs2:starEach [b] X.env = [(false,eval b X.env)]:=by rfl) :
  PI X (.Tuple elts k tpos) (.Call (.Name "zip" p) [a,b] [] pos) (Kj K c1 c2 ta):=h▸ZM c1 c2 hg hm ha hs hs2
theorem uV (c:Bool) (h:X.K=K) (hg:Gl X "enumerate") (hm:X.mg "enumerate" = none) (ha:PA X [a] ta) (hs:starEach [a] X.env = [(false,eval a X.env)]:=by rfl) :
  PI X (.Tuple elts k tpos) (.Call (.Name "enumerate" p) [a] [] pos) (Kg K c ta):=h▸ZD c hg hm ha hs
theorem bq(h:X.K=K)(he:PE X e te)(hb:attributeBase e f X.env (eval e X.env)=eval e X.env):PE X (.Attribute e f pos) (Qg K te f):=h▸Zr he hb
theorem qV{value:Expr}{pos':Pos}(h:X.K=K)(ha:PE X o te)(hv:PE X value tv)(hs:swapsWith value (some (.Attribute o f pos')) pos.line X.env=pure false):PS X (.Assign [.Attribute o f pos'] value pos) (NR K te tv f):=h▸ZQ ha hv hs
variable {name:Str} {T id:String} {r:V->List V->Hp->VK->Prop} {t:TA}
theorem fM (h:X.K=K) (pa:PlainAttrs T) (slot:Slot T name id) (hty:typeOf (.builtin id)=pure (.type "method_descriptor")) (hm:xu X id r) (ho:PE X o to) (ha:PA X (e::es) t)
  (h1:attributeBase o name X.env (eval o X.env)=eval o X.env:=by rfl)
  (h2:((backTo cpos (starEach (e::es) X.env)).all (λx=>!x.1)&&(backToKw cpos (keywordEach [] X.env)).all (λx=>x.1.isSome)&&decide ((e::es).length+([]:List Keyword).length+(if([]:List Keyword).isEmpty then 0 else 1)<30))=true:=by rfl)
  (h3:(apos.endLine==cpos.line)=true:=by rfl) (h4:starEach (e::es) X.env=(false,eval e X.env)::starEach es X.env:=by rfl) (h5:(backTo cpos (starEach es X.env)).any (·.1)=false:=by rfl) :
  PE X (.Call (.Attribute o name apos) (e::es) [] cpos) (Ex K T r to t):=h▸Zi pa slot hty hm ho ha h1 h2 h3 h4 h5
theorem ou{x y:Str}{i j:Nat}{p1 p2:Pos}(h:X.K=K)(hc:X.calm=true)(hN:X.N.Nodup)(hi:X.N[i]?=some x)(hj:X.N[j]?=some y)(hx:X.env.scope.names.lookup x=some .local)(hy:X.env.scope.names.lookup y=some .local):PG X (.Tuple [.Name x p1,.Name y p2] k tpos) (nO K 2 (jB (bj i) (jB (bj j) qj))):=
 h▸MN hc (fN (aW hN hi (Or.inl hx) (Or.inr hx)) (fN (aW hN hj (Or.inl hy) (Or.inr hy)) ow))
end
noncomputable def Its(c:Bool)(K:W.Frag)(a:Addr):It:=match c with
 |true=>k7 K a
 |false=>oT K a
noncomputable def WW(K:W.Frag)(c:Bool)(tl:TE):TI:=λσ H R=>tl σ H λx H1=>∃a,x = .ref a/\(∃xs,Sq c K H1 a xs)/\R (Its c K a) H1
noncomputable def Z7(K:W.Frag)(c:Bool):R2:=λx y H Q=>∃p xs i v,x = .ref p/\y = .int i/\Sq c K H p xs/\jt xs i=some v/\Q v H
section
variable {X:Cx} {K:W.Frag} {tg l:Expr} {tl:TE}
theorem ZK(c:Bool)(h:X.K=K)(hl:PE X l tl):PI X tg l (WW K c tl):=by
 cases c with
 |true=>exact eU h hl
 |false=>exact uW h hl
theorem Xf(c:Bool)(h:X.K=K):mI X (Z7 K c):=by
 cases c with
 |true=>exact bE h
 |false=>exact aO h
theorem aaU{c:Bool}{a:Addr}{xs:List V}{ρ:St}{H1:Hp}(h:Sq c K H1 a xs):gI (Its c K a) (bj 0) (none::ρ) H1 xs.length (λi=>some (xs.getD i .non)::ρ):=by
 cases c with
 |true=>exact src_list h
 |false=>exact Eo h
end
section
variable {K:W.Frag} {g:TG} {tb:TS} {D:Ends} {σ:St} {H:Hp}
theorem zN{c:Bool}{l:Addr}{xs:List V}(Pv:Nat->St->Hp->Prop)(h0:Pv 0 σ H)(hl:∀i σ H,Pv i σ H->Sq c K H l xs)
  (hs:∀i x σ H T,xs[i]?=some x->H T=none->Pv i σ H->g (.ref T) σ (upd H T (.tup [.int i,x])) λσ2 H2=>tb {D with nx:=Pv (i+1),ct:=Pv (i+1),bk:=D.nx} σ2 H2) (hd:∀σ H,Pv xs.length σ H->D.nx σ H) :
  ∃W:Nat->Nat->St->Hp->Prop,(∃m,W 0 m σ H)/\∀i m σ H,W i m σ H ->
   ((Ite K c l).stop i H/\D.nx σ H)\/((Ite K c l).go i H/\∃N:St->Hp->Prop,(∀σ' H',N σ' H'->∃m',m'<m/\W (i+1) m' σ' H')/\∀x H',(Ite K c l).jW i H x H'->g x σ H' λσ2 H2=>tb {D with nx:=N,ct:=N,bk:=D.nx} σ2 H2):=by
 refine⟨λi m σ H=>m=xs.length - i/\i<=xs.length/\Pv i σ H,⟨xs.length,by simp,cW _,h0⟩,?_⟩;rintro i m σ H ⟨rfl,hi,p⟩;have q:=hl i σ H p
 by_cases hlt:i<xs.length
 ·refine .inr ⟨⟨xs,xs[i],q,by simp[hlt]⟩,Pv (i+1),λσ' H' p'=>⟨xs.length - (i+1),by omega,rfl,hlt,p'⟩,λx H' y=>?_⟩
  obtain⟨T,x,rfl,hT,rfl,hx⟩:=y;exact hs i x σ H T (hx xs q) hT p
 ·have e:i=xs.length:=by omega
  subst e;exact .inl ⟨⟨xs,q,rfl⟩,hd σ H p⟩
end
theorem aF{e:Expr}{es:List Expr}{env:Env}(h:∀v p,e≠.Starred v p):starEach (e::es) env=(false,eval e env)::starEach es env:=by
 cases e<;>first|rfl|exact absurd rfl (h _ _)
noncomputable def intOf:Expr->Option Int
 |.Constant (.int i) _ _=>some i
 |_=>none
noncomputable def intsOf:List Expr->Option (List Int)
 | []=>some []
 |e::r=>(intOf e).bind λi=>(intsOf r).map (i::·)
theorem W5{e:Expr}{i:Int}(h:intOf e=some i):∃k p,e = .Constant (.int i) k p:=by
 cases e with
 |Constant c k p =>
  cases c with
  |int j=>cases h;exact⟨k,p,rfl⟩
  |_=>cases h
 |_=>cases h
theorem Mp{X:Cx}:∀{es:List Expr} (is:List Int),intsOf es=some is->PA X es (λ_ H Q=>Q (is.map V.int) H):=by
 intro es
 induction es with
 |nil =>
  intro is h;cases h;exact ag
 |cons e r ih =>
  intro is h;have h':(intOf e).bind (λi=>(intsOf r).map (i::·))=some is:=h;cases q1:intOf e with
  |none=>rw[q1]at h';cases h'
  |some i =>
   obtain⟨k,p,rfl⟩:=W5 q1;rw[q1]at h';cases q:intsOf r with
   |none=>rw[Option.bind_some,q]at h';cases h'
   |some js =>
    rw[Option.bind_some,q]at h';cases h';exact ae ak (ih js q)
theorem M4{g:Nat->Int}(h:∀i,0<=g i/\g i<=1099511627776):∀n,0<=preSum g n/\preSum g n<=1099511627776*n
 |0=>by simp[preSum]
 |n+1=>by
  have ih:=M4 h n;have hn:=h n;simp only[preSum]
  push_cast
  omega
theorem M5(ns:List Int):∀n,n<=ns.length->preSum (λi=>ns.getD i 0) n=(ns.take n).sum
 |0,_=>by simp[preSum]
 |n+1,h=>by
  have ih:=M5 ns n (by omega);have hn:n<ns.length:=by omega
  simp only[preSum];rw[ih];have e1:ns.getD n 0=ns[n]:=by rw[bh,aI hn];rfl
  have e2:ns.take (n+1)=ns.take n++[ns[n]]:=by rw[o8,aI hn];rfl
  rw[e1,e2,Gh];simp
noncomputable def Nm(K:W.Frag):List V->Hp->VK->Prop:=λxs H Q=>∃(p:Addr) (ns:List Int),xs = [.ref p]/\ai K H p (ns.map V.int)/\ns.length<=1000/\(∀x∈ns,0<=x/\x<=1099511627776)/\Q (.int ns.sum) H
theorem Td {X:Cx} (hc:X.calm=true):d5 X (.builtin "sum") (Nm X.K):=by
 intro pins s σ H xs us Q I r h;obtain⟨p,ns,rfl,hq,hl,hb,q⟩:=h;obtain⟨u,rfl,ru⟩:=Vals.one r;cases ru;obtain⟨its,rv,pl,hz⟩:=I.list hq;have hlen:its.length=ns.length:=by rw[<- rv.length,aG]
 have hp:p<s.heap.objs.size:=by obtain⟨o,_,e,_⟩:=pl;exact a9 e
 refine call_sum_walk (si pl.isList ?_);have hh:X.A.in1.handled=none:=I.ok.hd hc;refine⟨s.heap.objs.size,_,_,_,_,_,λi=>ns.getD i 0,rfl,Walks.list hh s.heap.objs.size p (bI hp) its.toArray,⟨⟨_,bJ _ rfl,rfl,rfl⟩,pl.isList.at λo e=>aU _ e⟩,λb hb=>?_,λi v hv=>?_,λj hj=>?_,λh' tk t' hk=>?_⟩
 ·simp only[bC,fA,fL]at hb
  rcases hb with rfl|rfl
  ·simp[eY]
  ·exact xC hp (by simp[eY])
 ·have hv':its[i]?=some v:=by simpa using hv
  have hi:i<ns.length:=by rw[<- hlen];exact(bD.mp hv').1
  obtain⟨w',h1,h2⟩:=rv.get (i:=i) (x:=.int ns[i]) (by simp[hi]);rw[hv']at h1;cases h1;obtain⟨t,e⟩:=h2;refine⟨t,?_⟩;show v=Value.int (ns.getD i 0) t;rw[e,bh,aI hi];rfl
 ·have gb:∀i,0<=ns.getD i 0/\ns.getD i 0<=1099511627776:=λi=>by
   rw[bh];cases e:ns[i]? with
   |none=>simp
   |some x=>exact hb x (cV e)
  have hj':j<ns.length:=by rw[<- hlen];simpa using hj
  have h1:=gb j;have h2:=M4 gb (j+1)
  constructor
  ·show InLong (ns.getD j 0)
   unfold InLong;omega
  ·unfold InLong;push_cast at h2;omega
 ·have e:preSum (λi=>ns.getD i 0) its.toArray.size=ns.sum:=by
   rw[show its.toArray.size=ns.length by simp[hlen],M5 ns _ (aY _),mN]
  rw[e];have I1:Inv X pins σ H {s with heap:=s.heap.push {cls:=.type "list_iterator", data:=.fields #[.ref p,.int 0 0]},toks:=s.toks}:=I.kept λb o e=>aU _ e;have I2:Inv X pins σ H {s with heap:=h',toks:=tk}:=by
   refine I.kept λb o e=>hk b o ?_ (aU _ e);simp only[bC,fA,fL];exact bI (a9 e)
  exact⟨.int ns.sum,H,I2,⟨t',rfl⟩,q⟩
theorem Te {X:Cx} {K:W.Frag} (h:X.K=K) (hc:X.calm=true):d5 X (.builtin "sum") (Nm K):=h▸Td hc
theorem aae(bs:List Bool):((List.range bs.length).any λi=>(bs[i]?).getD false)=bs.any id:=by
 rw[eX,oY,oY]
 constructor
 ·rintro⟨i,hi,e⟩
  have hi':i<bs.length:=by simpa using hi
  rw[aI hi']at e;exact⟨_,mL hi',e⟩
 ·rintro⟨b,hb,e⟩
  obtain⟨i,hi,e'⟩:=k8 hb;exact⟨i,by simpa using hi,by rw[aI hi,e'];exact e⟩
noncomputable def Nc(K:W.Frag):List V->Hp->VK->Prop:=λxs H Q=>∃(p:Addr) (bs:List Bool),xs = [.ref p]/\ai K H p (bs.map V.bl)/\Q (.bl (bs.any id)) H
theorem Sy{bs:List Bool}{its:List Value}(rv:Vals (bs.map V.bl) its){i:Nat}{v:Value}(h:its[i]?=some v):∃b,bs[i]?=some b/\v = .bool b:=by
 have hi:i<its.length:=(bD.mp h).1;have hlen:its.length=bs.length:=by rw[<- rv.length,aG]
 obtain⟨w',h1,h2⟩:=rv.get (i:=i) (x:=.bl (bs[i]'(by omega))) (by simp[show i<bs.length by omega]);rw[h]at h1;cases h1;exact⟨_,aI (by omega),h2⟩
theorem SN {X:Cx} (hc:X.calm=true):d5 X (.builtin "any") (Nc X.K):=by
 intro pins s σ H xs us Q I r h;obtain⟨p,bs,rfl,hq,q⟩:=h;obtain⟨u,rfl,ru⟩:=Vals.one r;cases ru;obtain⟨its,rv,pl,hz⟩:=I.list hq;have hlen:its.length=bs.length:=by rw[<- rv.length,aG]
 have hp:p<s.heap.objs.size:=by obtain⟨o,_,e,_⟩:=pl;exact a9 e
 refine call_any_walk (si pl.isList ?_);have hh:X.A.in1.handled=none:=I.ok.hd hc;refine⟨s.heap.objs.size,_,_,_,_,_,λi=>(bs[i]?).getD false,rfl,Walks.list hh s.heap.objs.size p (bI hp) its.toArray,⟨⟨_,bJ _ rfl,rfl,rfl⟩,pl.isList.at λo e=>aU _ e⟩,λi v s' Q' E' hP hQ=>?_,λh' tk hk=>?_⟩
 ·obtain⟨b,e,rfl⟩:=Sy rv (by simpa using hP)
  simp only[e,Option.getD_some]at hQ;exact j9 hQ
 ·have e:((List.range its.toArray.size).any λi=>(bs[i]?).getD false)=bs.any id:=by
   rw[cw,hlen];exact aae bs
  rw[e];have I2:Inv X pins σ H {s with heap:=h',toks:=tk}:=by
   refine I.kept λb o e=>hk b o ?_ (aU _ e);simp only[bC,fA,fL];exact bI (a9 e)
  exact⟨.bl (bs.any id),H,I2,rfl,q⟩
theorem SQ {X:Cx} {K:W.Frag} (h:X.K=K) (hc:X.calm=true):d5 X (.builtin "any") (Nc K):=h▸SN hc
inductive df (K:W.Frag) (H:Hp):Nat->V->V->Bool->Prop
 |int (n:Nat) (i j:Int):df K H n (.int i) (.int j) (i==j)
 |bl (n:Nat) (i j:Bool):df K H n (.bl i) (.bl j) (i==j)
 |same (n:Nat) (a:Addr):df K H n (.ref a) (.ref a) true
 |tup (n:Nat) (a b:Addr) (xs ys:List V) (e:Nat->Bool):av K H a xs->av K H b ys->xs.length=ys.length->(∀(j:Nat) x y,xs[j]?=some x->ys[j]?=some y->df K H n x y (e j))->df K H (n+1) (.ref a) (.ref b) ((List.range xs.length).all e)
 |lst (n:Nat) (a b:Addr) (xs ys:List V) (e:Nat->Bool):ai K H a xs->ai K H b ys->xs.length=ys.length->(∀(j:Nat) x y,xs[j]?=some x->ys[j]?=some y->df K H n x y (e j))->df K H (n+1) (.ref a) (.ref b) ((List.range xs.length).all e)
 |lens (n:Nat) (a b:Addr) (xs ys:List V):ai K H a xs->ai K H b ys->xs.length≠ys.length->df K H (n+1) (.ref a) (.ref b) false
section
variable {X:Cx} {pins:List (Addr × Obj)} {σ:St} {H:Hp} {s:Shared}
theorem Inv.K6(I:Inv X pins σ H s){a:Addr}{xs ys:List V}(h:ai X.K H a xs)(h':ai X.K H a ys):∃its,Vals xs its/\Vals ys its:=by
 obtain⟨its,r,⟨o,n,e,d1,d2,d3⟩,_⟩:=I.list h;obtain⟨its',r',⟨o',n',e',f1,f2,f3⟩,_⟩:=I.list h';rw[e]at e';cases e';rw[d3]at f3;injection f3 with q1 q2
 have:its=its':=by simpa using q1
 subst this;exact⟨its,r,r'⟩
theorem df.Dv(I:Inv X pins σ H s){n:Nat}{x y:V}{b:Bool}(h:df X.K H n x y b):∀{v:Value},RelV x v->RelV y v->b=true:=by
 induction h with
 |int n i j =>
  rintro v ⟨t,rfl⟩ ⟨u,e⟩;cases e;simp
 |bl n i j =>
  intro v h1 h2;cases h1;cases h2;simp
 |same n a=>intros;rfl
 |tup n a b xs ys e h1 h2 hl hi ih =>
  intro v r1 r2;cases r1;cases r2;have:=I.EY h1 h2;subst this;obtain⟨its,r,_,_⟩:=I.tuple h1;rw[oX];intro j hj;have hj':j<xs.length:=by simpa using hj
  obtain⟨w',_,q⟩:=r.get (aI hj');exact ih j _ _ (aI hj') (aI hj') q q
 |lst n a b xs ys e h1 h2 hl hi ih =>
  intro v r1 r2;cases r1;cases r2;obtain⟨its,r,r'⟩:=I.K6 h1 h2;rw[oX];intro j hj;have hj':j<xs.length:=by simpa using hj
  obtain⟨w',z1,q⟩:=r.get (aI hj');obtain⟨w'',z2,q'⟩:=r'.get (aI (show j<ys.length by omega));rw[z1]at z2;cases z2;exact ih j _ _ (aI hj') (aI _) q q'
 |lens n a b xs ys h1 h2 hl =>
  intro v r1 r2;cases r1;cases r2;obtain⟨its,r,r'⟩:=I.K6 h1 h2;exact absurd (r.length.trans r'.length.symm) hl
theorem df.at(I:Inv X pins σ H s){n:Nat}{x y:V}{b:Bool}(h:df X.K H n x y b):∀{A:Around} {v u:Value},A.units+n<cLine->RelV x v->RelV y u->SeqAt.EqAt A s v u b:=by
 induction h with
 |int n i j =>
  rintro A v u hu ⟨t,rfl⟩ ⟨t',rfl⟩;exact SeqAt.EqAt.int_int i t j t'
 |bl n i j =>
  intro A v u hu h1 h2;cases h1;cases h2;exact G5 i j
 |same n a =>
  intro A v u hu h1 h2;cases h1;cases h2;exact G7 _
 |tup n a b xs ys e h1 h2 hl hi ih =>
  intro A v u hu r1 r2
  by_cases hab:v=u
  ·have:=df.Dv I (.tup n a b xs ys e h1 h2 hl hi) r1 (hab▸r2)
   rw[this,hab];exact G7 _
  ·cases r1
   cases r2;obtain⟨its,r,t1,_⟩:=I.tuple h1;obtain⟨its2,r',t2,_⟩:=I.tuple h2;refine G6 (λz=>hab (by rw[z])) ?_;have hh:=SeqAt.RcAt.tuples (A:=A) (s:=s) (e:=e) t1 t2 (by omega) λj g1 g2=>?_
   ·have el:its.toArray.size=its2.toArray.size:=by simp;rw[<- r.length,<- r'.length];exact hl
    have e2:((List.range (min its.toArray.size its2.toArray.size)).all e&&its.toArray.size==its2.toArray.size)=(List.range xs.length).all e:=by
     rw[<- el,Gu,sD,Fq]
     congr 2
     simp[<- r.length]
    rw[e2]at hh;exact hh
   ·have j1:j<xs.length:=by rw[r.length];simpa using g1
    have j2:j<ys.length:=by omega
    obtain⟨w',z1,q⟩:=r.get (aI j1);obtain⟨w'',z2,q'⟩:=r'.get (aI j2);have e1:its.toArray[j]=w':=by have:=(bD.mp z1).2;simpa using this
    have e2:its2.toArray[j]=w'':=by have:=(bD.mp z2).2;simpa using this
    rw[e1,e2];exact ih j _ _ (aI j1) (aI j2) (by show A.units+1+n<cLine;omega) q q'
 |lst n a b xs ys e h1 h2 hl hi ih =>
  intro A v u hu r1 r2
  by_cases hab:v=u
  ·have:=df.Dv I (.lst n a b xs ys e h1 h2 hl hi) r1 (hab▸r2)
   rw[this,hab];exact G7 _
  ·cases r1
   cases r2;obtain⟨its,r,t1,_⟩:=I.list h1;obtain⟨its2,r',t2,_⟩:=I.list h2;refine G6 (λz=>hab (by rw[z])) ?_;have el:its.toArray.size=its2.toArray.size:=by simp;rw[<- r.length,<- r'.length];exact hl
   have hh:=SeqAt.RcAt.lists (A:=A) (s:=s) (e:=e) t1.isList t2.isList el (by omega) λj g1 g2=>?_
   ·have e2:(List.range its.toArray.size).all e=(List.range xs.length).all e:=by
     congr 2
     simp[<- r.length]
    rw[e2]at hh;exact hh
   ·have j1:j<xs.length:=by rw[r.length];simpa using g1
    have j2:j<ys.length:=by omega
    obtain⟨w',z1,q⟩:=r.get (aI j1);obtain⟨w'',z2,q'⟩:=r'.get (aI j2);have e1:its.toArray[j]=w':=by have:=(bD.mp z1).2;simpa using this
    have e2:its2.toArray[j]=w'':=by have:=(bD.mp z2).2;simpa using this
    rw[e1,e2];exact ih j _ _ (aI j1) (aI j2) (by show A.units+1+n<cLine;omega) q q'
 |lens n a b xs ys h1 h2 hl =>
  intro A v u hu r1 r2
  by_cases hab:v=u
  ·have:=df.Dv I (.lens n a b xs ys h1 h2 hl) r1 (hab▸r2)
   cases this
  ·cases r1
   cases r2;obtain⟨its,r,t1,_⟩:=I.list h1;obtain⟨its2,r',t2,_⟩:=I.list h2;refine G6 (λz=>hab (by rw[z])) (SeqAt.RcAt.lists_lengths t1.isList t2.isList ?_ (by omega));have:its.length≠its2.length:=by rw[<- r.length,<- r'.length];exact hl
   simpa using this
end
noncomputable def FK(K:W.Frag)(H:Hp)(n:Nat)(xs ys:List V)(e:Nat->Bool):Prop:=xs.length=ys.length/\∀(j:Nat) x y,xs[j]?=some x->ys[j]?=some y->df K H n x y (e j)
noncomputable def Nf(K:W.Frag)(c ne:Bool)(n:Nat):R2:=λx y H Q=>∃a b xs ys e,x = .ref a/\y = .ref b/\Sq c K H a xs/\Sq c K H b ys/\FK K H n xs ys e/\Q (.bl (ne != (List.range xs.length).all e)) H
theorem Za{X:Cx}{K:W.Frag}(c:Bool)(n:Nat)(h:X.K=K)(hu:X.A.units+1+n<cLine):cx X (compareOp .Eq) (Nf K c false n):=by
 subst h;intro pins s σ H x y v u Q I rx ry h;obtain⟨a,b,xs,ys,e,rfl,rfl,ha,hb,⟨hl,hi⟩,q⟩:=h;cases rx;cases ry;cases c with
 |true =>
  obtain⟨its,r,t1,_⟩:=I.list ha;obtain⟨its2,r',t2,_⟩:=I.list hb;have el:its.toArray.size=its2.toArray.size:=by simp;rw[<- r.length,<- r'.length];exact hl
  have hh:=SeqAt.RcAt.lists (A:=X.A) (s:=s) (e:=e) t1.isList t2.isList el (by omega) λj g1 g2=>?_
  ·have e2:(List.range its.toArray.size).all e=(List.range xs.length).all e:=by
    congr 2
    simp[<- r.length]
   rw[e2]at hh;exact hh _ _ _ _ ⟨.bl ((List.range xs.length).all e),H,I,rfl,by simpa using q⟩
  ·have j1:j<xs.length:=by rw[r.length];simpa using g1
   have j2:j<ys.length:=by omega
   obtain⟨w',z1,q⟩:=r.get (aI j1);obtain⟨w'',z2,q'⟩:=r'.get (aI j2);have e1:its.toArray[j]=w':=by have:=(bD.mp z1).2;simpa using this
   have e2:its2.toArray[j]=w'':=by have:=(bD.mp z2).2;simpa using this
   rw[e1,e2];exact df.at I (hi j _ _ (aI j1) (aI j2)) (by show X.A.units+1+n<cLine;omega) q q'
 |false =>
  obtain⟨its,r,t1,_⟩:=I.tuple ha;obtain⟨its2,r',t2,_⟩:=I.tuple hb;have el:its.toArray.size=its2.toArray.size:=by simp;rw[<- r.length,<- r'.length];exact hl
  have hh:=SeqAt.RcAt.tuples (A:=X.A) (s:=s) (e:=e) t1 t2 (by omega) λj g1 g2=>?_
  ·have e2:((List.range (min its.toArray.size its2.toArray.size)).all e&&its.toArray.size==its2.toArray.size)=(List.range xs.length).all e:=by
    rw[<- el,Gu,sD,Fq]
    congr 2
    simp[<- r.length]
   rw[e2]at hh;exact hh _ _ _ _ ⟨.bl ((List.range xs.length).all e),H,I,rfl,by simpa using q⟩
  ·have j1:j<xs.length:=by rw[r.length];simpa using g1
   have j2:j<ys.length:=by omega
   obtain⟨w',z1,q⟩:=r.get (aI j1);obtain⟨w'',z2,q'⟩:=r'.get (aI j2);have e1:its.toArray[j]=w':=by have:=(bD.mp z1).2;simpa using this
   have e2:its2.toArray[j]=w'':=by have:=(bD.mp z2).2;simpa using this
   rw[e1,e2];exact df.at I (hi j _ _ (aI j1) (aI j2)) (by show X.A.units+1+n<cLine;omega) q q'
theorem Zd{X:Cx}{K:W.Frag}(c:Bool)(n:Nat)(h:X.K=K)(hu:X.A.units+1+n<cLine):cx X (compareOp .NotEq) (Nf K c true n):=by
 subst h;intro pins s σ H x y v u Q I rx ry h;obtain⟨a,b,xs,ys,e,rfl,rfl,ha,hb,⟨hl,hi⟩,q⟩:=h;cases rx;cases ry;cases c with
 |true =>
  obtain⟨its,r,t1,_⟩:=I.list ha;obtain⟨its2,r',t2,_⟩:=I.list hb;have el:its.toArray.size=its2.toArray.size:=by simp;rw[<- r.length,<- r'.length];exact hl
  have hh:=SeqAt.RcNeAt.lists (A:=X.A) (s:=s) (e:=e) t1.isList t2.isList el (by omega) λj g1 g2=>?_
  ·have e2:(List.range its.toArray.size).all e=(List.range xs.length).all e:=by
    congr 2
    simp[<- r.length]
   rw[e2]at hh;exact hh _ _ _ _ ⟨.bl (!(List.range xs.length).all e),H,I,rfl,by simpa using q⟩
  ·have j1:j<xs.length:=by rw[r.length];simpa using g1
   have j2:j<ys.length:=by omega
   obtain⟨w',z1,q⟩:=r.get (aI j1);obtain⟨w'',z2,q'⟩:=r'.get (aI j2);have e1:its.toArray[j]=w':=by have:=(bD.mp z1).2;simpa using this
   have e2:its2.toArray[j]=w'':=by have:=(bD.mp z2).2;simpa using this
   rw[e1,e2];exact df.at I (hi j _ _ (aI j1) (aI j2)) (by show X.A.units+1+n<cLine;omega) q q'
 |false =>
  obtain⟨its,r,t1,_⟩:=I.tuple ha;obtain⟨its2,r',t2,_⟩:=I.tuple hb;have el:its.toArray.size=its2.toArray.size:=by simp;rw[<- r.length,<- r'.length];exact hl
  have hh:=SeqAt.RcNeAt.tuples (A:=X.A) (s:=s) (e:=e) t1 t2 (by omega) λj g1 g2=>?_
  ·have e2:((List.range (min its.toArray.size its2.toArray.size)).all e&&its.toArray.size==its2.toArray.size)=(List.range xs.length).all e:=by
    rw[<- el,Gu,sD,Fq]
    congr 2
    simp[<- r.length]
   rw[e2]at hh;exact hh _ _ _ _ ⟨.bl (!(List.range xs.length).all e),H,I,rfl,by simpa using q⟩
  ·have j1:j<xs.length:=by rw[r.length];simpa using g1
   have j2:j<ys.length:=by omega
   obtain⟨w',z1,q⟩:=r.get (aI j1);obtain⟨w'',z2,q'⟩:=r'.get (aI j2);have e1:its.toArray[j]=w':=by have:=(bD.mp z1).2;simpa using this
   have e2:its2.toArray[j]=w'':=by have:=(bD.mp z2).2;simpa using this
   rw[e1,e2];exact df.at I (hi j _ _ (aI j1) (aI j2)) (by show X.A.units+1+n<cLine;omega) q q'
section
variable {prog:Program} {w:World} {A:Around} {E:Value->Shared->Prop}
variable {s:Shared}
end
end L2
namespace Ev
noncomputable def Sub(x y:Nat):Prop:=x&&& y=x
instance (x y:Nat):Decidable (Sub x y):=inferInstanceAs (Decidable (_=_))
theorem Sub.rfl'(x:Nat):Sub x x:=Gk x
theorem Sub.trans{x y z:Nat}(a:Sub x y)(b:Sub y z):Sub x z:=by
 unfold Sub at *;rw[<- a,pe,b]
theorem Sub.antisymm{x y:Nat}(a:Sub x y)(b:Sub y x):x=y:=by
 unfold Sub at *;rw[<- a,Gj,b]
theorem Sub.le{x y:Nat}(a:Sub x y):x<=y:=by
 unfold Sub at a;rw[<- a];exact Nat.and_le_right
theorem Sub.and_left(x y:Nat):Sub (x&&& y) x:=by
 unfold Sub;rw[pe,Gj y x,<- pe,Gk]
theorem Sub.and_right(x y:Nat):Sub (x&&& y) y:=by
 unfold Sub;rw[pe,Gk]
theorem Sub.Hr{x a b:Nat}:Sub x (a&&& b) ↔ Sub x a/\Sub x b:=by
 constructor
 ·intro h
  exact⟨h.trans (Sub.and_left a b),h.trans (Sub.and_right a b)⟩
 ·rintro⟨h1,h2⟩
  unfold Sub at *;rw[<- pe,h1,h2]
structure fy (M:List Nat):Prop where
 nd:M.Nodup
 len:M.length<=24
 meet:∀x∈M,∀y∈M,x&&& y∈M
 top:∃t∈M,∀x∈M,Sub x t
theorem fy.pos{M:List Nat}(L:fy M):0<M.length:=by
 obtain⟨t,ht,_⟩:=L.top;exact rT ht
theorem fy.perm{M M':List Nat}(L:fy M)(p:M.Perm M'):fy M' where
 nd:=p.nodup_iff.mp L.nd
 len:=by rw[<- p.length_eq];exact L.len
 meet:=λx hx y hy=>p.mem_iff.mp (L.meet x (p.mem_iff.mpr hx) y (p.mem_iff.mpr hy))
 top:=by
  obtain⟨t,ht,h⟩:=L.top;exact⟨t,p.mem_iff.mp ht,λx hx=>h x (p.mem_iff.mpr hx)⟩
noncomputable def a8(M:List Nat)(i j:Nat):Bool:=decide (Sub (M.getD i 0) (M.getD j 0))
theorem fJ{M:List Nat}{i j:Nat}:a8 M i j=true ↔ Sub (M.getD i 0) (M.getD j 0):=by simp[a8]
theorem lT(M:List Nat)(i:Nat):a8 M i i=true:=fJ.mpr (Sub.rfl' _)
theorem Xw{M:List Nat}{i j k:Nat}(a:a8 M i j=true)(b:a8 M j k=true):a8 M i k=true:=fJ.mpr ((fJ.mp a).trans (fJ.mp b))
theorem getD_mem{M:List Nat}{i:Nat}(h:i<M.length):M.getD i 0∈M:=by
 rw[bh,aI h];exact mL h
theorem nS{M:List Nat}{x:Nat}(h:x∈M):∃i,i<M.length/\M.getD i 0=x:=by
 obtain⟨i,hi,e⟩:=k8 h;exact⟨i,hi,by rw[bh,aI hi];exact e⟩
theorem getD_inj{M:List Nat}(nd:M.Nodup){i j:Nat}(hi:i<M.length)(hj:j<M.length)(e:M.getD i 0=M.getD j 0):i=j:=by
 rw[bh,bh,aI hi,aI hj]at e;exact(FW nd).mp e
theorem Xv{M:List Nat}(nd:M.Nodup){i j:Nat}(hi:i<M.length)(hj:j<M.length)(a:a8 M i j=true)(b:a8 M j i=true):i=j:=
 getD_inj nd hi hj ((fJ.mp a).antisymm (fJ.mp b))
theorem fy.XT{M:List Nat}(L:fy M){a b:Nat}(ha:a<M.length)(hb:b<M.length):∃c,c<M.length/\M.getD c 0=M.getD a 0&&& M.getD b 0/\∀x,a8 M x c=(a8 M x a&&a8 M x b):=by
 obtain⟨c,hc,e⟩:=nS (L.meet _ (getD_mem ha) _ (getD_mem hb));refine⟨c,hc,e,λx=>?_⟩;rw[eX,bH,fJ,fJ,fJ,e];exact Sub.Hr
theorem Jg{M:List Nat}(hm:∀x∈M,∀y∈M,x&&& y∈M):∀(S:List Nat) (t:Nat),(∀x∈S,x∈M)->t∈M->S.foldl (·&&& ·) t∈M/\Sub (S.foldl (·&&& ·) t) t/\(∀x∈S,Sub (S.foldl (·&&& ·) t) x)/\∀y,Sub y t->(∀x∈S,Sub y x)->Sub y (S.foldl (·&&& ·) t)
 | [],t,_,ht=>⟨ht,Sub.rfl' t,λ_ h=>(nomatch h),λ_ h _=>h⟩
 |s::S,t,hS,ht=>by
  have hs:s∈M:=hS s cC;obtain⟨h1,h2,h3,h4⟩:=Jg hm S (t&&& s) (λx hx=>hS x (bT _ hx)) (hm t ht s hs);rw[List.foldl_cons];refine⟨h1,h2.trans (Sub.and_left t s),λx hx=>?_,λy hy hx=>h4 y (Sub.Hr.mpr ⟨hy,hx s cC⟩) λx h=>hx x (bT _ h)⟩
  rcases bC.mp hx with rfl|hx
  ·exact h2.trans (Sub.and_right t x)
  ·exact h3 x hx
theorem fy.Xh{M:List Nat}(L:fy M){a b:Nat}(ha:a<M.length)(hb:b<M.length):∃c,c<M.length/\∀x,x<M.length->a8 M c x=(a8 M a x&&a8 M b x):=by
 obtain⟨t,ht,htop⟩:=L.top
 let S:=M.filter λx=>decide (Sub (M.getD a 0) x)&&decide (Sub (M.getD b 0) x)
 obtain⟨h1,h2,h3,h4⟩:=Jg L.meet S t (λx hx=>(d7.mp hx).1) ht;obtain⟨c,hc,e⟩:=nS h1;refine⟨c,hc,λx hx=>?_⟩;have Kl:∀y∈S,Sub (M.getD a 0) y/\Sub (M.getD b 0) y:=λy hy=>by
  have:=(d7.mp hy).2;simpa[bH]using this
 have ka:Sub (M.getD a 0) (S.foldl (·&&& ·) t):=h4 _ (htop _ (getD_mem ha)) λy hy=>(Kl y hy).1;have kb:Sub (M.getD b 0) (S.foldl (·&&& ·) t):=h4 _ (htop _ (getD_mem hb)) λy hy=>(Kl y hy).2;rw[eX,bH,fJ,fJ,fJ,e]
 constructor
 ·intro h
  exact⟨ka.trans h,kb.trans h⟩
 ·rintro⟨h,h'⟩
  exact h3 _ (d7.mpr ⟨getD_mem hx,by rw[bH];exact⟨eh h,eh h'⟩⟩)
structure jY (n:Nat) (ps:List (Nat × Nat)) (R:Nat->Nat->Bool):Prop where
 refl:∀a,a<n->R a a=true
 has:∀p∈ps,R p.1 p.2=true
 trans:∀a b c,a<n->b<n->c<n->R a b=true->R b c=true->R a c=true
 least:∀T:Nat->Nat->Bool,(∀a,a<n->T a a=true)->(∀p∈ps,T p.1 p.2=true)->(∀a b c,a<n->b<n->c<n->T a b=true->T b c=true->T a c=true) ->
  ∀a b,a<n->b<n->R a b=true->T a b=true
structure jr (n:Nat) (ps:List (Nat × Nat)) (m:Nat) (R:Nat->Nat->Bool):Prop where
 refl:∀a,a<n->R a a=true
 has:∀p∈ps,R p.1 p.2=true
 tr:∀k,k<m->∀a b,a<n->b<n->R a k=true->R k b=true->R a b=true
 least:∀T:Nat->Nat->Bool,(∀a,a<n->T a a=true)->(∀p∈ps,T p.1 p.2=true)->(∀a b c,a<n->b<n->c<n->T a b=true->T b c=true->T a c=true) ->
  ∀a b,a<n->b<n->R a b=true->T a b=true
noncomputable def jV(R:Nat->Nat->Bool)(m:Nat):Nat->Nat->Bool:=λa b=>R a b||(R a m&&R m b)
theorem wM{R:Nat->Nat->Bool}{m a b:Nat}:jV R m a b=true ↔ R a b=true\/(R a m=true/\R m b=true):=by simp[jV]
theorem jr.step{n m:Nat}{ps:List (Nat × Nat)}{R:Nat->Nat->Bool}(W:jr n ps m R)(hm:m<n):jr n ps (m+1) (jV R m) where
 refl:=λa ha=>wM.mpr (.inl (W.refl a ha))
 has:=λp hp=>wM.mpr (.inl (W.has p hp))
 tr:=λk hk a b ha hb h1 h2=>by
  rw[wM]at *
  by_cases e:k=m
  ·subst e
   have h1':R a k=true:=h1.elim id (·.1);have h2':R k b=true:=h2.elim id (·.2);exact .inr ⟨h1',h2'⟩
  ·have hk':k<m:=by omega
   rcases h1 with h1|⟨h1,h1'⟩
   ·rcases h2 with h2|⟨h2,h2'⟩
    ·exact .inl (W.tr k hk' a b ha hb h1 h2)
    ·exact .inr ⟨W.tr k hk' a m ha hm h1 h2,h2'⟩
   ·rcases h2 with h2|⟨h2,h2'⟩
    ·exact .inr ⟨h1,W.tr k hk' m b hm hb h1' h2⟩
    ·exact .inr ⟨h1,h2'⟩
 least:=λT t1 t2 t3 a b ha hb h=>by
  rcases wM.mp h with h|⟨h,h'⟩
  ·exact W.least T t1 t2 t3 a b ha hb h
  ·exact t3 a m b ha hm hb (W.least T t1 t2 t3 a m ha hm h) (W.least T t1 t2 t3 m b hm hb h')
theorem jr.done{n:Nat}{ps:List (Nat × Nat)}{R:Nat->Nat->Bool}(W:jr n ps n R):jY n ps R:=
 ⟨W.refl,W.has,λa b c ha hb hc h1 h2=>W.tr b hb a c ha hc h1 h2,W.least⟩
noncomputable def base(ps:List (Nat × Nat)):Nat->Nat->Bool:=λa b=>a==b||ps.any λp=>p.1==a&&p.2==b
theorem mX{ps:List (Nat × Nat)}{a b:Nat}:base ps a b=true ↔ a=b\/(a,b)∈ps:=by
 simp only[base,Fs,ic,oY,bH]
 constructor
 ·rintro(h|⟨⟨x,y⟩,hp,rfl,rfl⟩)
  ·exact .inl h
  ·exact .inr hp
 ·rintro(h|h)
  ·exact .inl h
  ·exact .inr ⟨(a,b),h,rfl,rfl⟩
theorem jr.start{n:Nat}{ps:List (Nat × Nat)}(hp:∀p∈ps,p.1<n/\p.2<n):jr n ps 0 (base ps) where
 refl:=λa _=>mX.mpr (.inl rfl)
 has:=λp hp=>mX.mpr (.inr hp)
 tr:=λk hk=>by omega
 least:=λT t1 t2 _ a b ha _ h=>by
  rcases mX.mp h with rfl|h
  ·exact t1 a ha
  ·exact t2 _ h
noncomputable def stepM(M:List Nat)(a b:Nat):Prop:=a≠b/\a8 M a b=true/\∀c,c<M.length->a8 M a c=true->a8 M c b=true->c=a\/c=b
theorem jY.T'{M:List Nat}{ps:List (Nat × Nat)}{R:Nat->Nat->Bool}(nd:M.Nodup)(C:jY M.length ps R)(h1:∀p∈ps,a8 M p.1 p.2=true)(h2:∀a b,a<M.length->b<M.length->stepM M a b->(a,b)∈ps):∀a b,a<M.length->b<M.length->R a b=a8 M a b:=by
 have go:∀(d a b:Nat),a<M.length->b<M.length->M.getD b 0 - M.getD a 0=d->a8 M a b=true->R a b=true:=by
  intro d
  induction d using Nat.strongRecOn with
  |_ d ih =>
   intro a b ha hb hd hl
   by_cases e:a=b
   ·subst e;exact C.refl a ha
   ·by_cases hs:stepM M a b
    ·exact C.has _ (h2 a b ha hb hs)
    ·have hc:∃c,c<M.length/\a8 M a c=true/\a8 M c b=true/\c≠a/\c≠b:=by
      apply QM
      intro hn;refine hs ⟨e,hl,λc hc h1 h2=>?_⟩;apply QM
      intro hcc;exact hn ⟨c,hc,h1,h2,λz=>hcc (.inl z),λz=>hcc (.inr z)⟩
     obtain⟨c,hc,l1,l2,n1,n2⟩:=hc;have i1:=(fJ.mp l1).le;have i2:=(fJ.mp l2).le;have j1:M.getD a 0≠M.getD c 0:=λz=>n1 (getD_inj nd hc ha z.symm);have j2:M.getD c 0≠M.getD b 0:=λz=>n2 (getD_inj nd hc hb z);exact C.trans a c b ha hc hb (ih _ (by omega) a c ha hc rfl l1) (ih _ (by omega) c b hc hb rfl l2)
 intro a b ha hb;rw[eX];exact⟨λh=>C.least (a8 M) (λa _=>lT M a) h1 (λa b c _ _ _=>Xw) a b ha hb h,λh=>go _ a b ha hb rfl h⟩
instance (M:List Nat):Decidable (fy M):=
 decidable_of_iff (M.Nodup/\M.length<=24/\(∀x∈M,∀y∈M,x&&& y∈M)/\∃t∈M,∀x∈M,Sub x t)
  ⟨λ⟨a,b,c,d⟩=>⟨a,b,c,d⟩,λ⟨a,b,c,d⟩=>⟨a,b,c,d⟩⟩
end Ev
namespace My
open PySem PySem.Spec PyProof.Rows L2
noncomputable def top(i:Nat):Stmt:=PySem.Challenge.pw_evenclimb_k57_whole_orders_put_together.main.body.getD i (.Pass ⟨0,0,0,0⟩)
structure Txt (mg:Str->Option Value):Prop where
 len:mg "len" = none
 range:mg "range" = none
 zip:mg "zip" = none
 enumerate:mg "enumerate" = none
 tuple:mg "tuple" = none
 list:mg "list" = none
 int:mg "int" = none
 bool:mg "bool" = none
 str:mg "str" = none
 isinstance:mg "isinstance" = none
 sum:mg "sum" = none
 any:mg "any" = none
 all:mg "all" = none
 sorted:mg "sorted" = none
 min:mg "min" = none
 max:mg "max" = none
 most:∃t,mg "MOST_THINGS" = some (.int 24 t)
section
variable {P:Program} {w:World} {K:W.Frag} {mg:Str->Option Value} {base:Heap} {f:Addr} {fd:FuncData}
abbrev C_:Stmt:=top 9
theorem Om:aZ ["value"] ["value"] (aE C_):=⟨rfl,rfl,rfl,by decide +kernel,rfl,by decide +kernel,by decide +kernel⟩
noncomputable def rF:Sp:=Pu (λvs _=>∃i,vs = [.int i]) λ_ _ v _=>v = .bl true
theorem L5 (F:aV K "is_whole" "is_whole" C_ f fd) (T:Txt mg):aN P w K mg base aS 1 f fd ["value"] rF:=by
 refine F.ok Om (λvs H Q E h=>?_) (λcdv A outer s H vs Q E hr h=>?_)
 ·obtain⟨⟨i,rfl⟩,_⟩:=h
  rfl
 ·obtain⟨⟨i,rfl⟩,k⟩:=h
  have nd:=Om.nd;refine⟨_,(ax (aX (mh (cA (HR (K:=K) "int" rfl) rfl T.isinstance boot_isinstance (ae (pv 0) (ae (Mz (v:=.ty "int") rfl T.int SF rfl) ag))) (jO (BR (cA (HR (K:=K) "bool" rfl) rfl T.isinstance boot_isinstance (ae (pv 0) (ae (Mz (v:=.ty "bool") rfl T.bool Sz rfl) ag)))))))),?_⟩;refine⟨_,rfl,_,_,_,rfl,.int i,rfl,true,rfl,gQ ?_⟩;exact⟨_,rfl,_,_,_,rfl,.int i,rfl,false,rfl,k _ _ (Same.refl _) rfl⟩
abbrev CZ:Stmt:=top 10
theorem Ol:aZ ["count","number"] ["count","number"] (aE CZ):=⟨rfl,rfl,rfl,by decide +kernel,rfl,by decide +kernel,by decide +kernel⟩
noncomputable def vX:Sp:=Pu (λvs _=>∃n i,vs = [.int n,.int i]) λvs _ v _=>∀n i,vs = [.int n,.int i]->v = .bl (decide (0<=i/\i<n))
theorem LW (F:aV K "is_thing" "is_thing" CZ f fd) (T:Txt mg) (jv:ao P w K mg base "is_whole" ["value"] 1 rF):aN P w K mg base aS 2 f fd ["count","number"] vX:=by
 refine F.ok Ol (λvs H Q E h=>?_) (λcdv A outer s H vs Q E hr h=>?_)
 ·obtain⟨⟨n,i,rfl⟩,_⟩:=h
  rfl
 ·obtain⟨⟨n,i,rfl⟩,k⟩:=h
  have nd:=Ol.nd;refine⟨_,(ax (aX (mh (aH jv hr rfl (ae (pv 1) ag)) (jO (Zn uQ uR ak (pv 1) (pv 0)))))),?_⟩;refine⟨_,rfl,⟨i,rfl⟩,λv H1 s1 hv=>?_⟩;subst hv;refine⟨true,rfl,gQ ?_⟩;refine⟨_,rfl,_,_,rfl,rfl,_,rfl,bM (λh1=>?_) (λh1=>?_)⟩
  ·refine⟨_,rfl,_,_,rfl,rfl,k _ _ s1 ?_⟩
   intro n' i' e;cases e;rw[show decide (0<=i/\i<n)=decide (i<n)from by
    rw[qf]at h1;exact Ir.mpr ⟨λh=>h.2,λh=>⟨h1,h⟩⟩]
  ·refine k _ _ s1 ?_
   intro n' i' e;cases e;rw[fH (λh=>h1 (eh h.1))]
abbrev Dt:Stmt:=top 11
theorem Ph:aZ ["count","number"] ["count","number"] (aE Dt):=⟨rfl,rfl,rfl,by decide +kernel,rfl,by decide +kernel,by decide +kernel⟩
noncomputable def kQ:Sp:=Pu (λvs _=>∃n i:Int,vs = [.int n,.int i]/\0<=i/\i<n) λ_ _ v _=>v = .non
theorem Ma (F:aV K "need_thing" "need_thing" Dt f fd) (T:Txt mg) (pS:ao P w K mg base "is_thing" ["count","number"] 2 vX):aN P w K mg base aS 3 f fd ["count","number"] kQ:=by
 refine F.ok Ph (λvs H Q E h=>?_) (λcdv A outer s H vs Q E hr h=>?_)
 ·obtain⟨⟨n,i,rfl,_⟩,_⟩:=h
  rfl
 ·obtain⟨⟨n,i,rfl,h0,h1⟩,k⟩:=h
  have nd:=Ph.nd;refine⟨_,(ax (bU (iB (dM (aH pS hr rfl (ae (pv 0) (ae (pv 1) ag))))) (ax qW) cq)),?_⟩;refine⟨_,rfl,_,rfl,⟨n,i,rfl⟩,λv H1 s1 hv=>?_⟩;rw[hv n i rfl,eh (show 0<=i/\i<n from⟨h0,h1⟩)];exact⟨true,rfl,cz (k _ _ s1 rfl)⟩
abbrev Dp:Stmt:=top 12
theorem O_:aZ ["count"] ["count"] (aE Dp):=⟨rfl,rfl,rfl,by decide +kernel,rfl,by decide +kernel,by decide +kernel⟩
noncomputable def rG:Sp:=Pu (λvs _=>∃n:Int,vs = [.int n]/\1<=n/\n<=24) λ_ _ v _=>v = .non
theorem L7 (F:aV K "need_count" "need_count" Dp f fd) (T:Txt mg) (jv:ao P w K mg base "is_whole" ["value"] 1 rF):aN P w K mg base aS 2 f fd ["count"] rG:=by
 refine F.ok O_ (λvs H Q E h=>?_) (λcdv A outer s H vs Q E hr h=>?_)
 ·obtain⟨⟨n,rfl,_⟩,_⟩:=h
  rfl
 ·obtain⟨⟨n,rfl,h0,h1⟩,k⟩:=h
  have nd:=O_.nd;obtain⟨t24,yM⟩:=T.most;refine⟨_,(ax (bU (PW.pt (mv (iB (dM (aH jv hr rfl (ae (pv 0) ag)))) (mw (iB (ZS uQ uQ ak (pv 0) (Zt (v:=.int 24) rfl yM ⟨_,rfl⟩)))))) (ax qW) cq)),?_⟩;refine⟨_,rfl,⟨n,rfl⟩,λv H1 s1 hv=>?_⟩;subst hv;refine⟨true,rfl,cz ?_⟩;refine⟨_,rfl,_,_,rfl,rfl,_,rfl,?_⟩;rw[aC (eh h0)];refine⟨_,_,rfl,rfl,_,rfl,?_⟩;rw[eh h1];exact cz (k _ _ s1 rfl)
end
noncomputable def ck(H:Hp)(p:Nat × Nat)(v:V):Prop:=∃t,v = .ref t/\H t=some (.tup [.int p.1,.int p.2])
noncomputable def mQ(K:W.Frag)(H:Hp)(a:Addr)(ps:List (Nat × Nat)):Prop:=∃vs,ai K H a vs/\Paired (ck H) ps vs
noncomputable def TT(H:Hp)(v:V)(n:Nat)(g:Nat->Nat->V):Prop:=∃a vs,v = .ref a/\H a=some (.tup vs)/\Paired (λi u=>∃b,u = .ref b/\H b=some (.tup ((List.range n).map (g i)))) (List.range n) vs
theorem ck.same{H H':Hp}(s:Same H H'){p:Nat × Nat}{v:V}(h:ck H p v):ck H' p v:=let⟨t,e,q⟩:=h;⟨t,e,s _ _ q⟩
theorem c9.same{H H':Hp}(s:Same H H'){ps:List (Nat × Nat)}{vs:List V}(h:Paired (ck H) ps vs):Paired (ck H') ps vs:=Paired.dB h λ_ _ q=>q.same s
theorem mQ.same{K:W.Frag}{H H':Hp}{a:Addr}{ps:List (Nat × Nat)}(s:Same H H')(h:mQ K H a ps):mQ K H' a ps:=let⟨vs,e,q⟩:=h;⟨vs,s.seq e,c9.same s q⟩
theorem TT.same{H H':Hp}(s:Same H H'){v:V}{n:Nat}{g:Nat->Nat->V}(h:TT H v n g):TT H' v n g:=
 let⟨a,vs,e,q,r⟩:=h;⟨a,vs,e,s _ _ q,Paired.dB r λ_ _ ⟨b,e,q⟩=>⟨b,e,s _ _ q⟩⟩
theorem eR{α β:Type}{F:α->β->Prop}:∀{l:List α} {m:List β} {i:Nat} {y:β},Paired F l m->m[i]?=some y->∃x,l[i]?=some x/\F x y
 |_,_,_,_,.nil,h=>by simp at h
 |_,_,0,_,.cons r _,h=>by simp at h;subst h;exact⟨_,rfl,r⟩
 |_,_,i+1,y,.cons _ t,h=>by
  obtain⟨x,h1,h2⟩:=eR (i:=i) (y:=y) t (by simpa using h);exact⟨x,by simpa using h1,h2⟩
theorem oq{α β:Type}{F:α->β->Prop}:∀{l:List α} {m:List β} {i:Nat} {x:α},Paired F l m->l[i]?=some x->∃y,m[i]?=some y/\F x y
 |_,_,_,_,.nil,h=>by simp at h
 |_,_,0,_,.cons r _,h=>by simp at h;subst h;exact⟨_,rfl,r⟩
 |_,_,i+1,y,.cons _ t,h=>by
  obtain⟨x,h1,h2⟩:=oq (i:=i) (x:=y) t (by simpa using h);exact⟨x,by simpa using h1,h2⟩
theorem TT.row{H:Hp}{v:V}{n:Nat}{g:Nat->Nat->V}(h:TT H v n g){i:Nat}(hi:i<n):∃a vs b,v = .ref a/\H a=some (.tup vs)/\vs.length=n/\vs[i]?=some (.ref b)/\H b=some (.tup ((List.range n).map (g i))):=by
 obtain⟨a,vs,e,q,r⟩:=h;obtain⟨y,h1,b,rfl,h2⟩:=oq (i:=i) (x:=i) r (by simp[hi]);exact⟨a,vs,b,e,q,by simpa using(cK r).symm,h1,h2⟩
theorem pM{n:Nat}{g:Nat->V}{j:Nat}(hj:j<n):jt ((List.range n).map g) (j:Int)=some (g j):=aM (by simp[hj])
theorem cH{n:Nat}(h:n<=24):n<sizeLine:=rW h (by decide)
theorem d4{n:Nat}(h:n<=100000):n<sizeLine:=rW h (by decide)
theorem a_{n:Nat}(h:n<=100000):-(2 ^ 62)<=(n:Int)/\(n:Int)<2 ^ 62:=by omega
theorem yI{t i:Nat}:decide (V.int (t:Int)=V.int (0+(i:Int)))=decide (t=i):=by
 apply Ir.mpr
 constructor
 ·intro h;injection h with h;omega
 ·intro h;subst h;simp
section
variable {P:Program} {w:World} {K:W.Frag} {mg:Str->Option Value} {base:Heap} {f:Addr} {fd:FuncData}
abbrev Ds:Stmt:=top 13
theorem Pg:aZ ["count","pairs","pair"] ["count","pairs"] (aE Ds):=⟨rfl,rfl,rfl,by decide +kernel,rfl,by decide +kernel,by decide +kernel⟩
noncomputable def wt(K:W.Frag):Sp:=Pu (λvs H=>∃(n a:Nat) (ps:List (Nat × Nat)),vs = [.int n,.ref a]/\mQ K H a ps/\∀p∈ps,p.1<n/\p.2<n) λ_ _ v _=>v = .non
theorem L_ (F:aV K "need_pairs" "need_pairs" Ds f fd) (T:Txt mg) (dv:ao P w K mg base "need_thing" ["count","number"] 3 kQ):aN P w K mg base aS 4 f fd ["count","pairs"] (wt K):=by
 refine F.ok Pg (λvs H Q E h=>?_) (λcdv A outer s H vs Q E hr h=>?_)
 ·obtain⟨⟨n,a,ps,rfl,_⟩,_⟩:=h
  rfl
 ·obtain⟨⟨n,a,ps,rfl,⟨vs,hl,hp⟩,hb⟩,k⟩:=h
  have nd:=Pg.nd;refine⟨_,(ax (cn b_ rfl (eU (K:=K) rfl (pv 1)) (aW (i:=2) nd rfl (Or.inl rfl))
   (au (cG (aH dv hr rfl (ae (pv 0) (ae (ay (aO (K:=K) rfl) (pv 2) ak (λ_ _=>rfl)) ag))))
   (ax (cG (aH dv hr rfl (ae (pv 0) (ae (ay (aO (K:=K) rfl) (pv 2) ak (λ_ _=>rfl)) ag)))))))),?_⟩
  refine⟨_,rfl,a,rfl,⟨_,hl⟩,iS (K:=K) (a:=a) (xs:=vs) (λi σ H2=>∃v,σ = [some (.int n),some (.ref a),v]/\Same H H2) ⟨none,rfl,Same.refl _⟩ (λi σ H2 _ ⟨_,_,s2⟩=>s2.seq hl) ?_ ?_⟩
  ·rintro i y σ H2 hi ⟨v,rfl,s2⟩
   obtain⟨p,hp1,t,rfl,ht⟩:=eR hp hi;obtain⟨b1,b2⟩:=hb p (cV hp1);refine⟨_,rfl,_,rfl,t,_,0,_,rfl,rfl,.inl (.inl (s2 _ _ ht)),rfl,⟨n,_,rfl,by omega,by omega⟩,λv3 H3 s3 _=>?_⟩;refine⟨_,rfl,_,rfl,t,_,1,_,rfl,rfl,.inl (.inl ((s2.trans s3) _ _ ht)),rfl,⟨n,_,rfl,by omega,by omega⟩,λv4 H4 s4 _=>?_⟩;exact⟨_,rfl,(s2.trans s3).trans s4⟩
  ·rintro σ H2 ⟨v,rfl,s2⟩
   exact k _ _ s2 rfl
abbrev vG:Stmt:=top 14
theorem Pk:aZ ["count","thing"] ["count","thing"] (aE vG):=⟨rfl,rfl,rfl,by decide +kernel,rfl,by decide +kernel,by decide +kernel⟩
noncomputable def bF(n:Nat)(p:Nat->Bool):List V:=(List.range n).map λb=>V.bl (p b)
noncomputable def wx:Sp:=Pu (λvs H=>∃n t:Nat,vs = [.int n,.int t]/\n<=24) λvs H v H'=>∀n t:Nat,vs = [.int n,.int t]->∃a,v = .ref a/\H a=none/\H' a=some (.lst (bF n λb=>decide (t=b)))
theorem Mb (F:aV K "own_row" "own_row" vG f fd) (T:Txt mg):aN P w K mg base aS 1 f fd ["count","thing"] wx:=by
 refine F.ok Pk (λvs H Q E h=>?_) (λcdv A outer s H vs Q E hr h=>?_)
 ·obtain⟨⟨n,t,rfl,_⟩,_⟩:=h
  rfl
 ·obtain⟨⟨n,t,rfl,hn⟩,k⟩:=h
  have nd:=Pk.nd;refine⟨_,(ax (aX (cS (own:=["other"]) (fr:=[("thing", 1)]) rfl (bX (aE vG) ["count","thing"] rfl rfl (by decide +kernel)) (bY rfl T.range (ae (pv 0) ag)) (λ_ _ _ _=>⟨(aW (i:=0) (by decide +kernel:(["other","thing"]:List Str).Nodup) rfl (Or.inl rfl)),da,(qQ fh (pv 1) (pv 0) (bN _))⟩)))),?_⟩;refine⟨_,rfl,n,rfl,(a_ (by omega)).1,(a_ (by omega)).2,λD hD=>fE (λi=>.bl (decide (t=i))) src_range hD (cH (by simpa using hn)) (λi H2 Kt hi hs hk=>?_) (λH' hs hl=>?_)⟩
  ·refine⟨_,rfl,_,rfl,rfl,?_⟩
   rw[yI];exact hk _ (Same.refl _)
  ·refine k _ _ hs ?_
   intro n' t' e;cases e;exact⟨D,rfl,hD,by rw[hl];simp[bF]⟩
end
theorem q_(n:Nat)(p:Nat->Bool):(bF n p).length=n:=by simp[bF]
theorem q0{n:Nat}{p:Nat->Bool}{i:Nat}(h:i<n):(bF n p).getD i .non = .bl (p i):=by simp[bF,h]
theorem aan{n:Nat}{p:Nat->Bool}{j:Nat}:(bF n p).set j (.bl true)=bF n λb=>if b=j then true else p b:=by
 apply j4
 ·simp[bF]
 ·intro i h1 h2
  simp only[bF,List.getElem_set,List.getElem_map,List.getElem_range]
  by_cases e:j=i
  ·simp[e]
  ·have:¬ i=j:=λz=>e z.symm
   simp[e,this]
theorem kK{n:Nat}{p q:Nat->Bool}(h:∀b,b<n->p b=q b):bF n p=bF n q:=by
 unfold bF;apply gZ
 intro b hb;rw[h b (by simpa using hb)]
section
variable {P:Program} {w:World} {K:W.Frag} {mg:Str->Option Value} {base:Heap} {f:Addr} {fd:FuncData}
abbrev vn:Stmt:=top 15
theorem N_:aZ ["one","other"] ["one","other"] (aE vn):=⟨rfl,rfl,rfl,by decide +kernel,rfl,by decide +kernel,by decide +kernel⟩
noncomputable def vS:Sp:=Pu (λvs H=>∃(x y n:Nat) (p q:Nat->Bool),vs = [.ref x,.ref y]/\H x=some (.lst (bF n p))/\H y=some (.lst (bF n q))/\n<=24)
 λvs H v H'=>∀(x y n:Nat) (p q:Nat->Bool),vs = [.ref x,.ref y]->H x=some (.lst (bF n p))->H y=some (.lst (bF n q))->∃a,v = .ref a/\H a=none/\H' a=some (.lst (bF n λb=>p b||q b))
theorem u0{n m:Nat}{p q:Nat->Bool}(h:bF n p=bF m q):n=m/\∀b,b<n->p b=q b:=by
 have e:n=m:=by have:=congrArg List.length h;rwa [q_,q_]at this
 subst e;refine⟨rfl,λb hb=>?_⟩;have:=congrArg (λl=>l.getD b V.non) h;simp only[q0 hb]at this;injection this
theorem LC (F:aV K "either" "either" vn f fd) (T:Txt mg):aN P w K mg base aS 1 f fd ["one","other"] vS:=by
 refine F.ok N_ (λvs H Q E h=>?_) (λcdv A outer s H vs Q E hr h=>?_)
 ·obtain⟨⟨x,y,n,p,q,rfl,_⟩,_⟩:=h
  rfl
 ·obtain⟨⟨x,y,n,p,q,rfl,hx,hy,hn⟩,k⟩:=h
  have nd:=N_.nd;refine⟨_,(ax (aX (cS (own:=["a","b"]) (fr:=[]) rfl (bX (aE vn) ["one","other"] rfl rfl (by decide +kernel)) (MT (K:=K) true true rfl rfl T.zip (ae (pv 0) (ae (pv 1) ag))) (λ_ _ _ _=>⟨(ou (K:=K) (i:=0) (j:=1) rfl rfl (by decide +kernel:(["a","b"]:List Str).Nodup) rfl rfl rfl rfl),da,(MK (pv 0) (jO (pv 1)))⟩)))),?_⟩;refine⟨_,rfl,_,rfl,x,y,_,_,rfl,ai.of hx,ai.of hy,λD hD=>fE (λi=>.bl (p i||q i)) (PX (c1:=true) (c2:=true) (ai.of hx) (ai.of hy) (n:=n) (by simp[q_])) hD (cH hn) (λi H2 Kt hi hs hk=>?_) (λH' hs hl=>?_)⟩
  ·refine⟨_,rfl,p i,q0 hi,bM (λh=>?_) (λh=>?_)⟩
   ·have:=hk _ (Same.refl _)
    simpa[h]using this
   ·refine⟨_,rfl,?_⟩
    have:=hk _ (Same.refl _);rw[q0 hi];simpa[h]using this
  ·refine k _ _ hs ?_
   intro x' y' n' p' q' e h1 h2;cases e;rw[hx]at h1;rw[hy]at h2;injection h1 with h1
   injection h1 with h1
   injection h2 with h2
   injection h2 with h2
   obtain⟨rfl,e1⟩:=u0 h1;obtain⟨_,e2⟩:=u0 h2;refine⟨D,rfl,hD,?_⟩;rw[hl];show some (HO.lst (bF n λi=>p i||q i))=_;rw[kK λb hb=>by rw[e1 b hb,e2 b hb]]
abbrev vI:Stmt:=top 16
theorem Pn:aZ ["one","other"] ["one","other"] (aE vI):=⟨rfl,rfl,rfl,by decide +kernel,rfl,by decide +kernel,by decide +kernel⟩
noncomputable def wB:Sp:=Pu (λvs H=>∃(x y n:Nat) (p q:Nat->Bool),vs = [.ref x,.ref y]/\H x=some (.tup (bF n p))/\H y=some (.tup (bF n q))/\n<=24)
 λvs H v H'=>∀(x y n:Nat) (p q:Nat->Bool),vs = [.ref x,.ref y]->H x=some (.tup (bF n p))->H y=some (.tup (bF n q))->∃a,v = .ref a/\H a=none/\H' a=some (.tup (bF n λb=>p b&&q b))
theorem Mh (F:aV K "shared" "shared" vI f fd) (T:Txt mg):aN P w K mg base aS 1 f fd ["one","other"] wB:=by
 refine F.ok Pn (λvs H Q E h=>?_) (λcdv A outer s H vs Q E hr h=>?_)
 ·obtain⟨⟨x,y,n,p,q,rfl,_⟩,_⟩:=h
  rfl
 ·obtain⟨⟨x,y,n,p,q,rfl,hx,hy,hn⟩,k⟩:=h
  have nd:=Pn.nd;refine⟨_,(ax (aX (jd (lF (K:=K) rfl) rfl T.tuple lC (ae (cS (own:=["a","b"]) (fr:=[]) rfl (bX (aE vI) ["one","other"] rfl rfl (by decide +kernel)) (MT (K:=K) false false rfl rfl T.zip (ae (pv 0) (ae (pv 1) ag))) (λ_ _ _ _=>⟨(ou (K:=K) (i:=0) (j:=1) rfl rfl (by decide +kernel:(["a","b"]:List Str).Nodup) rfl rfl rfl rfl),da,(mh (pv 0) (jO (pv 1)))⟩)) ag)))),?_⟩;refine⟨_,rfl,_,rfl,x,y,_,_,rfl,av.of hx,av.of hy,λD hD=>fE (λi=>.bl (p i&&q i)) (PX (c1:=false) (c2:=false) (av.of hx) (av.of hy) (n:=n) (by simp[q_])) hD (cH hn) (λi H2 Kt hi hs hk=>?_) (λH' hs hl=>?_)⟩
  ·refine⟨_,rfl,p i,q0 hi,bM (λh=>?_) (λh=>?_)⟩
   ·refine⟨_,rfl,?_⟩
    have:=hk _ (Same.refl _);rw[q0 hi];simpa[h]using this
   ·have:=hk _ (Same.refl _)
    simpa[h]using this
  ·refine⟨D,_,rfl,.inl ⟨ai.of hl,λl hl'=>?_⟩⟩
   have hlH:H l=none:=hs.free hl';refine k _ _ (hs.trans (Same.put hl')) ?_;intro x' y' n' p' q' e h1 h2;cases e;rw[hx]at h1;rw[hy]at h2;injection h1 with h1
   injection h1 with h1
   injection h2 with h2
   injection h2 with h2
   obtain⟨rfl,e1⟩:=u0 h1;obtain⟨_,e2⟩:=u0 h2;refine⟨l,rfl,hlH,?_⟩;rw[aA];show some (HO.tup (bF n λi=>p i&&q i))=_;rw[kK λb hb=>by rw[e1 b hb,e2 b hb]]
abbrev vi:Stmt:=top 17
theorem N8:aZ ["rows","place"] ["rows","place"] (aE vi):=⟨rfl,rfl,rfl,by decide +kernel,rfl,by decide +kernel,by decide +kernel⟩
noncomputable def vP:Sp:=Pu (λvs H=>∃(v:V) (n j:Nat) (g:Nat->Nat->V),vs = [v,.int j]/\TT H v n g/\j<n/\n<=24)
 λvs H v H'=>∀(u:V) (n j:Nat) (g:Nat->Nat->V),vs = [u,.int j]->TT H u n g->j<n->∃a,v = .ref a/\H a=none/\H' a=some (.tup ((List.range n).map λi=>g i j))
theorem TT.inj{H:Hp}{v:V}{n m:Nat}{g g':Nat->Nat->V}(h:TT H v n g)(h':TT H v m g'):n=m/\∀i j,i<n->j<n->g i j=g' i j:=by
 obtain⟨a,vs,e,q,r⟩:=id h;obtain⟨a',vs',e',q',r'⟩:=id h';rw[e]at e';injection e' with e'
 subst e';rw[q]at q';injection q' with q'
 injection q' with q'
 subst q';have en:n=m:=by
  have h1:=cK r;have h2:=cK r';simp at h1 h2;omega
 subst en;refine⟨rfl,λi j hi hj=>?_⟩;obtain⟨y,h1,b,rfl,h2⟩:=oq (i:=i) (x:=i) r (by simp[hi]);obtain⟨y',h1',b',rfl,h2'⟩:=oq (i:=i) (x:=i) r' (by simp[hi]);rw[h1]at h1';injection h1' with h1'
 injection h1' with h1'
 subst h1';rw[h2]at h2';injection h2' with h2'
 injection h2' with h2'
 have:=congrArg (λl=>l.getD j V.non) h2';simpa[hj]using this
theorem Lz (F:aV K "column" "column" vi f fd) (T:Txt mg):aN P w K mg base aS 1 f fd ["rows","place"] vP:=by
 refine F.ok N8 (λvs H Q E h=>?_) (λcdv A outer s H vs Q E hr h=>?_)
 ·obtain⟨⟨v,n,j,g,rfl,_⟩,_⟩:=h
  rfl
 ·obtain⟨⟨v,n,j,g,rfl,ht,hj,hn⟩,k⟩:=h
  have nd:=N8.nd;obtain⟨a,us,rfl,hq,hr'⟩:=id ht;have hlen:us.length=n:=by simpa using(cK hr').symm
  refine⟨_,(ax (aX (jd (lF (K:=K) rfl) rfl T.tuple lC (ae (cS (own:=["row"]) (fr:=[("place", 1)]) rfl (bX (aE vi) ["rows","place"] rfl rfl (by decide +kernel)) (uW (K:=K) rfl (pv 0)) (λ_ _ _ _=>⟨(aW (i:=0) (by decide +kernel:(["row","place"]:List Str).Nodup) rfl (Or.inl rfl)),da,(ay (aO (K:=K) rfl) (pv 0) (pv 1) (λ_ _=>rfl))⟩)) ag)))),?_⟩;refine⟨_,rfl,a,rfl,⟨_,av.of hq⟩,λD hD=>fE (λi=>g i j) (Eo (av.of hq)) hD (cH (by omega)) (λi H2 Kt hi hs hk=>?_) (λH' hs hl=>?_)⟩
  ·obtain⟨y,h1,b,rfl,h2⟩:=oq (i:=i) (x:=i) hr' (ji (by omega))
   refine⟨_,rfl,_,rfl,b,_,j,_,(by rw[bh,h1];rfl),rfl,av.of (hs _ _ h2),pM hj,hk _ (Same.refl _)⟩
  ·refine⟨D,_,rfl,.inl ⟨ai.of hl,λl hl'=>?_⟩⟩
   refine k _ _ (hs.trans (Same.put hl')) ?_;intro u' n' j' g' e h1 h2;injection e with e1 e2
   injection e2 with e2 _
   injection e2 with e2
   have ej:j=j':=by omega
   subst ej;rw[<- e1]at h1;obtain⟨rfl,eg⟩:=ht.inj h1;refine⟨l,rfl,hs.free hl',?_⟩;rw[aA,hlen]
   congr 2
   exact gZ λi hi=>eg i j (by simpa using hi) hj
end
theorem Lr{N:List Addr}(hN:N.Nodup){i j:Nat}{x:Addr}(a:N[i]?=some x)(b:N[j]?=some x):i=j:=by
 obtain⟨h1,e1⟩:=bD.mp a;obtain⟨h2,e2⟩:=bD.mp b;exact(FW hN).mp (e1.trans e2.symm)
theorem Ls:∀{as:List Addr} {t b:Nat},as.Nodup->b ∉ as->(as.set t b).Nodup
 | [],_,_,_,_=>by simp
 |a::r,0,b,nd,hb=>fS.mpr ⟨λh=>hb (bT _ h),(fS.mp nd).2⟩
 |a::r,t+1,b,nd,hb=>by
  rw[List.set_cons_succ];refine fS.mpr ⟨λh=>?_,Ls (fS.mp nd).2 λh=>hb (bT _ h)⟩
  rcases Rj h with h|h
  ·exact(fS.mp nd).1 h
  ·subst h;exact hb cC
structure dX (H0 H:Hp) (r n:Nat) (as:List Addr) (R:Nat->Nat->Bool):Prop where
 same:Same H0 H
 lst:H r=some (.lst (as.map V.ref))
 len:as.length=n
 nd:as.Nodup
 Bt:H0 r=none
 new:∀a∈as,H0 a=none/\a≠r
 row:∀(i:Nat) a,as[i]?=some a->H a=some (.lst (bF n (R i)))
theorem dX.congr{H0 H:Hp}{r n:Nat}{as:List Addr}{R R':Nat->Nat->Bool}(W:dX H0 H r n as R)(h:∀a b,a<n->b<n->R a b=R' a b):dX H0 H r n as R':=
 {W with row:=λi a e=>(W.row i a e).trans (by rw[kK λb hb=>h i b (by rw[<- W.len];exact(bD.mp e).1) hb])}
theorem dX.get{H0 H:Hp}{r n:Nat}{as:List Addr}{R:Nat->Nat->Bool}(W:dX H0 H r n as R){i:Nat}(hi:i<n):∃a,as[i]?=some a/\(as.map V.ref)[i]?=some (.ref a)/\a∈as/\H a=some (.lst (bF n (R i))):=by
 have h:i<as.length:=by rw[W.len];exact hi
 exact⟨as[i],aI h,by simp[h],mL h,W.row i _ (aI h)⟩
theorem dX.grow{H0 H H':Hp}{r n:Nat}{as:List Addr}{R:Nat->Nat->Bool}(W:dX H0 H r n as R)(s:Same H H'):dX H0 H' r n as R:=
 {W with same:=W.same.trans s,lst:=s _ _ W.lst,row:=λi a e=>s _ _ (W.row i a e)}
theorem dX.put{H0 H:Hp}{r n:Nat}{as:List Addr}{R:Nat->Nat->Bool}(W:dX H0 H r n as R){i j a:Nat}(ha:as[i]?=some a):
  dX H0 (upd H a (.lst ((bF n (R i)).set j (.bl true)))) r n as (λx y=>if x=i/\y=j then true else R x y):=by
 have am:a∈as:=cV ha;refine{W with same:=λb o e=>?_,lst:=?_,row:=λk b e=>?_}
 ·rw[aJ (λz=>by rw[z,(W.new a am).1]at e;cases e)]
  exact W.same _ _ e
 ·rw[aJ (cZ (W.new a am).2)]
  exact W.lst
 ·by_cases hk:k=i
  ·subst hk
   rw[ha]at e;cases e;rw[aA,aan]
   congr 2
   apply kK
   intro b hb;simp
  ·have hba:b≠a:=by
    rintro rfl;exact hk (Lr W.nd e ha)
   rw[aJ hba,W.row k b e]
   congr 2
   apply kK
   intro c hc;rw[aq (λz=>hk z.1)]
theorem dX.swap{H0 H:Hp}{r n:Nat}{as:List Addr}{R:Nat->Nat->Bool}(W:dX H0 H r n as R){t b:Nat}{p:Nat->Bool}(ht:t<n)(hb:H0 b=none)(hbr:b≠r)(hba:b ∉ as)(hp:H b=some (.lst (bF n p))):
  dX H0 (upd H r (.lst ((as.map V.ref).set t (.ref b)))) r n (as.set t b) (λx y=>if x=t then p y else R x y):=by
 refine⟨λc o e=>?_,?_,by rw[FX];exact W.len,?_,W.Bt,λc hc=>?_,λk c e=>?_⟩
 ·rw[aJ (λz=>by rw[z,W.Bt]at e;cases e)]
  exact W.same _ _ e
 ·rw[aA,List.map_set]
 ·exact Ls W.nd hba
 ·rcases Rj hc with h|h
  ·exact W.new c h
  ·subst h;exact⟨hb,hbr⟩
 ·by_cases hk:t=k
  ·subst hk
   have hlt:t<as.length:=by rw[W.len];exact ht
   rw[FV hlt]at e;cases e;rw[aJ hbr,hp]
   congr 2
   apply kK
   intro y _;rw[aC rfl]
  ·rw[xh hk]at e
   rw[aJ (W.new c (cV e)).2,W.row k c e]
   congr 2
   apply kK
   intro y _;rw[aq (λz=>hk z.symm)]
theorem Sg(a b:Nat):Ev.base [] a b=decide (a=b):=by rw[eX,Ev.mX];simp
theorem Sh(ps:List (Nat × Nat))(p:Nat × Nat)(a b:Nat):Ev.base (ps++[p]) a b=if a=p.1/\b=p.2 then true else Ev.base ps a b:=by
 rw[eX,Ev.mX]
 by_cases h:a=p.1/\b=p.2
 ·rw[aC h]
  obtain⟨rfl,rfl⟩:=h;simp
 ·rw[aq h,Ev.mX]
  simp only[iK,j6]
  constructor
  ·rintro(h1|h1|h1)
   ·exact .inl h1
   ·exact .inr h1
   ·subst h1;exact absurd ⟨rfl,rfl⟩ h
  ·rintro(h1|h1)
   ·exact .inl h1
   ·exact .inr (.inl h1)
section
variable {P:Program} {w:World} {K:W.Frag} {mg:Str->Option Value} {base:Heap} {f:Addr} {fd:FuncData}
theorem qy{n j:Nat}(h:j<n):iX n (j:Int)=some j:=by
 unfold iX;rw[aC (by omega),aC (by omega)];simp
abbrev pN (R:Nat->Nat->Bool):Nat->Nat->V:=λa b=>.bl (R a b)
abbrev rA:Stmt:=top 18
theorem Pm:aZ ["count","pairs","rows","pair","middle","thing"] ["count","pairs"] (aE rA):=⟨rfl,rfl,rfl,by decide +kernel,rfl,by decide +kernel,by decide +kernel⟩
noncomputable def wA(K:W.Frag):Sp:=λvs H Q _=>∃(n a:Nat) (ps:List (Nat × Nat)),vs = [.int n,.ref a]/\mQ K H a ps/\n<=24/\(∀p∈ps,p.1<n/\p.2<n) /\
 ∀v H' R,Same H H'->Ev.jY n ps R->TT H' v n (pN R)->Q v H'
theorem at0{α:Type}{xs:List α}{j:Nat}{v:α}(h:xs[j]?=some v):jt xs (0+(j:Int))=some v:=by rw[dg];exact aM h
theorem Xd{n j:Nat}(h:j<n):iX n (0+(j:Int))=some j:=by rw[dg];exact qy h
theorem aam{n:Nat}{p:Nat->Bool}{j:Nat}(h:j<n):(bF n p)[j]?=some (.bl (p j)):=by simp[bF,h]
theorem Mg (F:aV K "reach_of" "reach_of" rA f fd) (T:Txt mg) (p8:ao P w K mg base "own_row" ["count","thing"] 1 wx) (pP:ao P w K mg base "either" ["one","other"] 1 vS) :
  aN P w K mg base aS 2 f fd ["count","pairs"] (wA K):=by
 refine F.ok Pm (λvs H Q E h=>?_) (λcdv A outer s H vs Q E hr h=>?_)
 ·obtain⟨n,a,ps,rfl,_⟩:=h
  rfl
 ·obtain⟨n,a,ps,rfl,⟨us,iq,hup⟩,hn,hb,k⟩:=h
  have nd:=Pm.nd;have en:((n:Int)).toNat=n:=bu n;refine⟨_,(au (uZ (i:=2) nd rfl rfl (own:=["thing"]) (fr:=[("count", 0)]) rfl (bX (aE rA) ["count","pairs","rows","pair","middle","thing"] rfl rfl (by decide +kernel)) (bY rfl T.range (ae (pv 0) ag)) (λ_ _ _ _=>⟨(aW (i:=0) (by decide +kernel:(["thing","count"]:List Str).Nodup) rfl (Or.inl rfl)),da,(aH p8 hr rfl (ae (pv 1) (ae (pv 0) ag)))⟩))
   (au (cn b_ rfl (eU (K:=K) rfl (pv 1)) (aW (i:=3) nd rfl (Or.inl rfl))
   (ax (kI eS (qS (ay (bE (K:=K) rfl) (pv 2) (ay (aO (K:=K) rfl) (pv 3) ak (λ_ _=>rfl)) (λ_ _=>rfl)) (ay (aO (K:=K) rfl) (pv 3) ak (λ_ _=>rfl)) set_list))))
   (au (cn b_ rfl (bY rfl T.range (ae (pv 0) ag)) (aW (i:=4) nd rfl (Or.inl rfl))
   (ax (cn b_ rfl (bY rfl T.range (ae (pv 0) ag)) (aW (i:=5) nd rfl (Or.inl rfl))
   (ax (bU (dM (ay (bE (K:=K) rfl) (ay (bE (K:=K) rfl) (pv 2) (pv 5) (λ_ _=>rfl)) (pv 4) (λ_ _=>rfl))) (ax (kI (aH pP hr rfl (ae (ay (bE (K:=K) rfl) (pv 2) (pv 5) (λ_ _=>rfl)) (ae (ay (bE (K:=K) rfl) (pv 2) (pv 4) (λ_ _=>rfl)) ag))) (qS (pv 2) (pv 5) set_list))) cq)))))
   (ax (aX (jd (lF (K:=K) rfl) rfl T.tuple lC (ae (cS (own:=["row"]) (fr:=[]) rfl (bX (aE rA) ["count","pairs","rows","pair","middle","thing"] rfl rfl (by decide +kernel)) (eU (K:=K) rfl (pv 2)) (λ_ _ _ _=>⟨(aW (i:=0) (by decide +kernel:(["row"]:List Str).Nodup) rfl (Or.inl rfl)),da,(jd (lF (K:=K) rfl) rfl T.tuple lC (ae (pv 0) ag))⟩)) ag))))))),?_⟩
  refine⟨_,rfl,n,rfl,(a_ (by omega)).1,(a_ (by omega)).2,λD hD=>Ih (λi=>bF n λb=>decide (i=b)) src_range hD (cH (by simpa using hn)) (λi H2 Kt hi hs hk=>?_) (λH1 as hs hl h1 h2 h3 h4=>?_)⟩
  ·refine⟨_,rfl,_,rfl,⟨n,i,by simp,hn⟩,λv H3 s3 hv=>?_⟩
   obtain⟨b,rfl,hb1,hb2⟩:=hv n i (by simp);exact hk b H3 s3 hb1 hb2
  have W0:dX H H1 D n as (Ev.base []):=⟨hs,hl,h1.trans en,h2,hD,h3,λi b e=>(h4 i b e).trans (by rw[kK λc hc=>(Sg i c).symm])⟩;refine⟨_,rfl,a,rfl,⟨_,hs.seq iq⟩,iS (K:=K) (a:=a) (xs:=us) (λi σ H2=>∃v3,σ = [some (.int n),some (.ref a),some (.ref D),v3,none,none]/\dX H H2 D n as (Ev.base (ps.take i)))
   ⟨none,rfl,by simpa using W0⟩ (λi σ H2 _ ⟨_,_,W⟩=>W.same.seq iq) ?_ ?_⟩
  ·rintro i y σ H2 hi ⟨v3,rfl,W⟩
   obtain⟨p,hp1,t,rfl,ht⟩:=eR hup hi;obtain⟨b1,b2⟩:=hb p (cV hp1);obtain⟨r,r1,r2,r3,r4⟩:=W.get b1;refine⟨_,rfl,_,rfl,t,_,0,_,rfl,rfl,av.of (W.same _ _ ht),rfl,D,_,_,_,rfl,rfl,ai.of W.lst,aM r2,_,rfl,t,_,1,_,rfl,rfl,av.of (W.same _ _ ht),rfl,r,_,_,p.2,rfl,rfl,r4,?_,?_⟩
   ·rw[q_];exact qy b2
   ·refine⟨_,rfl,(W.put r1).congr λx y _ _=>?_⟩
    have et:ps.take (i+1)=ps.take i++[p]:=by rw[o8,hp1];rfl
    rw[et,Sh]
  ·rintro σ H2 ⟨v3,rfl,W⟩
   have el:us.length=ps.length:=(cK hup).symm;rw[el,mN]at W;have hlen:us.length=ps.length:=(cK hup).symm;refine⟨_,rfl,n,rfl,(a_ (by omega)).1,(a_ (by omega)).2,eu (lo:=0) (n:=((n:Int)).toNat) (λm σ H2=>∃v3 v4 v5 as R,σ = [some (.int n),some (.ref a),some (.ref D),v3,v4,v5]/\dX H H2 D n as R/\Ev.jr n ps m R)
    ⟨v3,none,none,as,_,rfl,W,Ev.jr.start hb⟩ ?_ ?_⟩
   ·rintro m σ H2 hm ⟨v3,v4,v5,as,R,rfl,W,WI⟩
    have hmn:m<n:=by omega
    refine⟨_,rfl,n,rfl,(a_ (by omega)).1,(a_ (by omega)).2,eu (lo:=0) (n:=((n:Int)).toNat) (λt σ H2=>∃v5 as,σ = [some (.int n),some (.ref a),some (.ref D),v3,some (.int (0+m)),v5] /\
     dX H H2 D n as (λx y=>if x<t then Ev.jV R m x y else R x y)) ⟨v5,as,rfl,W.congr λx y _ _=>by rw[aq (Nat.not_lt_zero x)]⟩ ?_ ?_⟩
    ·rintro t σ H3 ht ⟨v5,as,rfl,W⟩
     have htn:t<n:=by omega
     obtain⟨rt,t1,t2,t3,t4⟩:=W.get htn;obtain⟨rm,m1,m2,m3,m4⟩:=W.get hmn;refine⟨_,rfl,_,rfl,D,_,_,_,rfl,rfl,ai.of W.lst,at0 t2,_,rfl,rt,_,_,_,rfl,rfl,ai.of t4,at0 (aam hmn),_,rfl,bM (λh=>?_) (λh=>?_)⟩
     ·rw[aq (g6 t)]at h
      refine⟨_,rfl,_,rfl,D,_,_,_,rfl,rfl,ai.of W.lst,at0 t2,_,rfl,_,rfl,D,_,_,_,rfl,rfl,ai.of W.lst,at0 m2,⟨rt,rm,n,_,_,rfl,t4,m4,hn⟩,λv H4 s4 hv=>?_⟩;obtain⟨b,rfl,q1,q2⟩:=hv rt rm n _ _ rfl t4 m4;have W4:=W.grow s4;have hbD:b≠D:=λe=>by rw[e,W.lst]at q1;cases q1
      have hba:b ∉ as:=λhm=>by
       obtain⟨j,hj,e⟩:=k8 hm;have:=W.row j b (by rw[aI hj,e]);rw[q1]at this;cases this
      refine⟨_,rfl,_,rfl,D,_,_,t,rfl,rfl,W4.lst,?_,?_⟩
      ·rw[aG,W4.len];exact Xd htn
      ·refine⟨_,_,rfl,(W4.swap htn (W.same.free q1) hbD hba q2).congr λx y hx hy=>?_⟩
       by_cases e:x=t
       ·subst e
        rw[aC rfl,aq (g6 x),aC (ph x)];have em:(if m<x then Ev.jV R m m y else R m y)=R m y:=by
         split
         ·unfold Ev.jV
          cases R m y<;>simp
         ·rfl
        rw[em];unfold Ev.jV;rw[h,dU]
       ·rw[aq e]
        by_cases qu:x<t
        ·rw[aC qu,aC (by omega)]
        ·rw[aq qu,aq (by omega)]
     ·rw[aq (g6 t)]at h
      refine⟨_,as,rfl,W.congr λx y hx hy=>?_⟩
      by_cases e:x=t
      ·subst e
       rw[aq (g6 x),aC (ph x)];unfold Ev.jV;have h':R x m=false:=by simpa using h
       rw[h',gX,Bool.or_false]
      ·by_cases qu:x<t
       ·rw[aC qu,aC (by omega)]
       ·rw[aq qu,aq (by omega)]
    ·rintro σ H3 ⟨v5,as,rfl,W⟩
     exact⟨_,_,_,as,Ev.jV R m,rfl,W.congr λx y hx _=>by rw[aC (by omega)],WI.step hmn⟩
   ·rintro σ H2 ⟨v3,v4,v5,as,R,rfl,W,WI⟩
    rw[en]at WI;refine⟨_,rfl,D,rfl,⟨_,ai.of W.lst⟩,λD2 hD2=>kh (λi v H=>∃b,v = .ref b/\b≠D2/\H b=some (.tup (bF n (R i)))) (src_list (ai.of W.lst)) hD2 (cH (by rw[aG,W.len];exact hn))
     (λi v H H' s ⟨b,e,hb,q⟩=>⟨b,e,hb,s _ _ hb q⟩) (λi H3 Kt hi hs hy hk=>?_) (λH3 ys hs hl hp=>?_)⟩
    ·rw[aG,W.len]at hi
     obtain⟨r,r1,r2,r3,r4⟩:=W.get hi;obtain⟨zs,hz⟩:=hy;refine⟨_,rfl,r,_,by rw[bh,r2];rfl,.inl ⟨ai.of (hs _ _ r4),λl hl'=>?_⟩⟩;exact hk _ _ (Same.put hl') ⟨l,rfl,(λe=>by rw[e,hz]at hl';cases hl'),aA⟩
    ·refine⟨D2,_,rfl,.inl ⟨ai.of hl,λl hl'=>?_⟩⟩
     have tm:(as.map V.ref).length=n:=by rw[aG,W.len]
     rw[tm]at hp;refine k _ _ R ((W.same.trans hs).trans (Same.put hl')) WI.done ⟨l,ys,rfl,aA,Paired.dB hp λi u ⟨b,e,_,q⟩=>⟨b,e,Same.put hl' _ _ q⟩⟩
end
theorem kE{H:Hp}{L:Addr}{xs ys:List V}(hL:H L=some (.lst xs)){ps:List (Nat × Nat)}{us:List V}(h:Paired (ck H) ps us):Paired (ck (upd H L (.lst ys))) ps us:=
 Paired.dB h λ_ _ ⟨t,e,q⟩=>⟨t,e,by rw[aJ (kB q hL (λz=>nomatch z))];exact q⟩
theorem iA{α β:Type}{F:α->β->Prop}:∀{a b:List α} {c d:List β},Paired F a c->Paired F b d->Paired F (a++b) (c++d)
 |_,_,_,_,.nil,h=>h
 |_,_,_,_,.cons r t,h=>.cons r (iA t h)
theorem jN{α β γ:Type}{F:γ->β->Prop}{g:α->γ}:∀{a:List α} {c:List β},Paired (λx y=>F (g x) y) a c->Paired F (a.map g) c
 |_,_,.nil=>.nil
 |_,_,.cons r t=>.cons r (jN t)
theorem kJ{α:Type}(i:Nat)(h:Nat->List α):(List.range (i+1)).flatMap h=(List.range i).flatMap h++h i:=by
 rw[o7,FQ];simp
noncomputable def E_(n:Nat):List (Nat × Nat):=(List.range n).flatMap λl=>(List.range (n - (l+1))).map λj=>(l,l+1+j)
theorem Ld{n:Nat}{p:Nat × Nat}(h:p∈E_ n):p.1<p.2/\p.2<n:=by
 unfold E_ at h;rw[mM]at h;obtain⟨l,hl,h⟩:=h;rw[cu]at h;obtain⟨j,hj,rfl⟩:=h;simp at hl hj ⊢;omega
noncomputable def bw(n:Nat)(R:Nat->Nat->Bool):List (Nat × Nat):=(List.range n).flatMap λl=>((List.range n).filter λh=>!decide (l=h)&&R l h).map λh=>(l,h)
section
variable {P:Program} {w:World} {K:W.Frag} {mg:Str->Option Value} {base:Heap} {f:Addr} {fd:FuncData}
abbrev vO:Stmt:=top 19
theorem Py:aZ ["count","told","low"] ["count"] (aE vO):=⟨rfl,rfl,rfl,by decide +kernel,rfl,by decide +kernel,by decide +kernel⟩
noncomputable def rH:Sp:=λvs H Q _=>∃n:Nat,vs = [.int n]/\n<=24/\∀l us H',Same H H'->H' l=some (.lst us)->Paired (ck H') (E_ n) us->Q (.ref l) H'
theorem Mi (F:aV K "twos" "twos" vO f fd) (T:Txt mg):aN P w K mg base aS 1 f fd ["count"] rH:=by
 refine F.ok Py (λvs H Q E h=>?_) (λcdv A outer s H vs Q E hr h=>?_)
 ·obtain⟨n,rfl,_⟩:=h
  rfl
 ·obtain⟨n,rfl,hn,k⟩:=h
  have nd:=Py.nd;have en:((n:Int)).toNat=n:=bu n;refine⟨_,(au (aQ (i:=1) nd rfl (Or.inl rfl) (dY ag))
   (au (cn b_ rfl (bY rfl T.range (ae (pv 0) ag)) (aW (i:=2) nd rfl (Or.inr rfl))
   (ax (cG (fM (K:=K) rfl gH r9 xM uF (pv 1) (ae (cS (own:=["high"]) (fr:=[("low", 2)]) rfl (bX (aE vO) ["count","told","low"] rfl rfl (by decide +kernel)) (MP rfl T.range (ae (aB cY (pv 2) ak) (ae (pv 0) ag))) (λ_ _ _ _=>⟨(aW (i:=0) (by decide +kernel:(["high","low"]:List Str).Nodup) rfl (Or.inl rfl)),da,(eT (ae (pv 1) (ae (pv 0) ag)))⟩)) ag)))))
   (ax (aX (pv 1))))),?_⟩
  refine⟨by show 0<=sizeLine;decide,λL hL=>?_⟩;refine⟨_,rfl,n,rfl,(a_ (by omega)).1,(a_ (by omega)).2,eu (lo:=0) (n:=((n:Int)).toNat) (λi σ H2=>∃v2 us,σ = [some (.int n),some (.ref L),v2]/\Same H H2/\H2 L=some (.lst us)/\us.length<=24*i /\
   Paired (ck H2) ((List.range i).flatMap λl=>(List.range (n - (l+1))).map λj=>(l,l+1+j)) us) ⟨none,[],rfl,Same.put hL,aA,by simp,.nil⟩ ?_ ?_⟩
  ·rintro i σ H2 hi ⟨v2,us,rfl,s2,hl,hlen,hp⟩
   have hin:i<n:=by omega
   refine⟨_,rfl,.inl ⟨rfl,_,ai.of hl⟩,?_⟩;refine⟨_,rfl,_,_,rfl,rfl,_,rfl,(0+(i:Int)+1),n,rfl,⟨by omega,by omega,by omega,by omega⟩,λD hD=>?_⟩;refine kh (λj v H=>∃t,v = .ref t/\t≠D/\H t=some (.tup [.int i,.int ((i+1+j:Nat):Int)])) src_range hD (cH (by omega)) (λj v H H' s ⟨b,e,hb,q⟩=>⟨b,e,hb,s _ _ hb q⟩) (λj H3 Kt hj hs hy hk=>?_) (λH3 ys hs hl3 hp3=>?_)
   ·obtain⟨zs,hz⟩:=hy
    refine⟨_,rfl,_,rfl,by show 2<=sizeLine;decide,λt ht=>?_⟩;refine hk _ _ (Same.put ht) ⟨t,rfl,(λe=>by rw[e,hz]at ht;cases ht),?_⟩;rw[aA]
    congr 4
    ·omega
    ·congr 1
     push_cast
     omega
   ·have hDL:D≠L:=λe=>by rw[e,hl]at hD;cases hD
    have Aj:ys.length=n - (i+1):=by
     have:=cK hp3;simp at this;omega
    refine⟨L,D,us,ys,rfl,rfl,hs _ _ hl,hl3,by have:=@d4 100000 (by omega);omega,?_⟩;refine⟨_,us++ys,rfl,?_,aA,by rw[cU];omega,?_⟩
    ·intro b o e
     rw[aJ (λz=>by rw[z,hL]at e;cases e)];exact hs _ _ (s2 _ _ e)
    ·rw[kJ]
     refine kE (hs _ _ hl) (iA (c9.same hs hp) (jN ?_));have ec:((n:Int) - (0+(i:Int)+1)).toNat=n - (i+1):=by omega
     rw[ec]at hp3;exact Paired.dB hp3 λj v ⟨t,e,_,q⟩=>⟨t,e,q⟩
  ·rintro σ H2 ⟨v2,us,rfl,s2,hl,hlen,hp⟩
   rw[en]at hp;exact⟨_,rfl,k L us H2 s2 hl hp⟩
abbrev Dr:Stmt:=top 20
theorem Pb:aZ ["count","reach","two"] ["count","reach"] (aE Dr):=⟨rfl,rfl,rfl,by decide +kernel,rfl,by decide +kernel,by decide +kernel⟩
noncomputable def wq:Sp:=λvs H Q _=>∃(n:Nat) (v:V) (R:Nat->Nat->Bool),vs = [.int n,v]/\TT H v n (pN R)/\n<=24/\(∀a b,a<b->b<n->¬ (R a b=true/\R b a=true))/\∀H',Same H H'->Q .non H'
theorem L9 (F:aV K "need_one_way" "need_one_way" Dr f fd) (T:Txt mg) (jw:ao P w K mg base "twos" ["count"] 1 rH):aN P w K mg base aS 2 f fd ["count","reach"] wq:=by
 refine F.ok Pb (λvs H Q E h=>?_) (λcdv A outer s H vs Q E hr h=>?_)
 ·obtain⟨n,v,R,rfl,_⟩:=h
  rfl
 ·obtain⟨n,v,R,rfl,ht,hn,ha,k⟩:=h
  have nd:=Pb.nd;refine⟨_,(ax (cn b_ rfl (eU (K:=K) rfl (aH jw hr rfl (ae (pv 0) ag))) (aW (i:=2) nd rfl (Or.inl rfl))
   (ax (bU (PW.pt (mn (dM (ay (aO (K:=K) rfl) (ay (aO (K:=K) rfl) (pv 1) (ay (aO (K:=K) rfl) (pv 2) ak (λ_ _=>rfl)) (λ_ _=>rfl)) (ay (aO (K:=K) rfl) (pv 2) ak (λ_ _=>rfl)) (λ_ _=>rfl))) (mq (dM (ay (aO (K:=K) rfl) (ay (aO (K:=K) rfl) (pv 1) (ay (aO (K:=K) rfl) (pv 2) ak (λ_ _=>rfl)) (λ_ _=>rfl)) (ay (aO (K:=K) rfl) (pv 2) ak (λ_ _=>rfl)) (λ_ _=>rfl)))))) (ax qW) cq)))),?_⟩
  refine⟨_,rfl,n,rfl,hn,λl us H1 s1 hl hp=>⟨l,rfl,⟨_,ai.of hl⟩,iS (K:=K) (a:=l) (xs:=us) (λi σ H2=>∃v2,σ = [some (.int n),some v,v2]/\Same H1 H2) ⟨none,rfl,Same.refl _⟩ (λi σ H2 _ ⟨_,_,s2⟩=>ai.of (s2 _ _ hl)) ?_ ?_⟩⟩
  ·rintro i y σ H2 hi ⟨v2,rfl,s2⟩
   obtain⟨p,hp1,t,rfl,htt⟩:=eR hp hi;obtain⟨b1,b2⟩:=Ld (cV hp1);obtain⟨a,vs,r1,rfl,q1,q2,q3,q4⟩:=(ht.same (s1.trans s2)).row (show p.1<n by omega);obtain⟨a',vs',r2,e',jQ,oy,qX,BX⟩:=(ht.same (s1.trans s2)).row b2;cases e';rw[q1]at jQ;cases jQ;have jG:=s2 _ _ htt;refine⟨_,rfl,_,rfl,t,_,0,_,rfl,rfl,av.of jG,rfl,a,_,_,_,rfl,rfl,av.of q1,aM q3,_,rfl,t,_,1,_,rfl,rfl,av.of jG,rfl,r1,_,_,_,rfl,rfl,av.of q4,pM b2,_,rfl,bM (λh=>?_) (λh=>?_)⟩
   ·refine⟨_,rfl,_,rfl,t,_,1,_,rfl,rfl,av.of jG,rfl,a,_,_,_,rfl,rfl,av.of q1,aM qX,_,rfl,t,_,0,_,rfl,rfl,av.of jG,rfl,r2,_,_,_,rfl,rfl,av.of BX,pM (show p.1<n by omega),_,rfl,bM (λh'=>?_) (λh'=>?_)⟩
    ·exact absurd ⟨h,h'⟩ (ha _ _ b1 b2)
    ·exact⟨_,rfl,s2⟩
   ·refine cz ?_
    exact⟨_,rfl,s2⟩
  ·rintro σ H2 ⟨v2,rfl,s2⟩
   exact k _ (s1.trans s2)
end
noncomputable def fe(n:Nat)(p:Nat->Bool):List Key:=(List.range n).map λb=>Sum.inl (if p b then 1 else 0)
theorem Bd{n:Nat}{p q:Nat->Bool}(h:fe n p=fe n q):∀b,b<n->p b=q b:=by
 intro b hb;have:=congrArg (λl=>l[b]?) h;simp only[fe,cT,ji hb,GJ,xG,Sum.inl.injEq]at this;cases hp:p b<;>cases hq:q b<;>simp[hp,hq]at this ⊢
theorem Xn{n:Nat}{p q:Nat->Bool}(h:∀b,b<n->p b=q b):fe n p=fe n q:=by
 unfold fe;apply gZ
 intro b hb;rw[h b (by simpa using hb)]
theorem KC(p:Nat->Bool):∀l:List Nat,Bc (l.map λb=>(Sum.inl (if p b then 1 else 0):Key)) (l.map λb=>V.bl (p b))
 | []=>.nil
 |b::r=>.cons (.inr ⟨p b,rfl,rfl⟩) (KC p r)
theorem Qr{H:Hp}{b:Addr}{n:Nat}{p:Nat->Bool}(h:H b=some (.tup (bF n p))):jq H b (fe n p):=⟨_,KC p _,h⟩
noncomputable def gg(n:Nat)(R:Nat->Nat->Bool):Nat->List (List Key × V)
 |0=>[]
 |i+1=>gg n R i++[(fe n (R i),.int i)]
theorem KJ(n:Nat)(R:Nat->Nat->Bool):∀i,(gg n R i).length=i
 |0=>rfl
 |i+1=>by rw[gg,cU,KJ n R i];rfl
theorem X2(l:List (List Key × V)){k k':List Key}{v:V}(e:¬ k'=k)(h:de l k=none):de (l++[(k',v)]) k=none:=by
 induction l with
 |nil=>exact jT (p:=(k',v)) e
 |cons p r ih =>
  rw[List.cons_append]
  by_cases q:p.1=k
  ·rw[kY q]at h;cases h
  ·rw[jT q]at h ⊢;exact ih h
theorem Bg{n:Nat}{R:Nat->Nat->Bool}{k:List Key}:∀{i:Nat},(∀c,c<i->fe n (R c)≠k)->de (gg n R i) k=none
 |0,_=>rfl
 |i+1,h=>by
  have ih:=Bg (n:=n) (R:=R) (k:=k) (i:=i) λc hc=>h c (by omega);have hk:de (gg n R i) k=none:=ih;rw[gg];have e:¬ fe n (R i)=k:=h i (by omega);exact X2 (gg n R i) e hk
theorem KN{n:Nat}{R:Nat->Nat->Bool}(dis:∀i j,i<n->j<n->(∀b,b<n->R i b=R j b)->i=j){c:Nat}(hc:c<n):∀{i:Nat},i<=n->c<i->de (gg n R i) (fe n (R c))=some (.int c)
 |0,_,h=>by omega
 |i+1,hi,h=>by
  rw[gg,Qv _ _ _ _ (Bg λd hd e=>by have:=dis d i (by omega) (by omega) (Bd e);omega)]
  by_cases e:c=i
  ·subst e;rw[aC rfl]
  ·rw[aq (λz=>e (dis c i hc (by omega) (Bd z)))]
   exact KN dis hc (by omega) (by omega)
noncomputable def eI(n:Nat)(R:Nat->Nat->Bool)(a b:Nat):V:=(de (gg n R n) (fe n λx=>R a x&&R b x)).getD .non
theorem gO{n:Nat}{R:Nat->Nat->Bool}(dis:∀i j,i<n->j<n->(∀b,b<n->R i b=R j b)->i=j){a b c:Nat}(hc:c<n)(h:∀x,x<n->R c x=(R a x&&R b x)):eI n R a b = .int c:=by
 unfold eI;rw[<- Xn h,KN dis hc (aY _) hc];rfl
section
variable {P:Program} {w:World} {K:W.Frag} {mg:Str->Option Value} {base:Heap} {f:Addr} {fd:FuncData}
noncomputable def iR(H:Hp)(n:Nat)(R:Nat->Nat->Bool)(us:List V):Prop:=Paired (λi u=>∃b,u = .ref b/\H b=some (.tup (bF n (R i)))) (List.range n) us
theorem iR.same{H H':Hp}{n:Nat}{R:Nat->Nat->Bool}{us:List V}(s:Same H H')(h:iR H n R us):iR H' n R us:=Paired.dB h λ_ _ ⟨b,e,q⟩=>⟨b,e,s _ _ q⟩
theorem iR.len{H:Hp}{n:Nat}{R:Nat->Nat->Bool}{us:List V}(h:iR H n R us):us.length=n:=by simpa using(cK h).symm
theorem iR.get{H:Hp}{n:Nat}{R:Nat->Nat->Bool}{us:List V}(h:iR H n R us){i:Nat}(hi:i<n):∃b,us[i]?=some (.ref b)/\H b=some (.tup (bF n (R i))):=by
 obtain⟨y,h1,b,rfl,h2⟩:=oq (i:=i) (x:=i) h (ji hi);exact⟨b,h1,h2⟩
abbrev vq:Stmt:=top 21
theorem Ob:aZ ["rows","things","thing"] ["rows","things","thing"] (aE vq):=⟨rfl,rfl,rfl,by decide +kernel,rfl,by decide +kernel,by decide +kernel⟩
noncomputable def vU(K:W.Frag):Sp:=λvs H Q _=>∃(c:Bool) (a d t n:Nat) (us:List V) (R:Nat->Nat->Bool) (kvs:List (List Key × V)),vs = [.ref a,.ref d,.int t]/\Sq c K H a us/\iR H n R us/\H d=some (.dT kvs)/\t<n/\n<=24 /\
 ∀l H',Same H H'->H l=none->H' l=some (.tup ((List.range n).map λj=>(de kvs (fe n λb=>R t b&&R j b)).getD .non))->Q (.ref l) H'
theorem LQ (F:aV K "ends_with" "ends_with" vq f fd) (T:Txt mg) (qa:ao P w K mg base "shared" ["one","other"] 1 wB):aN P w K mg base aS 2 f fd ["rows","things","thing"] (vU K):=by
 refine F.ok Ob (λvs H Q E h=>?_) (λcdv A outer s H vs Q E hr h=>?_)
 ·obtain⟨c,a,d,t,n,us,R,kvs,rfl,_⟩:=h
  rfl
 ·obtain⟨c,a,d,t,n,us,R,kvs,rfl,hq,hrow,hd,ht,hn,k⟩:=h
  have nd:=Ob.nd;have hu:=J_ hr;refine⟨_,(ax (aX (jd (lF (K:=K) rfl) rfl T.tuple lC (ae (cS (own:=["row"]) (fr:=[("things", 1),("rows", 0),("thing", 2)]) rfl (bX (aE vq) ["rows","things","thing"] rfl rfl (by decide +kernel)) (ZK (K:=K) c rfl (pv 0)) (λ_ _ _ _=>⟨(aW (i:=0) (by decide +kernel:(["row","things","rows","thing"]:List Str).Nodup) rfl (Or.inl rfl)),da,(Zo hu (pv 1) (aH qa hr rfl (ae (ay (Xf (K:=K) c rfl) (pv 2) (pv 3) (λ_ _=>rfl)) (ae (pv 0) ag))) ⟨rfl,rfl,rfl,rfl⟩)⟩)) ag)))),?_⟩;refine⟨_,rfl,a,rfl,⟨_,hq⟩,λD hD=>fE (λj=>(de kvs (fe n λb=>R t b&&R j b)).getD .non) (aaU hq) hD (cH (by rw[hrow.len];exact hn)) (λi H2 Kt hi hs hk=>?_) (λH' hs hl=>?_)⟩
  ·rw[hrow.len]at hi
   obtain⟨bt,t1,t2⟩:=hrow.get ht;obtain⟨bi,i1,i2⟩:=hrow.get hi;refine⟨_,rfl,d,rfl,.inr ⟨kvs,.inl (hs _ _ hd)⟩,?_⟩;refine⟨_,rfl,_,rfl,a,us,_,_,rfl,rfl,hs.sq hq,aM t1,_,rfl,⟨bt,bi,n,R t,R i,by rw[bh,i1];rfl,hs _ _ t2,hs _ _ i2,hn⟩,λv H3 s3 hv=>?_⟩;obtain⟨b,rfl,q1,q2⟩:=hv bt bi n (R t) (R i) (by rw[bh,i1];rfl) (hs _ _ t2) (hs _ _ i2);exact⟨_,oN.t (s3 _ _ (hs _ _ hd)) (Qr q2),hk _ s3⟩
  ·refine⟨D,_,rfl,.inl ⟨ai.of hl,λl hl'=>?_⟩⟩
   rw[hrow.len];exact k l _ (hs.trans (Same.put hl')) (hs.free hl') aA
abbrev vo:Stmt:=top 22
theorem Oa:aZ ["rows","things","thing","row"] ["rows"] (aE vo):=⟨rfl,rfl,rfl,by decide +kernel,rfl,by decide +kernel,by decide +kernel⟩
noncomputable def vT(K:W.Frag):Sp:=λvs H Q _=>∃(c:Bool) (a n:Nat) (us:List V) (R:Nat->Nat->Bool),vs = [.ref a]/\Sq c K H a us/\iR H n R us/\n<=24/\(∀i j,i<n->j<n->(∀b,b<n->R i b=R j b)->i=j) /\
 ∀v H',Same H H'->TT H' v n (eI n R)->Q v H'
theorem LK (F:aV K "ends_of" "ends_of" vo f fd) (T:Txt mg) (pQ:ao P w K mg base "ends_with" ["rows","things","thing"] 2 (vU K)):aN P w K mg base aS 3 f fd ["rows"] (vT K):=by
 refine F.ok Oa (λvs H Q E h=>?_) (λcdv A outer s H vs Q E hr h=>?_)
 ·obtain⟨c,a,n,us,R,rfl,_⟩:=h
  rfl
 ·obtain⟨c,a,n,us,R,rfl,hq,hrow,hn,dis,k⟩:=h
  have nd:=Oa.nd;have hu:=J_ hr;have hlen:=hrow.len;refine⟨_,(au (aQ (i:=1) nd rfl (Or.inr rfl) Zq)
   (au (cn b_ rfl (uV (K:=K) c rfl rfl T.enumerate (ae (pv 0) ag)) (ou (K:=K) (i:=2) (j:=3) rfl rfl nd rfl rfl rfl rfl)
   (ax (ZP hu (pv 1) (pv 3) (pv 2) rfl)))
   (ax (aX (jd (lF (K:=K) rfl) rfl T.tuple lC (ae (cS (own:=["thing"]) (fr:=[("rows", 0),("things", 1)]) rfl (bX (aE vo) ["rows","things","thing","row"] rfl rfl (by decide +kernel)) (bY rfl T.range (ae (cA (dw (K:=K) rfl) rfl T.len dF (ae (pv 0) ag)) ag)) (λ_ _ _ _=>⟨(aW (i:=0) (by decide +kernel:(["thing","rows","things"]:List Str).Nodup) rfl (Or.inl rfl)),da,(aH pQ hr rfl (ae (pv 1) (ae (pv 2) (ae (pv 0) ag (aF nofun)) (aF nofun)) (aF nofun)))⟩)) ag)))))),?_⟩
  intro d hd;refine⟨_,rfl,a,us,rfl,(Same.put hd).sq hq,zN (K:=K) (c:=c) (l:=a) (xs:=us) (λi σ H2=>∃v2 v3,σ = [some (.ref a),some (.ref d),v2,v3]/\Same H H2/\H2 d=some (.dT (gg n R i))/\i<=n)
   ⟨none,none,rfl,Same.put hd,aA,cW _⟩ (λi σ H2 ⟨_,_,_,s2,_⟩=>s2.sq hq) ?_ ?_⟩
  ·rintro i x σ H2 t hx ht ⟨v2,v3,rfl,s2,h2,hi⟩
   have hin:i<n:=by rw[<- hlen];exact(bD.mp hx).1
   obtain⟨bi,i1,i2⟩:=hrow.get hin;rw[i1]at hx;cases hx;refine⟨t,_,rfl,av.of aA,rfl,_,_,rfl,_,_,rfl,rfl,?_⟩;have hdt:d≠t:=λe=>by rw[<- e,h2]at ht;cases ht
   have h2':(upd H2 t (.tup [.int i,.ref bi])) d=some (.dT (gg n R i)):=by rw[aJ hdt];exact h2
   have i3:(upd H2 t (.tup [.int i,.ref bi])) bi=some (.tup (bF n (R i))):=Same.put ht _ _ (s2 _ _ i2);have hnone:de (gg n R i) (fe n (R i))=none:=Bg λc' hc' e=>by have:=dis c' i (by omega) hin (Bd e);omega
   refine⟨_,rfl,_,rfl,_,rfl,d,_,rfl,oO.t h2' (Qr i3) (by rw[KJ];exact cH (by omega)),?_⟩;refine⟨_,_,rfl,?_,?_,hin⟩
   ·intro b o e
    rw[aJ (λz=>by rw[z,hd]at e;cases e)];exact Same.put ht _ _ (s2 _ _ e)
   ·rw[aA,ZV _ hnone]
    rfl
  ·rintro σ H2 ⟨v2,v3,rfl,s2,h2,hi⟩
   rw[hlen]at h2;have hq2:ai K H2 a us\/av K H2 a us:=by
    have:=s2.sq hq;cases c with
    |true=>exact .inl this
    |false=>exact .inr this
   refine⟨_,rfl,a,us,rfl,hq2,us.length,rfl,(a_ (by omega)).1,(a_ (by omega)).2,λD hD=>?_⟩;rw[hlen];refine kh (λi v H=>∃b,v = .ref b/\b≠D/\H b=some (.tup ((List.range n).map (eI n R i)))) src_range hD (cH (by simpa using hn)) (λi v H H' s ⟨b,e,hb,q⟩=>⟨b,e,hb,s _ _ hb q⟩) (λi H3 Kt hi hs hy hk=>?_) (λH3 ys hs hl hp=>?_)
   ·have hin:i<n:=by simpa using hi
    obtain⟨zs,hz⟩:=hy;refine⟨_,rfl,_,rfl,_,rfl,c,a,d,i,n,us,R,_,by simp,hs.sq (s2.sq hq),(hrow.same s2).same hs,hs _ _ h2,hin,hn,λl H4 s4 h4 q4=>?_⟩;exact hk _ H4 s4 ⟨l,rfl,(λe=>by rw[e,hz]at h4;cases h4),q4⟩
   ·refine⟨D,_,rfl,.inl ⟨ai.of hl,λl hl'=>?_⟩⟩
    have en:((n:Int)).toNat=n:=bu n;rw[en]at hp;exact k _ _ ((s2.trans hs).trans (Same.put hl')) ⟨l,ys,rfl,aA,Paired.dB hp λi u ⟨b,e,_,q⟩=>⟨b,e,Same.put hl' _ _ q⟩⟩
end
theorem dC{α:Type}{n:Nat}{g:Nat->α}{j:Nat}(h:j<n):((List.range n).map g)[j]?=some (g j):=by simp[h]
section
variable {P:Program} {w:World} {K:W.Frag} {mg:Str->Option Value} {base:Heap} {f:Addr} {fd:FuncData}
abbrev Dq:Stmt:=top 23
theorem Pa:aZ ["count","joins","meets","two"] ["count","joins","meets"] (aE Dq):=⟨rfl,rfl,rfl,by decide +kernel,rfl,by decide +kernel,by decide +kernel⟩
noncomputable def wo:Sp:=λvs H Q _=>∃(n:Nat) (v u:V) (g g':Nat->Nat->V),vs = [.int n,v,u]/\TT H v n g/\TT H u n g'/\n<=24/\(∀a b,a<n->b<n->g a b≠.non/\g' a b≠.non)/\∀H',Same H H'->Q .non H'
theorem L8 (F:aV K "need_ends" "need_ends" Dq f fd) (T:Txt mg) (jw:ao P w K mg base "twos" ["count"] 1 rH):aN P w K mg base aS 2 f fd ["count","joins","meets"] wo:=by
 refine F.ok Pa (λvs H Q E h=>?_) (λcdv A outer s H vs Q E hr h=>?_)
 ·obtain⟨n,v,u,g,g',rfl,_⟩:=h
  rfl
 ·obtain⟨n,v,u,g,g',rfl,ht,ht',hn,ha,k⟩:=h
  have nd:=Pa.nd;refine⟨_,(ax (cn b_ rfl (eU (K:=K) rfl (aH jw hr rfl (ae (pv 0) ag))) (aW (i:=3) nd rfl (Or.inl rfl))
   (ax (bU (PW.pt (mv (bV By (ay (aO (K:=K) rfl) (ay (aO (K:=K) rfl) (pv 1) (ay (aO (K:=K) rfl) (pv 3) ak (λ_ _=>rfl)) (λ_ _=>rfl)) (ay (aO (K:=K) rfl) (pv 3) ak (λ_ _=>rfl)) (λ_ _=>rfl)) uU (bN _)) (mw (bV By (ay (aO (K:=K) rfl) (ay (aO (K:=K) rfl) (pv 2) (ay (aO (K:=K) rfl) (pv 3) ak (λ_ _=>rfl)) (λ_ _=>rfl)) (ay (aO (K:=K) rfl) (pv 3) ak (λ_ _=>rfl)) (λ_ _=>rfl)) uU (bN _))))) (ax qW) cq)))),?_⟩
  refine⟨_,rfl,n,rfl,hn,λl us H1 s1 hl hp=>⟨l,rfl,⟨_,ai.of hl⟩,iS (K:=K) (a:=l) (xs:=us) (λi σ H2=>∃v2,σ = [some (.int n),some v,some u,v2]/\Same H1 H2) ⟨none,rfl,Same.refl _⟩ (λi σ H2 _ ⟨_,_,s2⟩=>ai.of (s2 _ _ hl)) ?_ ?_⟩⟩
  ·rintro i y σ H2 hi ⟨v2,rfl,s2⟩
   obtain⟨p,hp1,t,rfl,htt⟩:=eR hp hi;obtain⟨b1,b2⟩:=Ld (cV hp1);have hp0:p.1<n:=by omega
   obtain⟨a,vs,r1,rfl,q1,q2,q3,q4⟩:=(ht.same (s1.trans s2)).row hp0;obtain⟨a',vs',r2,rfl,jQ,oy,qX,BX⟩:=(ht'.same (s1.trans s2)).row hp0;have jG:=s2 _ _ htt;obtain⟨n1,n2⟩:=ha _ _ hp0 b2;refine⟨_,rfl,_,rfl,t,_,0,_,rfl,rfl,av.of jG,rfl,a,_,_,_,rfl,rfl,av.of q1,aM q3,_,rfl,t,_,1,_,rfl,rfl,av.of jG,rfl,r1,_,_,_,rfl,rfl,av.of q4,pM b2,rfl,_,rfl,?_⟩;rw[fH n1];refine cz ?_;refine⟨_,rfl,_,rfl,t,_,0,_,rfl,rfl,av.of jG,rfl,a',_,_,_,rfl,rfl,av.of jQ,aM qX,_,rfl,t,_,1,_,rfl,rfl,av.of jG,rfl,r2,_,_,_,rfl,rfl,av.of BX,pM b2,rfl,_,rfl,?_⟩;rw[fH n2];refine cz ?_;exact⟨_,rfl,s2⟩
  ·rintro σ H2 ⟨v2,rfl,s2⟩
   exact k _ (s1.trans s2)
abbrev vH:Stmt:=top 24
theorem Pl:aZ ["count","reach","told","low"] ["count","reach"] (aE vH):=⟨rfl,rfl,rfl,by decide +kernel,rfl,by decide +kernel,by decide +kernel⟩
noncomputable def j8(H:Hp)(v:V)(ps:List (Nat × Nat)):Prop:=∃a us,v = .ref a/\H a=some (.tup us)/\Paired (ck H) ps us
theorem j8.same{H H':Hp}{v:V}{ps:List (Nat × Nat)}(s:Same H H')(h:j8 H v ps):j8 H' v ps:=let⟨a,us,e,q,r⟩:=h;⟨a,us,e,s _ _ q,c9.same s r⟩
noncomputable def wz:Sp:=λvs H Q _=>∃(n:Nat) (v:V) (R:Nat->Nat->Bool),vs = [.int n,v]/\TT H v n (pN R)/\n<=24/\∀u H',Same H H'->j8 H' u (bw n R)->Q u H'
theorem Mf (F:aV K "pairs_of" "pairs_of" vH f fd) (T:Txt mg):aN P w K mg base aS 1 f fd ["count","reach"] wz:=by
 refine F.ok Pl (λvs H Q E h=>?_) (λcdv A outer s H vs Q E hr h=>?_)
 ·obtain⟨n,v,R,rfl,_⟩:=h
  rfl
 ·obtain⟨n,v,R,rfl,ht,hn,k⟩:=h
  have nd:=Pl.nd;have en:((n:Int)).toNat=n:=bu n;refine⟨_,(au (aQ (i:=2) nd rfl (Or.inl rfl) (dY ag))
   (au (cn b_ rfl (bY rfl T.range (ae (pv 0) ag)) (aW (i:=3) nd rfl (Or.inr rfl))
   (ax (cG (fM (K:=K) rfl gH r9 xM uF (pv 2) (ae (cS (own:=["high"]) (fr:=[("low", 3),("reach", 1)]) rfl (bX (aE vH) ["count","reach","told","low"] rfl rfl (by decide +kernel)) (bY rfl T.range (ae (pv 0) ag)) (λ_ _ _ _=>⟨(aW (i:=0) (by decide +kernel:(["high","low","reach"]:List Str).Nodup) rfl (Or.inl rfl)),(ox (PW.pt (mn (bV ja (pv 1) (pv 0) (bN _)) (mq (dM (ay (aO (K:=K) rfl) (ay (aO (K:=K) rfl) (pv 2) (pv 1) (λ_ _=>rfl)) (pv 0) (λ_ _=>rfl))))))),(eT (ae (pv 1) (ae (pv 0) ag)))⟩)) ag)))))
   (ax (aX (jd (lF (K:=K) rfl) rfl T.tuple lC (ae (pv 2) ag)))))),?_⟩
  refine⟨by show 0<=sizeLine;decide,λL hL=>?_⟩;refine⟨_,rfl,n,rfl,(a_ (by omega)).1,(a_ (by omega)).2,eu (lo:=0) (n:=((n:Int)).toNat) (λi σ H2=>∃v3 us,σ = [some (.int n),some v,some (.ref L),v3]/\Same H H2/\H2 L=some (.lst us)/\us.length<=24*i /\
   Paired (ck H2) ((List.range i).flatMap λl=>((List.range n).filter λh=>!decide (l=h)&&R l h).map λh=>(l,h)) us) ⟨none,[],rfl,Same.put hL,aA,by simp,.nil⟩ ?_ ?_⟩
  ·rintro i σ H2 hi ⟨v3,us,rfl,s2,hl,hlen,hp⟩
   have hin:i<n:=by omega
   refine⟨_,rfl,.inl ⟨rfl,_,ai.of hl⟩,?_⟩;refine⟨_,rfl,n,rfl,(a_ (by omega)).1,(a_ (by omega)).2,λD hD=>?_⟩;refine qe (λj=>!decide (i=j)&&R i j) (λj v H=>∃t,v = .ref t/\t≠D/\H t=some (.tup [.int i,.int (j:Int)])) src_range hD (cH (by omega)) (λj v H H' s ⟨b,e,hb,q⟩=>⟨b,e,hb,s _ _ hb q⟩) (λj H3 Kt Kf hj hs hy hkt hkf=>?_) (λH3 ys hs hl3 hp3=>?_)
   ·have hjn:j<n:=by omega
    obtain⟨zs,hz⟩:=hy;obtain⟨a,vs,r1,rfl,q1,q2,q3,q4⟩:=(ht.same (s2.trans hs)).row hin;refine⟨_,rfl,_,rfl,rfl,_,rfl,?_⟩;have ed:(!decide (V.int (0+(i:Int))=V.int (0+(j:Int)))) = !decide (i=j):=by
     congr 1
     rw[dg];exact yI
    rw[ed];refine bM (λh=>?_) (λh=>?_)
    ·refine⟨_,rfl,_,rfl,a,_,_,_,rfl,rfl,av.of q1,at0 q3,_,rfl,r1,_,_,_,rfl,rfl,av.of q4,at0 (dC hjn),_,rfl,bM (λh'=>?_) (λh'=>?_)⟩
     ·refine⟨_,rfl,_,rfl,by show 2<=sizeLine;decide,λt ht=>?_⟩
      refine hkt _ _ (by rw[h,h',dU]) (Same.put ht) ⟨t,rfl,(λe=>by rw[e,hz]at ht;cases ht),?_⟩;rw[aA,dg,dg]
     ·exact hkf _ (by rw[h,dU];simpa using h') (Same.refl _)
    ·refine cz ?_
     have h2:(!decide (i=j))=false:=by simpa using h
     exact hkf _ (by rw[h2,gX]) (Same.refl _)
   ·have hDL:D≠L:=λe=>by rw[e,hl]at hD;cases hD
    rw[en]at hp3;have Aj:ys.length<=n:=by
     have h1:=cK hp3;have h2:=iI (λj=>!decide (i=j)&&R i j) (List.range n);rw[dh]at h2;omega
    refine⟨L,D,us,ys,rfl,rfl,hs _ _ hl,hl3,by have:=@d4 100000 (by omega);omega,?_⟩;refine⟨_,us++ys,rfl,?_,aA,by rw[cU];omega,?_⟩
    ·intro b o e
     rw[aJ (λz=>by rw[z,hL]at e;cases e)];exact hs _ _ (s2 _ _ e)
    ·rw[kJ]
     refine kE (hs _ _ hl) (iA (c9.same hs hp) (jN ?_));exact Paired.dB hp3 λj v ⟨t,e,_,q⟩=>⟨t,e,q⟩
  ·rintro σ H2 ⟨v2,us,rfl,s2,hl,hlen,hp⟩
   rw[en]at hp;refine⟨_,rfl,L,us,rfl,.inl ⟨ai.of hl,λl hl'=>?_⟩⟩;exact k _ _ (s2.trans (Same.put hl')) ⟨l,us,rfl,aA,c9.same (Same.put hl') hp⟩
end
structure Good (n:Nat) (R:Nat->Nat->Bool):Prop where
 refl:∀a,a<n->R a a=true
 anti:∀a b,a<n->b<n->R a b=true->R b a=true->a=b
 join:∀a b,a<n->b<n->∃c,c<n/\∀x,x<n->R c x=(R a x&&R b x)
 meet:∀a b,a<n->b<n->∃c,c<n/\∀x,x<n->R x c=(R x a&&R x b)
theorem Good.dis{n:Nat}{R:Nat->Nat->Bool}(G:Good n R):∀i j,i<n->j<n->(∀b,b<n->R i b=R j b)->i=j:=λi j hi hj h =>
 G.anti i j hi hj (by rw[h j hj];exact G.refl j hj) (by rw[<- h i hi];exact G.refl i hi)
theorem Good.ki{n:Nat}{R:Nat->Nat->Bool}(G:Good n R):∀i j,i<n->j<n->(∀b,b<n->R b i=R b j)->i=j:=λi j hi hj h =>
 G.anti i j hi hj (by rw[<- h i hi];exact G.refl i hi) (by rw[h j hj];exact G.refl j hj)
noncomputable def dH (n:Nat) (vp vr vj vm:V):List (Str × V):=bR "meets" vm (bR "joins" vj (bR "reach" vr (bR "pairs" vp (bR "count" (.int n) []))))
noncomputable def cN(C:Addr)(H:Hp)(p n:Nat)(R:Nat->Nat->Bool):Prop:=∃dx vp vr vj vm,H p=some (.ins C dx (dH n vp vr vj vm))/\j8 H vp (bw n R)/\TT H vr n (pN R)/\TT H vj n (eI n R)/\TT H vm n (eI n λa b=>R b a)
structure cD (K:W.Frag) (C:Addr):Prop where
 cl:Cls K C
 nC:hW K C "count"
 nP:hW K C "pairs"
 nR:hW K C "reach"
 nJ:hW K C "joins"
 nM:hW K C "meets"
theorem TT.ins{H:Hp}{p C dx:Addr}{fs:List (Str × V)}{o:HO}(hp:H p=some (.ins C dx fs)){v:V}{n:Nat}{g:Nat->Nat->V}(h:TT H v n g):TT (upd H p o) v n g:=
 let⟨a,vs,e,q,r⟩:=h
 ⟨a,vs,e,by rw[aJ (kB q hp (λz=>nomatch z))];exact q,Paired.dB r λ_ _ ⟨b,e,q⟩=>⟨b,e,by rw[aJ (kB q hp (λz=>nomatch z))];exact q⟩⟩
theorem j8.ins{H:Hp}{p C dx:Addr}{fs:List (Str × V)}{o:HO}(hp:H p=some (.ins C dx fs)){v:V}{ps:List (Nat × Nat)}(h:j8 H v ps):j8 (upd H p o) v ps:=
 let⟨a,vs,e,q,r⟩:=h
 ⟨a,vs,e,by rw[aJ (kB q hp (λz=>nomatch z))];exact q,Paired.dB r λ_ _ ⟨b,e,q⟩=>⟨b,e,by rw[aJ (kB q hp (λz=>nomatch z))];exact q⟩⟩
section
variable {P:Program} {w:World} {K:W.Frag} {mg:Str->Option Value} {base:Heap} {f:Addr} {fd:FuncData}
abbrev vg:Stmt:=inClass (top 25) 0
theorem N0:aZ ["self","count","pairs","reach","joins","meets"] ["self","count","pairs"] (aE vg):=⟨rfl,rfl,rfl,by decide +kernel,rfl,by decide +kernel,by decide +kernel⟩
noncomputable def oC(K:W.Frag)(C:Addr):Sp:=λvs H Q _=>∃(p dx n a:Nat) (ps:List (Nat × Nat)),vs = [.ref p,.int n,.ref a]/\H p=some (.ins C dx [])/\mQ K H a ps/\1<=n/\n<=24/\(∀p∈ps,p.1<n/\p.2<n)/\(∀R,Ev.jY n ps R->Good n R) /\
 ∀H' R,(∀b o,H b=some o->b≠p->H' b=some o)->Ev.jY n ps R->cN C H' p n R->Q .non H'
theorem LR {C:Addr} (F:aV K "__init__" "Order.__init__" vg f fd) (T:Txt mg) (TC:cD K C)
  (kg:ao P w K mg base "need_count" ["count"] 2 rG) (p7:ao P w K mg base "need_pairs" ["count","pairs"] 4 (wt K)) (p_:ao P w K mg base "reach_of" ["count","pairs"] 2 (wA K))
  (pZ:ao P w K mg base "need_one_way" ["count","reach"] 2 wq) (m5:ao P w K mg base "ends_of" ["rows"] 3 (vT K)) (pO:ao P w K mg base "column" ["rows","place"] 1 vP)
  (pX:ao P w K mg base "need_ends" ["count","joins","meets"] 2 wo) (p9:ao P w K mg base "pairs_of" ["count","reach"] 1 wz):aN P w K mg base aS 5 f fd ["self","count","pairs"] (oC K C):=by
 refine F.ok N0 (λvs H Q E h=>?_) (λcdv A outer s H vs Q E hr h=>?_)
 ·obtain⟨p,dx,n,a,ps,rfl,_⟩:=h
  rfl
 ·obtain⟨p,dx,n,a,ps,rfl,hp,hps,h1,hn,hb,hg,k⟩:=h
  have nd:=N0.nd;have en:((n:Int)).toNat=n:=bu n;refine⟨_,(au (cG (aH kg hr rfl (ae (pv 1) ag)))
   (au (cG (aH p7 hr rfl (ae (pv 1) (ae (pv 2) ag))))
   (au (aQ (i:=3) nd rfl (Or.inr rfl) (aH p_ hr rfl (ae (pv 1) (ae (pv 2) ag))))
   (au (cG (aH pZ hr rfl (ae (pv 1) (ae (pv 3) ag))))
   (au (aQ (i:=4) nd rfl (Or.inl rfl) (aH m5 hr rfl (ae (pv 3) ag)))
   (au (aQ (i:=5) nd rfl (Or.inl rfl) (aH m5 hr rfl (ae (cS (own:=["thing"]) (fr:=[("reach", 3)]) rfl (bX (aE vg) ["self","count","pairs","reach","joins","meets"] rfl rfl (by decide +kernel)) (bY rfl T.range (ae (pv 1) ag)) (λ_ _ _ _=>⟨(aW (i:=0) (by decide +kernel:(["thing","reach"]:List Str).Nodup) rfl (Or.inl rfl)),da,(aH pO hr rfl (ae (pv 1) (ae (pv 0) ag)))⟩)) ag)))
   (au (cG (aH pX hr rfl (ae (pv 1) (ae (pv 4) (ae (pv 5) ag (aF nofun)) (aF nofun)) (aF nofun))))
   (au (qV (K:=K) rfl (pv 0) (pv 1) rfl)
   (au (qV (K:=K) rfl (pv 0) (aH p9 hr rfl (ae (pv 1) (ae (pv 3) ag))) rfl)
   (au (qV (K:=K) rfl (pv 0) (pv 3) rfl)
   (au (qV (K:=K) rfl (pv 0) (pv 4) rfl)
   (ax (qV (K:=K) rfl (pv 0) (pv 5) rfl))))))))))))),?_⟩
  refine⟨_,rfl,⟨n,rfl,by omega,by omega⟩,λv1 H1 s1 _=>?_⟩;refine⟨_,rfl,_,rfl,⟨n,a,ps,rfl,hps.same s1,hb⟩,λv2 H2 s2 _=>?_⟩;have bS:=s1.trans s2;refine⟨_,rfl,_,rfl,n,a,ps,rfl,hps.same bS,hn,hb,λvr H3 R s3 hC ht=>?_⟩;have G:=hg R hC;refine⟨_,rfl,_,rfl,n,vr,R,rfl,ht,hn,λx y hx hy ⟨h1,h2⟩=>absurd (G.anti x y (by omega) hy h1 h2) (by omega),λH4 s4=>?_⟩;obtain⟨ra,us,rfl,q1,q2⟩:=id (ht.same s4);refine⟨_,rfl,false,ra,n,us,R,rfl,av.of q1,q2,hn,G.dis,λvj H5 s5 htj=>?_⟩;refine⟨_,rfl,n,rfl,(a_ (by omega)).1,(a_ (by omega)).2,λD hD=>?_⟩;refine kh (λi v H=>∃b,v = .ref b/\b≠D/\H b=some (.tup (bF n λj=>R j i))) src_range hD (cH (by omega)) (λi v H H' s ⟨b,e,hb,q⟩=>⟨b,e,hb,s _ _ hb q⟩) (λi H6 Kt hi hs hy hk=>?_) (λH6 ys hs hl uj=>?_)
  ·obtain⟨zs,hz⟩:=hy
   have hin:i<n:=by omega
   have J3:=((ht.same s4).same s5).same hs;refine⟨_,rfl,_,rfl,⟨_,n,i,_,by simp,J3,hin,hn⟩,λv H7 s7 hv=>?_⟩;obtain⟨b,rfl,b1,b2⟩:=hv _ n i _ (by simp) J3 hin;exact hk _ H7 s7 ⟨b,rfl,(λe=>by rw[e,hz]at b1;cases b1),b2⟩
  rw[en]at uj;have aao:iR H6 n (λa b=>R b a) ys:=Paired.dB uj λi u ⟨b,e,_,q⟩=>⟨b,e,q⟩;refine⟨true,D,n,ys,_,rfl,ai.of hl,aao,hn,G.ki,λvm H7 s7 J7=>?_⟩;have J6:=(htj.same hs).same s7;have eB:Same H H7:=((((bS.trans s3).trans s4).trans s5).trans hs).trans s7;refine⟨_,rfl,_,rfl,_,rfl,n,vj,vm,_,_,rfl,J6,J7,hn,λx y hx hy=>?_,λH8 s8=>?_⟩
  ·obtain⟨c,hc,hj⟩:=G.join x y hx hy
   obtain⟨d,hd,hm⟩:=G.meet x y hx hy;rw[gO G.dis hc hj,gO G.ki hd hm];exact⟨(λz=>nomatch z),(λz=>nomatch z)⟩
  have iE:=eB.trans s8;have hp8:H8 p=some (.ins C dx []):=iE _ _ hp;have J8:TT H8 (.ref ra) n (pN R):=((((ht.same s4).same s5).same hs).same s7).same s8;refine⟨_,rfl,_,rfl,p,C,dx,[],rfl,hp8,TC.cl,TC.nC,by show 0<1000;decide,?_⟩;refine⟨_,rfl,_,rfl,n,_,R,rfl,J8.ins hp8,hn,λvp H9 s9 hpp=>?_⟩;have hp9:=s9 _ _ (aA (H:=H8) (a:=p) (o:=.ins C dx (bR "count" (.int n) [])));have Wv:=(J8.ins hp8 (o:=.ins C dx (bR "count" (.int n) []))).same s9;have Wq:=((J6.same s8).ins hp8 (o:=.ins C dx (bR "count" (.int n) []))).same s9;have Wr:=((J7.same s8).ins hp8 (o:=.ins C dx (bR "count" (.int n) []))).same s9;have l1:(bR "count" (V.int n) []).length<=1:=og _ _ _;have l2:(bR "pairs" vp (bR "count" (V.int n) [])).length<=2:=di (og _ _ _) (by omega);have l3:(bR "reach" (V.ref ra) (bR "pairs" vp (bR "count" (V.int n) []))).length<=3:=di (og _ _ _) (by omega);have l4:(bR "joins" vj (bR "reach" (V.ref ra) (bR "pairs" vp (bR "count" (V.int n) [])))).length<=4:=di (og _ _ _) (by omega);refine⟨_,rfl,p,C,dx,_,rfl,hp9,TC.cl,TC.nP,by omega,?_⟩;refine⟨_,rfl,_,rfl,p,C,dx,_,rfl,aA,TC.cl,TC.nR,by omega,?_⟩;refine⟨_,rfl,_,rfl,p,C,dx,_,rfl,aA,TC.cl,TC.nJ,by omega,?_⟩;refine⟨_,rfl,_,rfl,p,C,dx,_,rfl,aA,TC.cl,TC.nM,by omega,?_⟩;rw[Fd,Fd,Fd];refine k _ R (λb o e Ju=>?_) hC ⟨dx,vp,_,vj,vm,aA,hpp.ins hp9,Wv.ins hp9,Wq.ins hp9,Wr.ins hp9⟩;rw[aJ Ju];refine s9 _ _ ?_;rw[aJ Ju];exact iE _ _ e
end
structure k6 (P:Program) (w:World) (K:W.Frag) (mg:Str->Option Value) (base:Heap) (C:Addr) (x:Str) (ps:List Str) (k:Nat) (sp:Sp):Prop where
 ex:∃(f:Addr) (fd:FuncData),aN P w K mg base aS k f fd ps sp/\Mk K C f/\mg x=some (.ref C)/\Binds K fd ps []
section
variable {X:Cx} {C:Addr} {x:Str} {ps:List Str} {k k':Nat} {sp:Sp} {e:Expr} {es:List Expr} {t:TA} {p pos:Pos}
theorem uT (c:k6 X.prog X.w X.K X.mg X.base C x ps k sp) (hr:bK k' X.A) (hg:Gl X x) (ha:PA X (e::es) t) (hk:k+1<=k':=by decide) (hdb:(x==("__debug__" : Str))=false:=by decide)
  (he:starEach (e::es) X.env=(false,eval e X.env)::starEach es X.env:=by rfl) (hpl:(backTo pos (starEach es X.env)).any (·.1)=false:=by rfl):PE X (.Call (.Name x p) (e::es) [] pos) (Ql C sp [] E0 t):=by
 obtain⟨f,fd,F,M,hm,b⟩:=c.ex;exact Zu M F (hr.mono hk) hg hm b .nil ot ha hdb he hpl
end
structure aD (K:W.Frag) (x:Str) (st:Stmt):Prop where
 ex:∃(f:Addr) (fd:FuncData),W.nsIn K mainGlobals x=some (some (.ref f))/\aV K x x st f fd
theorem aD.mk'{K:W.Frag}{x:Str}{st:Stmt}{f:Addr}{oc:Value}{od an:Option Addr}{osl:Array (Option Value)}{kV doc pm cdv ct:Value}(a:W.nsIn K mainGlobals x=some (some (.ref f)))
  (l:K.lookup f=some ⟨oc,od,.func (W.fnOf x x (ik st) (fZ st) (aE st) .none kV doc pm an cdv ct),osl⟩) (c:W.codeIn K cdv x=true) (k:W.keepIn K (.ref f)=true):aD K x st:=⟨f,_,a,zP l c k⟩
abbrev Fp (x:Str) (st:Stmt) (ps:List Str):Prop:=∀(kV doc pm:Value) (an:Option Addr) (cdv ct:Value) (us:List Value),us.length=ps.length->bindArgs (W.fnOf x x (ik st) (fZ st) (aE st) .none kV doc pm an cdv ct) ⟨us,[]⟩=pure (ps.zip us)
theorem aD.cal{P:Program}{w:World}{K:W.Frag}{mg:Str->Option Value}{base h:Heap}{x:Str}{st:Stmt}{ps:List Str}{k:Nat}{sp:Sp}(A:aD K x st)(X:K.In h)(G:h.Ns mainGlobals mg)(hb:Fp x st ps)(ok:∀{f:Addr} {fd:FuncData},aV K x x st f fd->aN P w K mg base aS k f fd ps sp):ao P w K mg base x ps k sp:=by
 obtain⟨f,fd,a,F⟩:=A.ex;exact⟨f,fd,ok F,W.mg_of X G a,F.kp,F.binds hb⟩
structure ClsAt (K:W.Frag) (x qual:Str) (st:Stmt) (C:Addr):Prop where
 ns:W.nsIn K mainGlobals x=some (some (.ref C))
 cl:Cls K C
 ex:∃(f:Addr) (fd:FuncData),aV K "__init__" qual st f fd/\Mk K C f
theorem ClsAt.mk'{K:W.Frag}{x qual:Str}{st:Stmt}{C f:Addr}{oc:Value}{od an:Option Addr}{osl:Array (Option Value)}{kV doc pm cdv ct:Value}(ns:W.nsIn K mainGlobals x=some (some (.ref C)))
  (pg:W.plainGet K C Str.empty=true) (hd:W.hasDictIn K C=true) (po:W.plainOver K C=true) (sa:W.findIn K (.ref C) "__setattr__" = some (some (.builtin "object.__setattr__"))) (mk:W.makesIn K C=true) (kc:W.keepIn K (.ref C)=true)
  (a:W.findIn K (.ref C) "__init__" = some (some (.ref f))) (i:W.isFn K (.ref f)=true)
  (l:K.lookup f=some ⟨oc,od,.func (W.fnOf "__init__" qual (ik st) (fZ st) (aE st) .none kV doc pm an cdv ct),osl⟩) (c:W.codeIn K cdv qual=true) (k:W.keepIn K (.ref f)=true):ClsAt K x qual st C:=
 ⟨ns,⟨pg,hd,po,sa⟩,f,_,zP l c k,⟨mk,a,i,kc⟩⟩
theorem ClsAt.cal{P:Program}{w:World}{K:W.Frag}{mg:Str->Option Value}{base h:Heap}{x qual:Str}{st:Stmt}{C:Addr}{ps:List Str}{k:Nat}{sp:Sp}(A:ClsAt K x qual st C)(X:K.In h)(G:h.Ns mainGlobals mg)
  (hb:∀(kV doc pm:Value) (an:Option Addr) (cdv ct:Value) (us:List Value),us.length=ps.length->bindArgs (W.fnOf "__init__" qual (ik st) (fZ st) (aE st) .none kV doc pm an cdv ct) ⟨us,[]⟩=pure (ps.zip us))
  (ok:∀{f:Addr} {fd:FuncData},aV K "__init__" qual st f fd->aN P w K mg base aS k f fd ps sp):k6 P w K mg base C x ps k sp:=by
 obtain⟨f,fd,F,M⟩:=A.ex;exact⟨f,fd,ok F,M,W.mg_of X G A.ns,F.binds hb⟩
structure mV (K:W.Frag):Prop where
 len:W.nsIn K mainGlobals "len" = some none
 range:W.nsIn K mainGlobals "range" = some none
 zip:W.nsIn K mainGlobals "zip" = some none
 enumerate:W.nsIn K mainGlobals "enumerate" = some none
 tuple:W.nsIn K mainGlobals "tuple" = some none
 list:W.nsIn K mainGlobals "list" = some none
 int:W.nsIn K mainGlobals "int" = some none
 bool:W.nsIn K mainGlobals "bool" = some none
 str:W.nsIn K mainGlobals "str" = some none
 isinstance:W.nsIn K mainGlobals "isinstance" = some none
 sum:W.nsIn K mainGlobals "sum" = some none
 any:W.nsIn K mainGlobals "any" = some none
 all:W.nsIn K mainGlobals "all" = some none
 sorted:W.nsIn K mainGlobals "sorted" = some none
 min:W.nsIn K mainGlobals "min" = some none
 max:W.nsIn K mainGlobals "max" = some none
 most:∃t,W.nsIn K mainGlobals "MOST_THINGS" = some (some (.int 24 t))
theorem mV.txt{K:W.Frag}{mg:Str->Option Value}{h:Heap}(A:mV K)(X:K.In h)(G:h.Ns mainGlobals mg):Txt mg:=
 ⟨W.mg_none_of X G A.len,W.mg_none_of X G A.range,W.mg_none_of X G A.zip,W.mg_none_of X G A.enumerate,W.mg_none_of X G A.tuple,W.mg_none_of X G A.list,W.mg_none_of X G A.int,W.mg_none_of X G A.bool,W.mg_none_of X G A.str,
  W.mg_none_of X G A.isinstance,W.mg_none_of X G A.sum,W.mg_none_of X G A.any,W.mg_none_of X G A.all,W.mg_none_of X G A.sorted,W.mg_none_of X G A.min,W.mg_none_of X G A.max,let⟨t,e⟩:=A.most;⟨t,W.mg_of X G e⟩⟩
theorem mV.mk' {K:W.Frag} {t:Tok} (l1:W.nsIn K mainGlobals "len" = some none) (l2:W.nsIn K mainGlobals "range" = some none) (l3:W.nsIn K mainGlobals "zip" = some none) (l4:W.nsIn K mainGlobals "enumerate" = some none)
  (l5:W.nsIn K mainGlobals "tuple" = some none) (l6:W.nsIn K mainGlobals "list" = some none) (l7:W.nsIn K mainGlobals "int" = some none) (l8:W.nsIn K mainGlobals "bool" = some none) (l9:W.nsIn K mainGlobals "str" = some none)
  (l10:W.nsIn K mainGlobals "isinstance" = some none) (Bh:W.nsIn K mainGlobals "sum" = some none) (qA:W.nsIn K mainGlobals "any" = some none) (Bi:W.nsIn K mainGlobals "all" = some none) (qB:W.nsIn K mainGlobals "sorted" = some none) (Bj:W.nsIn K mainGlobals "min" = some none) (Bk:W.nsIn K mainGlobals "max" = some none) (m:W.nsIn K mainGlobals "MOST_THINGS" = some (some (.int 24 t))):mV K:=⟨l1,l2,l3,l4,l5,l6,l7,l8,l9,l10,Bh,qA,Bi,qB,Bj,Bk,t,m⟩
theorem TT.get{H:Hp}{v:V}{n:Nat}{g:Nat->Nat->V}(h:TT H v n g){i:Nat}(hi:i<n):∃a vs b,v = .ref a/\H a=some (.tup vs)/\vs[i]?=some (.ref b)/\H b=some (.tup ((List.range n).map (g i))):=by
 obtain⟨a,vs,e,q,r⟩:=h;have hl:vs.length=n:=by have:=cK r;simpa using this.symm
 obtain⟨x,hx,b,eb,qb⟩:=eR r (show vs[i]?=some vs[i]from aI (by omega));have:x=i:=by
  rw[ji hi]at hx;cases hx;rfl
 subst this;exact⟨a,vs,b,e,q,by rw[aI (by omega),eb],qb⟩
theorem jy (n:Nat) (vp vr vj vm:V):(dH n vp vr vj vm).lookup ("reach" : Str)=some vr:=by
 unfold dH;rw[cQ,aq (by decide +kernel),cQ,aq (by decide +kernel),cQ,aC rfl]
theorem cX (n:Nat) (vp vr vj vm:V):(dH n vp vr vj vm).lookup ("count" : Str)=some (.int n):=by
 unfold dH;rw[cQ,aq (by decide +kernel),cQ,aq (by decide +kernel),cQ,aq (by decide +kernel),cQ,aq (by decide +kernel),cQ,aC rfl]
theorem Je (n:Nat) (vp vr vj vm:V):(dH n vp vr vj vm).lookup ("pairs" : Str)=some vp:=by
 unfold dH;rw[cQ,aq (by decide +kernel),cQ,aq (by decide +kernel),cQ,aq (by decide +kernel),cQ,aC rfl]
theorem cN.bx{C:Addr}{H H':Hp}{p n:Nat}{R:Nat->Nat->Bool}(s:Same H H')(h:cN C H p n R):cN C H' p n R:=by
 obtain⟨dx,vp,vr,vj,vm,a,b,c,d,e⟩:=h;exact⟨dx,vp,vr,vj,vm,s _ _ a,b.same s,c.same s,d.same s,e.same s⟩
noncomputable def c5(R:Nat->Nat->Bool)(a b:Nat):Bool:=!decide (a=b)&&R a b
noncomputable def bz(n:Nat)(R:Nat->Nat->Bool)(a b:Nat):Bool:=c5 R a b&&!(List.range n).any λt=>c5 R a t&&c5 R t b
section
variable {P:Program} {w:World} {K:W.Frag} {mg:Str->Option Value} {base:Heap} {f:Addr} {fd:FuncData}
abbrev CW:Stmt:=top 34
theorem Oi:aZ ["order","a","b"] ["order","a","b"] (aE CW):=⟨rfl,rfl,rfl,by decide +kernel,rfl,by decide +kernel,by decide +kernel⟩
noncomputable def DW(C:Addr):Sp:=λvs H Q _=>∃(p n a b:Nat) (R:Nat->Nat->Bool),vs = [.ref p,.int a,.int b]/\cN C H p n R/\a<n/\b<n/\∀H',Same H H'->Q (.bl (c5 R a b)) H'
theorem YD {C:Addr} (F:aV K "is_below" "is_below" CW f fd) (T:Txt mg) (TC:cD K C):aN P w K mg base aS 1 f fd ["order","a","b"] (DW C):=by
 refine F.ok Oi (λvs H Q E h=>?_) (λcdv A outer s H vs Q E hr h=>?_)
 ·obtain⟨p,n,a,b,R,rfl,_⟩:=h
  rfl
 ·obtain⟨p,n,a,b,R,rfl,hO,ha,hb,kk⟩:=h
  have nd:=Oi.nd;refine⟨_,(ax (aX (mh (qQ ja (pv 1) (pv 2) (bN _)) (jO (ay (aO (K:=K) rfl) (ay (aO (K:=K) rfl) (bq (K:=K) rfl (pv 0) rfl) (pv 1) (λ_ _=>rfl)) (pv 2) (λ_ _=>rfl)))))),?_⟩;have ed:(!decide (V.int (a:Int)=V.int (b:Int))) = !decide (a=b):=by
   congr 1
   exact Ir.mpr ⟨λh=>by injection h with h;omega,λh=>by rw[h]⟩
  refine⟨_,rfl,_,rfl,rfl,_,rfl,?_⟩;rw[ed];refine bM (λh=>?_) (λh=>?_)
  ·obtain⟨dx,vp,vr,vj,vm,o1,_,o3,_,_⟩:=hO
   obtain⟨ra,us,rb,rfl,q1,q2,q3⟩:=o3.get ha;refine⟨_,rfl,p,C,dx,_,_,rfl,o1,TC.cl,TC.nR,jy _ _ _ _ _,_,rfl,ra,us,_,.ref rb,rfl,rfl,av.of q1,aM q2,_,rfl,rb,_,_,.bl (R a b),rfl,rfl,av.of q3,aM (dC hb),?_⟩;have:=kk _ (Same.refl _);unfold c5 at this;rw[h,dU]at this;exact this
  ·have h2:(!decide (a=b))=false:=by simpa using h
   have:=kk _ (Same.refl _);unfold c5 at this;rw[h2,gX]at this;exact this
abbrev vw:Stmt:=top 35
theorem Oj:aZ ["order","a","b"] ["order","a","b"] (aE vw):=⟨rfl,rfl,rfl,by decide +kernel,rfl,by decide +kernel,by decide +kernel⟩
noncomputable def DX(C:Addr):Sp:=λvs H Q _=>∃(p n a b:Nat) (R:Nat->Nat->Bool),vs = [.ref p,.int a,.int b]/\cN C H p n R/\n<=24/\a<n/\b<n/\∀H',Same H H'->Q (.bl (bz n R a b)) H'
theorem YF {C:Addr} (F:aV K "is_step" "is_step" vw f fd) (T:Txt mg) (TC:cD K C) (pR:ao P w K mg base "is_below" ["order","a","b"] 1 (DW C)):aN P w K mg base aS 2 f fd ["order","a","b"] (DX C):=by
 refine F.ok Oj (λvs H Q E h=>?_) (λcdv A outer s H vs Q E hr h=>?_)
 ·obtain⟨p,n,a,b,R,rfl,_⟩:=h
  rfl
 ·obtain⟨p,n,a,b,R,rfl,hO,hn,ha,hb,kk⟩:=h
  have nd:=Oj.nd;refine⟨_,(au (bU (iB (dM (aH pR hr rfl (ae (pv 0) (ae (pv 1) (ae (pv 2) ag (aF nofun)) (aF nofun)) (aF nofun))))) (ax (aX eS)) cq)
   (ax (aX (BR (cA (SQ (K:=K) rfl rfl) rfl T.any boot_any (ae (cS (own:=["thing"]) (fr:=[("order", 0),("a", 1),("b", 2)]) rfl (bX (aE vw) ["order","a","b"] rfl rfl (by decide +kernel)) (bY rfl T.range (ae (bq (K:=K) rfl (pv 0) rfl) ag)) (λ_ _ _ _=>⟨(aW (i:=0) (by decide +kernel:(["thing","order","a","b"]:List Str).Nodup) rfl (Or.inl rfl)),da,(mh (aH pR hr rfl (ae (pv 1) (ae (pv 2) (ae (pv 0) ag (aF nofun)) (aF nofun)) (aF nofun))) (jO (aH pR hr rfl (ae (pv 1) (ae (pv 0) (ae (pv 3) ag (aF nofun)) (aF nofun)) (aF nofun)))))⟩)) ag)))))),?_⟩
  refine⟨_,rfl,_,rfl,_,rfl,p,n,a,b,R,rfl,hO,ha,hb,λH1 s1=>⟨_,rfl,?_⟩⟩;cases hab:c5 R a b with
  |false =>
   refine gQ ?_;have:=kk _ s1;unfold bz at this;rw[hab,gX]at this;exact this
  |true =>
   refine cz ?_;obtain⟨dx,vp,vr,vj,vm,o1,_,_,_,_⟩:=hO.bx s1;have en:((n:Int)).toNat=n:=bu n;refine⟨_,rfl,p,C,dx,_,_,rfl,o1,TC.cl,TC.nC,cX _ _ _ _ _,_,rfl,(a_ (by omega)).1,(a_ (by omega)).2,λD hD=>?_⟩;refine fE (λj=>.bl (c5 R a j&&c5 R j b)) src_range hD (by rw[en];exact cH hn) (λj H3 Kt hj hs hk=>?_) (λH3 hs hl=>?_)
   ·rw[en]at hj
    refine⟨_,rfl,_,rfl,_,rfl,p,n,a,j,R,by simp,(hO.bx s1).bx hs,ha,hj,λH4 s4=>⟨_,rfl,?_⟩⟩;cases h1:c5 R a j with
    |false =>
     refine cz ?_;have:=hk _ s4;rw[h1,gX]at this;exact this
    |true =>
     refine gQ ⟨_,rfl,_,rfl,_,rfl,p,n,j,b,R,by simp,((hO.bx s1).bx hs).bx s4,hj,hb,λH5 s5=>?_⟩;have:=hk _ (s4.trans s5);rw[h1,dU]at this;exact this
   ·rw[en]at hl
    refine⟨D,(List.range n).map (λj=>c5 R a j&&c5 R j b),rfl,ai.of (by rw[hl,d6];rfl),_,rfl,?_⟩;have:=kk _ (s1.trans hs);unfold bz at this;rw[hab,dU]at this;have e:((List.range n).map λj=>c5 R a j&&c5 R j b).any id=(List.range n).any λt=>c5 R a t&&c5 R t b:=by rw[List.any_map];rfl
    rw[e];exact this
end
noncomputable def Fy(c:Bool)(H:Hp)(a:Addr)(xs:List V):Prop:=match c with
 |true=>H a=some (.lst xs)
 |false=>H a=some (.tup xs)
noncomputable def Leaf(x:V):Prop:=(∃i,x = .int i)\/x = .non\/(∃b,x = .bl b)\/∃t,x = .str t
noncomputable def Like(R:Hp->V->V->Prop)(H:Hp)(x y:V):Prop:=(Leaf x/\x=y)\/∃(c:Bool) (a b:Nat) (xs ys:List V),x = .ref a/\y = .ref b/\Fy c H a xs/\Fy c H b ys/\Paired (R H) xs ys/\xs.length<=1000
noncomputable def QR:Hp->V->V->Prop:=λ_ _ _=>False
abbrev R1:=Like QR
abbrev lu:=Like R1
abbrev R3:=Like lu
theorem cN.same{C:Addr}{H H':Hp}{p n:Nat}{R:Nat->Nat->Bool}(s:Same H H')(h:cN C H p n R):cN C H' p n R:=by
 obtain⟨dx,vp,vr,vj,vm,a,b,c,d,e⟩:=h;exact⟨dx,vp,vr,vj,vm,s _ _ a,b.same s,c.same s,d.same s,e.same s⟩
theorem tT (n:Nat) (vp vr vj vm:V):(dH n vp vr vj vm).lookup ("pairs" : Str)=some vp:=by
 unfold dH;rw[cQ,aq (by decide +kernel),cQ,aq (by decide +kernel),cQ,aq (by decide +kernel),cQ,aC rfl]
theorem BL{n:Nat}{R R':Nat->Nat->Bool}(h:∀a b,a<n->b<n->R a b=R' a b):bw n R=bw n R':=by
 unfold bw;have:∀l∈List.range n,(((List.range n).filter λh=>!decide (l=h)&&R l h).map λh=>(l,h))=(((List.range n).filter λh=>!decide (l=h)&&R' l h).map λh=>(l,h)):=by
  intro l hl
  congr 1
  apply xc
  intro x hx;rw[h l x (by simpa using hl) (by simpa using hx)]
 rw[List.flatMap_def,List.flatMap_def,gZ this]
theorem aaf{α:Type}(k:α->Bool)(d:α)(l:List α):((List.range l.length).filter λi=>k (l.getD i d)).map (λi=>l.getD i d)=l.filter k:=by
 have e:l=(List.range l.length).map λi=>l.getD i d:=by
  apply j4
  ·simp
  ·intro i h1 h2
   simp[bh,aI h1]
 conv=>rhs;rw[e]
 rw[xg];rfl
theorem Mw{α β:Type}{F:α->β->Prop}:∀{ps:List α} {us:List β},Paired F ps us->∃zs:List (α × β),ps=zs.map Prod.fst/\us=zs.map Prod.snd/\∀z∈zs,F z.1 z.2
 |_,_,.nil=>⟨[],rfl,rfl,λ_ h=>nomatch h⟩
 |_,_,.cons (a:=a) (b:=b) r t=>by
  obtain⟨zs,e1,e2,h⟩:=Mw t;refine⟨(a,b)::zs,by rw[e1];rfl,by rw[e2];rfl,λz hz=>?_⟩
  rcases bC.mp hz with rfl|hz
  ·exact r
  ·exact h z hz
theorem Mu{α β:Type}{F:α->β->Prop}:∀{zs:List (α × β)},(∀z∈zs,F z.1 z.2)->Paired F (zs.map Prod.fst) (zs.map Prod.snd)
 | [],_=>.nil
 |z::zs,h=>.cons (h z cC) (Mu λy hy=>h y (bT _ hy))
theorem Zf{F:Nat × Nat->V->Prop}(k:Nat × Nat->Bool){ps:List (Nat × Nat)}{us:List V}(h:Paired F ps us):Paired F (ps.filter k) (((List.range us.length).filter λi=>k (ps.getD i (0,0))).map λi=>us.getD i .non):=by
 obtain⟨zs,rfl,rfl,hz⟩:=Mw h;have e1:(zs.map Prod.fst).filter k=(zs.filter (k ∘ Prod.fst)).map Prod.fst:=by rw[xg]
 have e2:((List.range (zs.map Prod.snd).length).filter λi=>k ((zs.map Prod.fst).getD i (0,0))).map (λi=>(zs.map Prod.snd).getD i V.non)=(zs.filter (k ∘ Prod.fst)).map Prod.snd:=by
  rw[<- aaf (k ∘ Prod.fst) ((0,0),V.non) zs,d6,aG];have g1:∀i,(zs.map Prod.fst).getD i (0,0)=(zs.getD i ((0,0),V.non)).1:=λi=>by
   rw[bh,bh,cT];cases zs[i]?<;>rfl
  have g2:∀i,(zs.map Prod.snd).getD i V.non=(zs.getD i ((0,0),V.non)).2:=λi=>by
   rw[bh,bh,cT];cases zs[i]?<;>rfl
  simp only[g1,g2];rfl
 rw[e1,e2];exact Mu λz hz'=>hz z (d7.mp hz').1
noncomputable def eV(n:Nat)(R:Nat->Nat->Bool):List (Nat × Nat):=(bw n R).filter λq=>bz n R q.1 q.2
theorem Lb{n:Nat}{R:Nat->Nat->Bool}{q:Nat × Nat}(h:q∈bw n R):q.1<n/\q.2<n/\q.1≠q.2/\R q.1 q.2=true:=by
 unfold bw at h;rw[mM]at h;obtain⟨l,hl,hq⟩:=h;rw[cu]at hq;obtain⟨x,hx,rfl⟩:=hq;rw[d7]at hx;obtain⟨h1,h2⟩:=hx;simp at hl h1 h2;exact⟨hl,h1,h2.1,h2.2⟩
theorem K3{n:Nat}{R:Nat->Nat->Bool}(hn:n<=24):(bw n R).length<=576:=by
 unfold bw;rw[List.length_flatMap];have h:∀(l:List Nat),((l.map λa=>(((List.range n).filter λh=>!decide (a=h)&&R a h).map λh=>(a,h)).length).sum)<=24*l.length:=by
  intro l
  induction l with
  |nil=>simp
  |cons x l ih =>
   rw[cE,fT,fz];have h1:=iI (λh=>!decide (x=h)&&R x h) (List.range n);rw[dh]at h1;rw[aG];omega
 have:=h (List.range n);rw[dh]at this;omega
section
variable {P:Program} {w:World} {K:W.Frag} {mg:Str->Option Value} {base:Heap} {f:Addr} {fd:FuncData}
abbrev vK:Stmt:=top 36
theorem Pq:aZ ["order"] ["order"] (aE vK):=⟨rfl,rfl,rfl,by decide +kernel,rfl,by decide +kernel,by decide +kernel⟩
noncomputable def Eh(C:Addr):Sp:=λvs H Q _=>∃(p n:Nat) (R:Nat->Nat->Bool),vs = [.ref p]/\cN C H p n R/\n<=24 /\
 ∀l us H',Same H H'->H l=none->H' l=some (.lst us)->us.length<=576->Paired (ck H') (eV n R) us->Q (.ref l) H'
theorem Y5 {C:Addr} (F:aV K "steps" "steps" vK f fd) (T:Txt mg) (TC:cD K C) (yq:ao P w K mg base "is_step" ["order","a","b"] 2 (DX C)):aN P w K mg base aS 3 f fd ["order"] (Eh C):=by
 refine F.ok Pq (λvs H Q E h=>?_) (λcdv A outer s H vs Q E hr h=>?_)
 ·obtain⟨p,n,R,rfl,_⟩:=h
  rfl
 ·obtain⟨p,n,R,rfl,hO,hn,kk⟩:=h
  have nd:=Pq.nd;obtain⟨dx,vp,vr,vj,vm,o1,o2,_⟩:=id hO;obtain⟨ta,us,rfl,q1,q2⟩:=o2;have iq:us.length<=576:=by have:=cK q2;have:=K3 (n:=n) (R:=R) hn;omega
  refine⟨_,(ax (aX (cS (own:=["pair"]) (fr:=[("order", 0)]) rfl (bX (aE vK) ["order"] rfl rfl (by decide +kernel)) (uW (K:=K) rfl (bq (K:=K) rfl (pv 0) rfl)) (λ_ _ _ _=>⟨(aW (i:=0) (by decide +kernel:(["pair","order"]:List Str).Nodup) rfl (Or.inl rfl)),(ox (dM (aH yq hr rfl (ae (pv 1) (ae (ay (aO (K:=K) rfl) (pv 0) ak (λ_ _=>rfl)) (ae (ay (aO (K:=K) rfl) (pv 0) ak (λ_ _=>rfl)) ag (aF nofun)) (aF nofun)) (aF nofun))))),(pv 0)⟩)))),?_⟩;refine⟨_,rfl,p,C,dx,_,_,rfl,o1,TC.cl,TC.nP,Je _ _ _ _ _,ta,rfl,⟨_,av.of q1⟩,λD hD=>?_⟩;refine sS (λi=>bz n R ((bw n R).getD i (0,0)).1 ((bw n R).getD i (0,0)).2) (λi=>us.getD i .non) (Eo (av.of q1)) hD (d4 (by omega)) (λi H3 Kt Kf hi hs hkt hkf=>?_) (λH3 hs hl=>?_)
  ·obtain⟨q,eq1,t,eq2,eq3⟩:=eR q2 (show us[i]?=some us[i]from aI hi)
   obtain⟨m1,m2,_,_⟩:=Lb (cV eq1);have e1:us.getD i .non = .ref t:=by rw[bh,aI hi,eq2];rfl
   have e2:(bw n R).getD i (0,0)=q:=by rw[bh,eq1];rfl
   have ht:=hs _ _ eq3;refine⟨_,rfl,_,rfl,t,_,0,.int q.1,e1,rfl,av.of ht,rfl,_,rfl,t,_,1,.int q.2,e1,rfl,av.of ht,rfl,p,n,q.1,q.2,R,rfl,hO.bx hs,hn,m1,m2,λH4 s4=>⟨_,rfl,bM (λh=>?_) (λh=>?_)⟩⟩
   ·exact⟨_,rfl,hkt _ (by rw[e2];exact h) s4⟩
   ·exact hkf _ (by rw[e2];simpa using h) s4
  ·refine kk D _ H3 hs hD hl ?_ ?_
   ·rw[aG]
    exact di (iI _ _) (by rw[dh];exact iq)
   ·exact c9.same hs (Zf (λq=>bz n R q.1 q.2) q2)
end
end My
namespace L2
open PySem PySem.Spec PyProof.Rows
section
variable {X:Cx} {pins:List (Addr × Obj)} {σ:St} {H:Hp} {s:Shared} {scope:Scope} {v:Str} {fr:List (Str × Nat)} {own:List Str} {fp:List Addr}
end
section
variable {X:Cx} {elt tg iter:Expr} {ifs:List Expr} {scope:Scope} {pos:Pos} {v:Str} {own:List Str} {fr:List (Str × Nat)} {wi:TI} {g:TG} {tc:TT} {te:TE}
end
section
variable {prog:Program} {w:World} {A:Around} {E:Value->Shared->Prop} {s:Shared} {l:Addr} {xs:Array (Int × Tok)}
end
theorem qT{X:Cx}{K:W.Frag}{es:List Expr}{k:Nat}{t:ke}{n:Nat}{pos:Pos}(hK:X.K=K)(hc:X.calm=true)(h:pA X es t)(hn:(assignEach es X.env).length=n:=by rfl)(hst:(assignEach es X.env).findIdx? (·.1)=none:=by rfl):PG X (.Tuple es k pos) (nO K n t):=hK▸MN hc h hn hst
noncomputable def Ng:V->List V->Hp->VK->Prop:=λx vs H Q=>∃(l:Addr) (xs:List V) (i:Nat) (y:V),x = .ref l/\vs = [.int (i:Int),y]/\H l=some (.lst xs)/\i<=xs.length/\xs.length<sizeLine/\Q .non (upd H l (.lst (xs.take i++y::xs.drop i)))
theorem Vals.abe{xs:List V}{us:List Value}(h:Vals xs us):∀k:Nat,Vals (xs.take k) (us.take k):=by
 induction h with
 |nil=>intro k;simp;exact .nil
 |cons r _ ih =>
  intro k;cases k with
  |zero=>exact .nil
  |succ k=>exact .cons r (ih k)
theorem Vals.TJ{xs:List V}{us:List Value}(h:Vals xs us):∀k:Nat,Vals (xs.drop k) (us.drop k):=by
 induction h with
 |nil=>intro k;simp;exact .nil
 |cons r t ih =>
  intro k;cases k with
  |zero=>exact .cons r t
  |succ k=>exact ih k
theorem Vals.Sb{xs ys:List V}{us ws:List Value}(h:Vals xs us)(h':Vals ys ws):Vals (xs++ys) (us++ws):=by
 induction h with
 |nil=>exact h'
 |cons r _ ih=>exact .cons r ih
theorem Bq {X:Cx}:xt X "list.insert" Ng:=by
 intro pins s σ H x vs v us Q I rx rv h;obtain⟨l,xs,i,y,rfl,rfl,hH,hi,hz,q⟩:=h;cases rx;obtain⟨u,u2,rfl,ru,ru2⟩:∃u u2,us = [u,u2]/\RelV (.int (i:Int)) u/\RelV y u2:=by
  cases rv with
  |cons p q =>
   cases q with
   |cons p' q' =>
    cases q';exact⟨_,_,rfl,p,p'⟩
 obtain⟨t,rfl⟩:=ru;obtain⟨z,its,n,r,hl,e⟩:=I.ky hH;have hn:=qC;have hf:¬ (!Builtin.List.listFitsIndex (i:Int))=true:=by
  rw[fitsIndex_both (by omega) (by omega)];decide
 have hs1:its.toArray.size<=sizeLine:=by rw[cw];omega
 generalize hk:(i:Int)=k at hf ⊢;refine call_meets xI ⟨_,e,rfl⟩ F.entry_list_insert (F.args_list_insert_3 _ _ _)
  (AutoSeq1.list_insert_list_int_val_1 l its.toArray n k t u2 hf hs1) ⟨e,?_⟩
 subst hk;refine⟨.non,_,I.qF (its':=its.take i++u2::its.drop i) hH e ?_ ((Vals.abe r i).Sb (.cons ru2 (Vals.TJ r i))) ?_,rfl,q⟩
 ·have hmin:(if(i:Int)<0 then((i:Int)+(its.toArray.size:Int)).toNat else min (i:Int).toNat its.toArray.size)=i:=by
   rw[aq (by omega),cw,bu];omega
  show(its.toArray.extract 0 (if(i:Int)<0 then((i:Int)+(its.toArray.size:Int)).toNat else min (i:Int).toNat its.toArray.size)).push u2++its.toArray.extract (if(i:Int)<0 then((i:Int)+(its.toArray.size:Int)).toNat else min (i:Int).toNat its.toArray.size)=_;rw[hmin];apply Array.toList_inj.mp
  simp;exact o9 (by rw[o6];omega)
 ·simp only[cU,fz,j5,o6]
  omega
theorem aaT{K:W.Frag}{a:Addr}{us:List V}{xs ys:Nat->V}{ρ:St}{H1:Hp}(h:av K H1 a us)(hp:∀i,i<us.length->∃t,us[i]?=some (.ref t)/\H1 t=some (.tup [xs i,ys i])):gI (oT K a) (nO K 2 (jB (bj 0) (jB (bj 1) qj))) (none::none::ρ) H1 us.length (λi=>some (xs i)::some (ys i)::ρ) where
 go:=λi H hi hs=>⟨us,us[i],hs.oE h,aI hi⟩
 stop:=λH hs=>⟨us,hs.oE h,aY _⟩
 step:=λi H x H' Kk hi hs hy hk=>by
  obtain⟨rfl,hx⟩:=hy;have e:=hx us (hs.oE h);obtain⟨t,e1,e2⟩:=hp i hi;rw[e1]at e;cases e;refine⟨t,[xs i,ys i],rfl,.inl (.inl (hs _ _ e2)),rfl,xs i,[ys i],rfl,ys i,[],rfl,rfl,?_⟩;exact⟨Wk.set (Wk.set (Wk.refl _) rfl) rfl,hk _ (Same.refl _)⟩
end L2
namespace My
open PySem PySem.Spec PyProof.Rows L2
theorem lB(x y:Nat):Builtin.bitAnd (x:Int) (y:Int)=((x&&& y:Nat):Int):=by rw[bitAnd_pp (by omega) (by omega)];simp
theorem BG(x y:Nat):Builtin.bitOr (x:Int) (y:Int)=((x ||| y:Nat):Int):=by
 rw[bitOr_and,lB];have:=nat_or_add_and x y;omega
abbrev nV (x:Nat):V:=.int (x:Int)
section
variable {P:Program} {w:World} {K:W.Frag} {mg:Str->Option Value} {base:Heap} {f:Addr} {fd:FuncData}
abbrev Dd:Stmt:=top 49
theorem Ou:aZ ["_law_script","_law_k"] ["_law_script","_law_k"] (aE Dd):=⟨rfl,rfl,rfl,by decide +kernel,rfl,by decide +kernel,by decide +kernel⟩
noncomputable def Dz(K:W.Frag):Sp:=λvs H Q _=>∃(a k:Nat) (ns:List Int),vs = [.ref a,.int k]/\ai K H a (ns.map V.int)/\∀i H',Same H H'->Q (.int i) H'
theorem Yo (F:aV K "_law_cell_at" "_law_cell_at" Dd f fd) (T:Txt mg):aN P w K mg base aS 1 f fd ["_law_script","_law_k"] (Dz K):=by
 refine F.ok Ou (λvs H Q E h=>?_) (λcdv A outer s H vs Q E hr h=>?_)
 ·obtain⟨a,k,ns,rfl,_⟩:=h
  rfl
 ·obtain⟨a,k,ns,rfl,hS,kk⟩:=h
  have nd:=Ou.nd;refine⟨_,(au (bU (bV uR (pv 1) (cA (dw (K:=K) rfl) rfl T.len dF (ae (pv 0) ag)) (bN _)) (ax (aX (ay (bE (K:=K) rfl) (pv 0) (pv 1) (λ_ _=>rfl)))) cq)
   (ax (aX ak))),?_⟩
  refine⟨_,rfl,_,rfl,a,_,rfl,.inl hS,_,_,rfl,rfl,_,rfl,bM (λh=>?_) (λh=>?_)⟩
  ·rw[qf,aG]at h
   have hk:k<ns.length:=by omega
   exact⟨_,rfl,_,rfl,a,_,k,.int ns[k],rfl,rfl,hS,aM (by simp[hk]),kk _ _ (Same.refl _)⟩
  ·exact kk _ _ (Same.refl _)
abbrev Dj:Stmt:=top 50
theorem O4:aZ ["_law_cell","_law_place","_law_number"] ["_law_cell","_law_place"] (aE Dj):=⟨rfl,rfl,rfl,by decide +kernel,rfl,by decide +kernel,by decide +kernel⟩
noncomputable def Ee:Sp:=λvs H Q _=>∃(c:Int) (p:Nat),vs = [.int c,.int p]/\p<=1000/\∀i H',0<=i->i<2147483648->Same H H'->Q (.int i) H'
theorem YX (F:aV K "_law_mixed" "_law_mixed" Dj f fd) (T:Txt mg):aN P w K mg base aS 1 f fd ["_law_cell","_law_place"] Ee:=by
 refine F.ok O4 (λvs H Q E h=>?_) (λcdv A outer s H vs Q E hr h=>?_)
 ·obtain⟨c,p,rfl,_⟩:=h
  rfl
 ·obtain⟨c,p,rfl,hp,kk⟩:=h
  have nd:=O4.nd;have m1:∀x:Int,0<=x % 2147483629/\x % 2147483629<2147483629:=λx=>⟨oR x (by decide),w6 x (by decide)⟩;have m2:∀x:Int,0<=x % 2147483587/\x % 2147483587<2147483587:=λx=>⟨oR x (by decide),w6 x (by decide)⟩;have cm:∀x y:Int,rN (x % 2147483629) y:=λx y=>.inl ⟨by have:=m1 x;omega,by have:=m1 x;omega⟩;refine⟨_,(au (aQ (i:=2) nd rfl (Or.inl rfl) (aB cR (aB cY (aB cY (aB fj (aB cR (pv 0) ak) ak) (aB fj ak (pv 1))) ak) ak))
   (au (aQ (i:=2) nd rfl (Or.inl rfl) (aB cR (aB cY (aB cY (aB fj (pv 2) (pv 2)) (aB fj ak (pv 1))) ak) ak))
   (ax (aX (aB cR (aB cY (aB fj (pv 2) (pv 2)) ak) ak))))),?_⟩
  refine⟨_,rfl,_,_,rfl,rfl,(by show(0:Int)<2147483629;decide),_,_,rfl,rfl,cm _ _,_,rfl,_,_,rfl,rfl,.inl ⟨by decide,by decide⟩,_,_,rfl,rfl,_,_,rfl,rfl,_,_,rfl,rfl,(by show(0:Int)<2147483629;decide),?_⟩;refine⟨_,rfl,_,rfl,_,_,rfl,rfl,cm _ _,_,rfl,_,_,rfl,rfl,.inl ⟨by decide,by decide⟩,_,_,rfl,rfl,_,_,rfl,rfl,_,_,rfl,rfl,(by show(0:Int)<2147483629;decide),?_⟩;refine⟨_,rfl,_,rfl,_,_,rfl,rfl,cm _ _,_,_,rfl,rfl,_,_,rfl,rfl,(by show(0:Int)<2147483587;decide),?_⟩;exact kk _ _ (m2 _).1 (by have:=(m2 ((((c % 2147483629*16807+69621*(p:Int)+11) % 2147483629*((c % 2147483629*16807+69621*(p:Int)+11) % 2147483629)+48271*(p:Int)+7) % 2147483629)*(((c % 2147483629*16807+69621*(p:Int)+11) % 2147483629*((c % 2147483629*16807+69621*(p:Int)+11) % 2147483629)+48271*(p:Int)+7) % 2147483629)+69621)).2;omega) (Same.refl _)
abbrev Dg:Stmt:=top 51
theorem Oy:aZ ["_law_cell","_law_many","_law_found","_law_left","_law_k"] ["_law_cell","_law_many"] (aE Dg):=⟨rfl,rfl,rfl,by decide +kernel,rfl,by decide +kernel,by decide +kernel⟩
noncomputable def Small(ns:List Int):Prop:=∀x∈ns,0<=x/\x<2147483648
noncomputable def vR:Sp:=λvs H Q _=>∃(c:Int) (m:Nat),vs = [.int c,.int m]/\m<=1000/\∀l ns H',Same H H'->H l=none->H' l=some (.lst (ns.map V.int))->ns.length=m->Small ns->Q (.ref l) H'
theorem Yu (F:aV K "_law_draws" "_law_draws" Dg f fd) (T:Txt mg) (yy:ao P w K mg base "_law_mixed" ["_law_cell","_law_place"] 1 Ee):aN P w K mg base aS 2 f fd ["_law_cell","_law_many"] vR:=by
 refine F.ok Oy (λvs H Q E h=>?_) (λcdv A outer s H vs Q E hr h=>?_)
 ·obtain⟨c,m,rfl,_⟩:=h
  rfl
 ·obtain⟨c,m,rfl,hm,kk⟩:=h
  have nd:=Oy.nd;have em:((m:Int)).toNat=m:=bu m;refine⟨_,(au (aQ (i:=2) nd rfl (Or.inl rfl) (dY ag))
   (au (aQ (i:=3) nd rfl (Or.inl rfl) (aB qN (pv 0) (aB Ze ak ak)))
   (au (cn b_ rfl (bY rfl T.range (ae (pv 1) ag)) (aW (i:=4) nd rfl (Or.inl rfl))
   (ax (bU (bV Zc (pv 3) ak (bN _)) (au (cG (fM (K:=K) rfl gH mS pC lV (pv 2) (ae (aB cR (pv 3) ak) ag)))
   (ax (aQ (i:=3) nd rfl (Or.inl rfl) (aB qM (pv 3) ak)))) (ax (cG (fM (K:=K) rfl gH mS pC lV (pv 2) (ae (aH yy hr rfl (ae (pv 0) (ae (pv 4) ag))) ag)))))))
   (ax (aX (pv 2)))))),?_⟩
  refine⟨by show 0<=sizeLine;decide,λL hL=>?_⟩;refine⟨_,rfl,_,_,rfl,rfl,⟨by decide,by decide,by decide⟩,_,_,rfl,rfl,?_⟩;refine⟨_,rfl,m,rfl,(a_ (by omega)).1,(a_ (by omega)).2,eu (lo:=0) (n:=((m:Int)).toNat) (λi σ H2=>∃(v4:Option V) (x:Int) (ns:List Int),σ = [some (.int c),some (.int m),some (.ref L),some (.int x),v4]/\Same H H2/\H2 L=some (.lst (ns.map V.int))/\ns.length=i/\Small ns)
   ⟨none,_,[],rfl,Same.put hL,aA,rfl,λ_ h=>nomatch h⟩ ?_ ?_⟩
  ·rintro i σ H2 hi ⟨v4,x,ns,rfl,s2,hl,hlen,hsm⟩
   have sn:∀y:Int,0<=y->y<2147483648->Small (ns++[y]):=λy h0 h1 z hz=>by
    rcases iK.mp hz with hz|hz
    ·exact hsm z hz
    ·simp at hz;subst hz;exact⟨h0,h1⟩
   have sk:∀{H3:Hp} {o:HO},Same H2 H3->Same H (upd H3 L o):=λs3 b o e=>by
    rw[aJ (λz=>by rw[z,hL]at e;cases e)];exact s3 _ _ (s2 _ _ e)
   have hz:(ns.map V.int).length<sizeLine:=by rw[aG];exact d4 (by omega)
   refine⟨_,rfl,_,_,rfl,rfl,_,rfl,bM (λh=>?_) (λh=>?_)⟩
   ·have q:=oR x (show(1000003:Int)≠0 by decide)
    have q':=w6 x (show(0:Int)<1000003 by decide);refine⟨_,rfl,.inl ⟨rfl,_,ai.of hl⟩,_,rfl,_,_,rfl,rfl,(by show(0:Int)<1000003;decide),L,_,_,rfl,rfl,hl,hz,?_⟩;refine⟨_,rfl,_,_,rfl,rfl,⟨by decide,by decide⟩,?_⟩;exact⟨_,_,ns++[x % 1000003],rfl,sk (Same.refl _),by rw[aA];simp,by simp[hlen],sn _ q (by omega)⟩
   ·refine⟨_,rfl,.inl ⟨rfl,_,ai.of hl⟩,_,rfl,_,rfl,c,i,by simp,by omega,λy H3 y0 y1 s3=>?_⟩
    exact⟨L,_,_,rfl,rfl,s3 _ _ hl,hz,_,x,ns++[y],rfl,sk s3,by rw[aA];simp,by simp[hlen],sn _ y0 y1⟩
  ·rintro σ H2 ⟨v4,x,ns,rfl,s2,hl,hlen,hsm⟩
   exact⟨_,rfl,kk L ns H2 s2 hL hl (hlen.trans em) hsm⟩
end
theorem P4{n:Nat}{R:Nat->Nat->Bool}{a b:Nat}(h:bz n R a b=true):c5 R a b=true:=by
 unfold bz at h;rw[bH]at h;exact h.1
theorem X1{cs:List Nat}{i:Nat}(h:i<cs.length):cs.getD i 0∈cs:=by
 rw[bh,aI h];exact mL h
theorem UG{l:List Nat}{j:Nat}(h:j<l.length):(l.map nV).getD j .non = .int ((l.getD j 0:Nat):Int):=by
 rw[bh,bh,cT,aI h];rfl
structure fV (H0 H:Hp) (r n:Nat) (as:List Addr) (g:Nat->List V):Prop where
 same:Same H0 H
 lst:H r=some (.lst (as.map V.ref))
 len:as.length=n
 nd:as.Nodup
 Bt:H0 r=none
 new:∀a∈as,H0 a=none/\a≠r
 row:∀(i:Nat) a,as[i]?=some a->H a=some (.lst (g i))
theorem fV.congr{H0 H:Hp}{r n:Nat}{as:List Addr}{g g':Nat->List V}(W:fV H0 H r n as g)(h:∀i,i<n->g i=g' i):fV H0 H r n as g':=
 {W with row:=λi a e=>(W.row i a e).trans (by rw[h i (by rw[<- W.len];exact(bD.mp e).1)])}
theorem fV.get{H0 H:Hp}{r n:Nat}{as:List Addr}{g:Nat->List V}(W:fV H0 H r n as g){i:Nat}(hi:i<n):∃a,as[i]?=some a/\(as.map V.ref)[i]?=some (.ref a)/\a∈as/\H a=some (.lst (g i)):=by
 have h:i<as.length:=by rw[W.len];exact hi
 exact⟨as[i],aI h,by simp[h],mL h,W.row i _ (aI h)⟩
theorem fV.grow{H0 H H':Hp}{r n:Nat}{as:List Addr}{g:Nat->List V}(W:fV H0 H r n as g)(s:Same H H'):fV H0 H' r n as g:=
 {W with same:=W.same.trans s,lst:=s _ _ W.lst,row:=λi a e=>s _ _ (W.row i a e)}
theorem fV.put{H0 H:Hp}{r n:Nat}{as:List Addr}{g:Nat->List V}(W:fV H0 H r n as g){i a:Nat}{ys:List V}(ha:as[i]?=some a):
  fV H0 (upd H a (.lst ys)) r n as (λx=>if x=i then ys else g x):=by
 have am:a∈as:=cV ha;refine{W with same:=λb o e=>?_,lst:=?_,row:=λk b e=>?_}
 ·rw[aJ (λz=>by rw[z,(W.new a am).1]at e;cases e)]
  exact W.same _ _ e
 ·rw[aJ (cZ (W.new a am).2)]
  exact W.lst
 ·by_cases hk:k=i
  ·subst hk
   rw[ha]at e;cases e;rw[aA,aC rfl]
  ·have hba:b≠a:=by
    rintro rfl;exact hk (Lr W.nd e ha)
   rw[aJ hba,W.row k b e,aq hk]
noncomputable def kZ(H:Hp)(D n:Nat)(g:Nat->List Nat):Prop:=∃as:List Addr,H D=some (.lst (as.map V.ref))/\as.length=n/\∀(i:Nat) a,as[i]?=some a->H a=some (.lst ((g i).map nV))
theorem kZ.same{H H':Hp}{D n:Nat}{g:Nat->List Nat}(s:Same H H')(h:kZ H D n g):kZ H' D n g:=by
 obtain⟨as,e,l,q⟩:=h;exact⟨as,s _ _ e,l,λi a ha=>s _ _ (q i a ha)⟩
theorem kZ.get{H:Hp}{D n:Nat}{g:Nat->List Nat}(h:kZ H D n g){i:Nat}(hi:i<n):∃vs b,H D=some (.lst vs)/\vs[i]?=some (.ref b)/\H b=some (.lst ((g i).map nV)):=by
 obtain⟨as,e,l,q⟩:=h;have ha:as[i]?=some as[i]:=aI (by omega);exact⟨_,as[i],e,by rw[cT,ha];rfl,q _ _ ha⟩
noncomputable def h_(ps:List (Nat × Nat))(i:Nat):List Nat:=(ps.filter λq=>decide (q.1=i)).map Prod.snd
noncomputable def bL(n:Nat)(R:Nat->Nat->Bool)(i:Nat):List Nat:=(List.range n).filter (bz n R i)
theorem RV(ps:List (Nat × Nat))(q:Nat × Nat)(i:Nat):h_ (ps++[q]) i=if i=q.1 then h_ ps i++[q.2]else h_ ps i:=by
 unfold h_;rw[FP,iJ]
 by_cases h:i=q.1
 ·rw[aC h]
  have:[q].filter (λq=>decide (q.1=i)) = [q]:=by simp[h]
  rw[this];rfl
 ·rw[aq h]
  have:[q].filter (λq=>decide (q.1=i)) = []:=by
   simp;exact λz=>h z.symm
  rw[this];simp
theorem RT(ps:List (Nat × Nat))(i:Nat):(h_ ps i).length<=ps.length:=by
 unfold h_;rw[aG];exact iI _ _
theorem Jd{i:Nat}{X:List Nat}:∀{L:List Nat},L.Nodup->i∈L->L.flatMap (λl=>if l=i then X else[])=X
 | [],_,h=>nomatch h
 |l::L,nd,h=>by
  rw[jg]
  by_cases e:l=i
  ·subst e
   have:L.flatMap (λx=>if x=l then X else[]) = []:=by
    rw[List.flatMap_eq_nil_iff];intro x hx;rw[aq (λz:x=l=>(fS.mp nd).1 (z▸hx))]
   rw[aC rfl,this,oZ]
  ·rw[aq e,List.nil_append]
   rcases bC.mp h with z|z
   ·exact absurd z.symm e
   ·exact Jd (fS.mp nd).2 z
theorem RW{n:Nat}{R:Nat->Nat->Bool}{i:Nat}(hi:i<n):h_ (eV n R) i=bL n R i:=by
 unfold h_ eV bw bL;rw[List.filter_filter,List.filter_flatMap,List.map_flatMap];have key:∀l,((((List.range n).filter λh=>!decide (l=h)&&R l h).map λh=>(l,h)).filter λq=>(decide (q.1=i)&&bz n R q.1 q.2)).map Prod.snd=if l=i then(List.range n).filter (bz n R i)else[]:=by
  intro l;rw[xg,d6,List.filter_filter]
  by_cases e:l=i
  ·subst e
   rw[aC rfl];have e2:(Prod.snd ∘ λh:Nat=>(l,h))=id:=rfl;rw[e2,List.map_id];apply xc
   intro x hx;show((decide (l=l)&&bz n R l x)&&(!decide (l=x)&&R l x))=bz n R l x;cases hs:bz n R l x with
   |false=>simp
   |true =>
    have:=P4 hs;unfold c5 at this;rw[this];simp
  ·rw[aq e]
   have:(List.range n).filter (λa=>(((λq:Nat × Nat=>(decide (q.1=i)&&bz n R q.1 q.2)) ∘ λh=>(l,h)) a&&(!decide (l=a)&&R l a))) = []:=by
    rw[Q6];intro x _;simp[e]
   rw[this];rfl
 rw[show(λa=>(((((List.range n).filter λh=>!decide (a=h)&&R a h).map λh=>(a,h)).filter λq=>(decide (q.1=i)&&bz n R q.1 q.2))).map Prod.snd)=λl=>if l=i then(List.range n).filter (bz n R i)else[]from funext key];exact Jd rU (by simpa using hi)
theorem Xx{n:Nat}{R:Nat->Nat->Bool}(hn:n<=24):(eV n R).length<=576:=by
 have h1:=iI (λq:Nat × Nat=>bz n R q.1 q.2) (bw n R);have h2:=K3 (n:=n) (R:=R) hn;unfold eV;omega
theorem X3{n:Nat}{R:Nat->Nat->Bool}{q:Nat × Nat}(h:q∈eV n R):q.1<n/\q.2<n:=by
 have:=Lb (d7.mp h).1;exact⟨this.1,this.2.1⟩
section
variable {P:Program} {w:World} {K:W.Frag} {mg:Str->Option Value} {base:Heap} {f:Addr} {fd:FuncData}
abbrev vL:Stmt:=top 37
theorem Pr:aZ ["order","above","step"] ["order"] (aE vL):=⟨rfl,rfl,rfl,by decide +kernel,rfl,by decide +kernel,by decide +kernel⟩
noncomputable def wD(C:Addr):Sp:=λvs H Q _=>∃(p n:Nat) (R:Nat->Nat->Bool),vs = [.ref p]/\cN C H p n R/\n<=24/\∀D H',Same H H'->H D=none->kZ H' D n (bL n R)->Q (.ref D) H'
theorem Y4 {C:Addr} (F:aV K "steps_above" "steps_above" vL f fd) (T:Txt mg) (TC:cD K C) (yC:ao P w K mg base "steps" ["order"] 3 (Eh C)):aN P w K mg base aS 4 f fd ["order"] (wD C):=by
 refine F.ok Pr (λvs H Q E h=>?_) (λcdv A outer s H vs Q E hr h=>?_)
 ·obtain⟨p,n,R,rfl,_⟩:=h
  rfl
 ·obtain⟨p,n,R,rfl,hO,hn,kk⟩:=h
  have nd:=Pr.nd;have en:((n:Int)).toNat=n:=bu n;obtain⟨dx,vp,vr,vj,vm,o1,_⟩:=id hO;refine⟨_,(au (uZ (i:=1) nd rfl rfl (own:=["thing"]) (fr:=[]) rfl (bX (aE vL) ["order","above","step"] rfl rfl (by decide +kernel)) (bY rfl T.range (ae (bq (K:=K) rfl (pv 0) rfl) ag)) (λ_ _ _ _=>⟨(aW (i:=0) (by decide +kernel:(["thing"]:List Str).Nodup) rfl (Or.inl rfl)),da,(dY ag)⟩))
   (au (cn b_ rfl (eU (K:=K) rfl (aH yC hr rfl (ae (pv 0) ag))) (aW (i:=2) nd rfl (Or.inl rfl))
   (ax (cG (fM (K:=K) rfl gH mS pC lV (ay (bE (K:=K) rfl) (pv 1) (ay (aO (K:=K) rfl) (pv 2) ak (λ_ _=>rfl)) (λ_ _=>rfl)) (ae (ay (aO (K:=K) rfl) (pv 2) ak (λ_ _=>rfl)) ag)))))
   (ax (aX (pv 1))))),?_⟩
  refine⟨_,rfl,p,C,dx,_,_,rfl,o1,TC.cl,TC.nC,cX _ _ _ _ _,_,rfl,(a_ (by omega)).1,(a_ (by omega)).2,λD hD=>Ih (λ_=>[]) src_range hD (cH (by omega)) (λi H2 Kt hi hs hk=>?_) (λH1 as hs hl h1 h2 h3 h4=>?_)⟩
  ·exact⟨by show 0<=sizeLine;decide,λa ha=>hk a _ (Same.put ha) ha aA⟩
  ·have W0:fV H H1 D n as (λx=>(h_ ((eV n R).take 0) x).map nV):=⟨hs,hl,h1.trans en,h2,hD,h3,λi b e=>h4 i b e⟩
   refine⟨_,rfl,p,n,R,rfl,hO.bx hs,hn,λL us H2 s2 hL q2 iq hp=>?_⟩;refine⟨L,rfl,⟨_,ai.of q2⟩,iS (K:=K) (a:=L) (xs:=us) (λi σ H3=>∃v2,σ = [some (.ref p),some (.ref D),v2]/\fV H H3 D n as (λx=>(h_ ((eV n R).take i) x).map nV)/\H3 L=some (.lst us)/\Paired (ck H3) (eV n R) us)
    ⟨none,rfl,W0.grow s2,q2,hp⟩ (λi σ H3 _ ⟨_,_,_,q3,_⟩=>ai.of q3) ?_ ?_⟩
   ·rintro i y σ H3 hy ⟨v2,rfl,W,q3,hp3⟩
    obtain⟨q,hq,t,rfl,ht⟩:=eR hp3 hy;have Wh:=X3 (cV hq);obtain⟨a,ra,rb,rc,rd⟩:=W.get Wh.1;have haL:L≠a:=λz=>by
     have:=h4 q.1 a ra;rw[<- z,hL]at this;cases this
    refine⟨_,rfl,_,rfl,t,_,0,.int (q.1:Int),rfl,rfl,av.of ht,rfl,D,_,_,.ref a,rfl,rfl,ai.of W.lst,aM rb,.inl ⟨rfl,_,ai.of rd⟩,_,rfl,t,_,1,.int (q.2:Int),rfl,rfl,av.of ht,rfl,?_⟩;have hlen:((h_ ((eV n R).take i) q.1).map nV).length<=576:=by
     rw[aG];have e1:=RT ((eV n R).take i) q.1;have e2:=Xx (n:=n) (R:=R) hn;have e3:((eV n R).take i).length<=(eV n R).length:=List.length_take_le' _ _;omega
    refine⟨a,_,.int (q.2:Int),rfl,rfl,rd,jR (by omega),?_⟩;have et:(eV n R).take (i+1)=(eV n R).take i++[q]:=by rw[o8,hq];rfl
    refine⟨_,rfl,(W.put ra).congr λx hx=>?_,by rw[aJ haL];exact q3,kE rd hp3⟩;rw[et,RV]
    by_cases e:x=q.1
    ·rw[aC e,aC e,iJ,e]
     rfl
    ·rw[aq e,aq e]
   ·rintro σ H3 ⟨v2,rfl,W,q3,hp3⟩
    have el:us.length=(eV n R).length:=(cK hp3).symm;rw[el,mN]at W;refine⟨_,rfl,kk D H3 W.same hD ⟨as,W.lst,W.len,λi a ha=>?_⟩⟩;rw[W.row i a ha,RW (by rw[<- W.len];exact(bD.mp ha).1)]
end
end My
namespace L2
open PySem PySem.Spec PyProof.Rows
theorem abf{x y:Int}{t u:Tok}{c:Value}:∀(l:List Value),TriplesOk l->TriplesOk (l++[.int x t,.int y u,c]):=by
 intro l h
 fun_induction TriplesOk l with
 |case1=>exact trivial
 |case2 a b d e f r ih=>exact ih h
 |case3 l h1 h2=>exact False.elim h
noncomputable def QQ(o:Obj)(qual:Str):Prop:=∃vs t,o.data = .fields vs/\vs[1]?=some (.str qual t)
noncomputable def oV(p:Addr)(qual:Str)(params:Arguments)(body:Expr)(scope:Scope)(cl:List (Str × Addr))(c:Addr):HO:=
 .ext λh=>∃pm ctv,h.get? p=some (W.kla_obj "<lambda>" qual params body scope cl pm c ctv)
structure eE (H:Hp) (p:Addr) (qual:Str) (params:Arguments) (body:Expr) (scope:Scope) (cl:List (Str × Addr)):Prop where
 ex:∃c o u,H c=some (.dk o u)/\QQ o qual/\H p=some (oV p qual params body scope cl c)
section
variable {P:Program} {w:World} {H H':Hp} {h:Heap} {p:Addr} {qual:Str} {params:Arguments} {body:Expr} {scope:Scope} {cl:List (Str × Addr)}
theorem KS {c:Addr} {pm ctv:Value} (e:h.get? p=some (W.kla_obj "<lambda>" qual params body scope cl pm c ctv)):bQ P w H h p (oV p qual params body scope cl c):=
 ⟨⟨pm,ctv,e⟩,⟨_,e⟩,λ_ _ ⟨pm,ctv,e⟩ k=>⟨pm,ctv,k _ e⟩⟩
theorem eE.same(L:eE H p qual params body scope cl)(s:Same H H'):eE H' p qual params body scope cl:=
 let⟨c,o,u,h1,h2,h3⟩:=L.ex;⟨c,o,u,s _ _ h1,h2,s _ _ h3⟩
theorem eE.get (L:eE H p qual params body scope cl) (ok:b9 P w H h):∃c pm ctv,h.get? p=some (W.kla_obj "<lambda>" qual params body scope cl pm c ctv)/\h.CodeRec (.ref c) qual:=by
 obtain⟨c,o,u,h1,⟨vs,t,d1,d2⟩,h3⟩:=L.ex;obtain⟨⟨pm,ctv,e⟩,_⟩:=(show bQ P w H h p (oV p qual params body scope cl c)from ok p _ h3);obtain⟨e2,_⟩:=ok c _ h1;exact⟨c,pm,ctv,e,c,o,vs,t,rfl,e2,d1,d2⟩
end
structure TabAt (base:Heap) (mg:Str->Option Value) (c P:Addr):Prop where
 hd:W.CodeHd base c P
 bm:∃bm ob,mg "__builtins__" = some (.ref bm)/\bm≠builtinsNs/\base.get? bm=some ob/\ob.cls = .type "module" /\ ob.dict=some builtinsNs/\ob.data = .plain
noncomputable def Qj(P:Addr)(pos:Pos)(qual:Str)(params:Arguments)(body:Expr)(scope:Scope)(cl:List (Str × Addr)):TE:=λ_ H Q =>
 H P=some (.lam pos qual)/\∀p H1,Same H H1->H p=none->eE H1 p qual params body scope cl->Q (.ref p) H1
section
variable {X:Cx} {c P:Addr} {params:Arguments} {body:Expr} {scope:Scope} {pos:Pos}
theorem MJ(T:TabAt X.base X.mg c P)(hcode:X.env.code = .ref c)(B:X.Ok->∀x∈scope.names,x.2 = .free->∃cc,X.env.cells.lookup x.1=some cc)(hdef:defaultsOf params X.env=([],[]):=by rfl):
  PE X (.Lambda params body scope pos) (Qj P pos (X.env.qual ++ "<lambda>") params body scope (cj X.env.cells scope.names [])):=by
 intro pins s σ H Q I ⟨hP,q⟩;refine W.kla_eval hdef ?_;obtain⟨ps,Jq,ht,hc⟩:=(show bQ X.prog X.w H s.heap P (.lam pos (X.env.qual ++ "<lambda>"))from I.hok P _ hP);have hg:s.heap.Ns mainGlobals X.mg:=I.mod.glob.keeps I.bk;have C:=T.hd.keeps I.bk;obtain⟨bm,ob,b1,b2,b3,b4,b5,b6⟩:=T.bm;have Lg:∀b o,X.base.get? b=some o->b≠P:=λb o e z=>by
  have:=(I.bs b o e).2;rw[z,hP]at this;cases this
 have hgP:mainGlobals≠P:=by
  obtain⟨o,es,ep,e,_⟩:=I.mod.glob;exact Lg _ o e
 have hbG:bm≠mainGlobals:=λz=>by
  obtain⟨o,es,ep,e,hd,_⟩:=I.mod.glob;rw[z,e]at b3;cases b3;rw[hd]at b6;cases b6
 have hb:s.heap.BuiltinsAt X.mg P:=⟨bm,ob,b1,b2,hbG,Lg _ _ b3,I.bk _ _ b3,b4,b5,b6⟩;cases hf:codeAmong pos ps.toList with
 |some cv =>
  obtain⟨c',o,u,vs,t,rfl,hz,hd,hv⟩:=hc _ hf;refine W.kla_makeFunctionHit (sN (B I.ok)) I.ok.glob hg hcode C Jq ht hf hb λctv h' tk hk hsz=>?_;have I1:Inv X pins σ (upd H h'.objs.size (oV h'.objs.size (X.env.qual ++ "<lambda>") params body scope (cj X.env.cells scope.names []) c')) _:=
   I.laid (t':=tk) (λb u e=>aU (W.kla_obj "<lambda>" (X.env.qual ++ "<lambda>") params body scope (cj X.env.cells scope.names []) ((X.mg "__name__").getD .none) c' ctv) (hk b u e)) hsz (KS (bJ _ rfl))
  have hn:H h'.objs.size=none:=I.hok.fresh hsz;exact⟨.ref h'.objs.size,_,I1,rfl,q _ _ (Same.put hn) hn ⟨c',o,u,Same.put hn _ _ hz,⟨vs,t,hd,hv⟩,aA⟩⟩
 |none =>
  refine W.kla_makeFunction (sN (B I.ok)) I.ok.glob hg hcode C Jq ht hf hgP hb λc' ctv h' tk hx hge hlt hrec htb=>?_;obtain⟨c2,oc,vs,t,e2,hoc,hd,hv⟩:=hrec;cases e2;have hn:H c'=none:=I.hok.fresh hge;have cP:c'≠P:=λz=>by rw[z,hP]at hn;cases hn
  have nP:∀b,H b=none->b≠P:=λb e z=>by rw[z,hP]at e;cases e
  have sm:Same H (upd H c' (.dk oc (.own c'))):=Same.put hn;have I1:Inv X pins σ (upd H c' (.dk oc (.own c'))) {s with heap:=h',toks:=tk}:=by
   refine I.un ⟨λb o e n _ _=>hx b o (nP b n) e,λb o e n _ _=>⟨o.slots,hx b o (nP b n) e⟩,λb o e n _=>?_,λb o e _=>?_,λb xs e=>sm _ _ e,λb o u e=>sm _ _ e,λb ps e=>⟨#[],by rw[sm _ _ e];simp⟩⟩ ?_
   ·rw[aJ (bI (dE (a9 e) hge))];exact n
   ·by_cases hb:b=P
    ·exact⟨_,by rw[hb];exact htb⟩
    ·exact⟨o,hx b o hb e⟩
   ·intro b u e
    by_cases hb:b=c'
    ·subst hb
     rw[aA]at e;cases e;exact⟨hoc,oc,hoc⟩
    ·rw[aJ hb]at e
     by_cases hb2:b=P
     ·subst hb2
      rw[hP]at e;cases e;have ea:(ps++#[rawInt pos.line,rawInt pos.col,.ref c']).toList=ps.toList++[rawInt pos.line,rawInt pos.col,.ref c']:=by simp
      refine⟨_,htb,?_,λcv z=>?_⟩
      ·rw[ea];exact abf _ ht
      ·rw[ea,codeAmong_snoc _ ht hf]at z
       cases z;exact⟨c',oc,.own c',vs,t,rfl,aA,hd,hv⟩
     ·refine(I.hok b u e).stay (λd v hd' r=>hx d v ?_ r) (λd r=>sm _ _ r) (λd xs r=>sm _ _ r) λd ob' u' r=>sm _ _ r
      rcases hd' with rfl|hd'
      ·exact hb2
      ·intro z;rw[z,hP]at hd';cases hd'
  have hsz:({s with heap:=h',toks:=tk}:Shared).heap.objs.size<=h'.objs.size:=aY _;have I2:Inv X pins σ (upd (upd H c' (.dk oc (.own c'))) h'.objs.size (oV h'.objs.size (X.env.qual ++ "<lambda>") params body scope (cj X.env.cells scope.names []) c')) _:=
   I1.laid (t':=tk) (λb u e=>aU (W.kla_obj "<lambda>" (X.env.qual ++ "<lambda>") params body scope (cj X.env.cells scope.names []) ((X.mg "__name__").getD .none) c' ctv) e) hsz (KS (bJ _ rfl))
  have hn2:upd H c' (.dk oc (.own c')) h'.objs.size=none:=I1.fresh;exact⟨.ref h'.objs.size,_,I2,rfl,q _ _ (sm.trans (Same.put hn2)) (sm.free hn2) ⟨c',oc,.own c',Same.put hn2 _ _ aA,⟨vs,t,hd,hv⟩,aA⟩⟩
end
theorem K7{α:Type}{x:Str}{u:α}:∀{l:List (Str × α)},(l.map (·.1)).Nodup->(x,u)∈l->l.lookup x=some u
 | [],_,h=>nomatch h
 | (y,v)::r,nd,h=>by
  rw[cE,fS]at nd;rw[gF]
  rcases bC.mp h with e|h2
  ·cases e;simp
  ·have:(x==y)=false:=by
    rw[mY];rintro rfl;exact nd.1 (cu.mpr ⟨_,h2,rfl⟩)
   rw[this];exact K7 nd.2 h2
theorem QG{α β:Type}:∀(l:List α) (m:List β),((l.zip m).map (·.1)).Sublist l
 | [],_=>by simp
 |_::_,[]=>by simp
 |a::l,b::m=>by rw[xq,cE];exact(QG l m).cons_cons a
theorem abO{ps:List Str}{us:List Value}{i:Nat}{x:Str}{u:Value}(nd:ps.Nodup)(h1:ps[i]?=some x)(h2:us[i]?=some u):(ps.zip us).reverse.lookup x=some u:=by
 refine K7 ?_ (List.mem_reverse.mpr (cV (i:=i) ?_))
 ·rw[List.map_reverse]
  refine(List.reverse_perm _).nodup_iff.mpr (nd.sublist ?_);exact QG _ _
 ·rw[List.getElem?_zip_eq_some];exact⟨h1,h2⟩
structure oW (ps fr:List Str) (sc:Scope):Prop where
 kind:sc.kind = .function
 co:sc.isCoroutine=false
 gen:sc.isGenerator=false
 nd:(ps++fr).Nodup
 qK:∀y∈sc.names,y.2≠.cell
 par:∀x∈ps,sc.names.lookup x=some .local
 Uu:∀x∈fr,sc.names.lookup x=some .free
noncomputable def nz(P:Program)(w:World)(K:W.Frag)(mg:Str->Option Value)(base:Heap)(N:List Str)(qual:Str)(scope:Scope)(p:Addr)(cd:Value)(cl:List (Str × Addr))(A:Around)(outer:List Env)(s:Shared)(H:Hp):Cx where
 prog:=P
 w:=w
 K:=K
 mg:=mg
 base:=base
 A:=A.deeper (W.envX qual scope s.heap.objs.size p cd cl)
 N:=N
 s₀:=s
 H₀:=H
 env:=W.envX qual scope s.heap.objs.size p cd cl
 outer:=outer
 stack:=W.envX qual scope s.heap.objs.size p cd cl::outer
 ex:=[]
 calm:=true
 fn:=λ_=>false
 pn:=[]
 xe:=λ_ _=>False
section
variable {P:Program} {w:World} {K:W.Frag} {mg:Str->Option Value} {base:Heap} {A:Around} {outer:List Env} {s:Shared} {H:Hp} {p c:Addr} {qual:Str} {params:Arguments} {body:Expr} {scope:Scope} {cl:List (Str × Addr)}
 {ps fr:List Str} {vs:List V} {us:List Value} {zs:St} {pm ctv:Value} {Q:VK} {t:TE}
structure mJ (h:Heap) (H:Hp) (scope:Scope) (cl:List (Str × Addr)) (fr:List Str) (zs:St):Prop where
 cell:∀x cc,cl.lookup x=some cc->(∃v,h.IsCell cc v)/\H cc=none
 inj:∀x y cc,cl.lookup x=some cc->cl.lookup y=some cc->x=y
 has:∀x,scope.names.lookup x=some .free->∃cc,cl.lookup x=some cc
 len:zs.length=fr.length
 val:∀(i:Nat) x v,fr[i]?=some x->zs[i]?=some (some v)->∃cc u,cl.lookup x=some cc/\h.IsCell cc (some u)/\RelV v u
theorem Xs(S:oW ps fr scope)(hd:A.handled=none)(e0:gC P w K mg base A outer s H)(hl:vs.length=ps.length)(r:Vals vs us)(L:mJ s.heap H scope cl fr zs){cd:Value}{h₁:Heap}{tk:Nat}(hns:h₁.Ns s.heap.objs.size λx=>(ps.zip us).reverse.lookup x)(hk:∀b o,s.heap.get? b=some o->h₁.get? b=some o):
  Inv (nz P w K mg base (ps++fr) qual scope p cd cl A outer s H) [] (vs.map some++zs) H {s with heap:=h₁,toks:=tk}:=by
 have jJ:∀b:Addr,b ∉ (nz P w K mg base (ps++fr) qual scope p cd cl A outer s H).ex:=λb z=>absurd (show b∈([]:List Addr)from z) (by simp);refine⟨⟨e0.mod,S.kind,rfl,rfl,aY _,L.inj,λy hy=>?_,λy c h=>(nomatch h),λ_=>hd,Around.frames_deeper e0.frames,.inr ⟨rfl,rfl⟩,λb z=>absurd z (jJ b),e0.bs,e0.fW,λb _ _=>jJ b,λb z=>absurd z (jJ b),e0.eJ,e0.iT⟩,
  rfl,e0.bare,Un.kept hk,⟨_,hns,λi y v h1 h2 h3=>?_⟩,λy cc h=>?_,e0.hok.fresh (aY _),λy cc h=>(L.cell y cc h).2,λq hq=>absurd (show q∈([]:List (Addr × Obj))from hq) (by simp),e0.hok.kept hk,?_⟩
 ·have hy:scope.names.lookup y=some .cell\/scope.names.lookup y=some .free:=hy
  rcases hy with hy|hy
  ·exact absurd rfl (S.qK _ (iN hy))
  ·exact L.has y hy
 ·have h1:(ps++fr)[i]?=some y:=h1
  by_cases hi:i<vs.length
  ·rw[jh (by simpa using hi),cT]at h2
   rw[jh (by omega)]at h1;cases e:vs[i]? with
   |none=>rw[e]at h2;cases h2
   |some a =>
    rw[e]at h2;cases h2;obtain⟨u,hu,rv⟩:=r.get e;exact⟨u,rv,.inl ⟨S.par y (cV h1),abO (S.nd.sublist (List.sublist_append_left _ _)) h1 hu⟩⟩
  ·rw[iH (by simpa using hi),aG]at h2
   rw[iH (by omega)]at h1;rw[hl]at h2;obtain⟨cc,u,e1,e2,e3⟩:=L.val _ y v h1 h2;exact⟨u,e3,.inr ⟨.inr (S.Uu y (cV h1)),cc,e1,e2.keeps hk⟩⟩
 ·obtain⟨⟨v,z⟩,_⟩:=L.cell y cc h
  exact⟨v,z.keeps hk⟩
 ·show _=(ps++fr).length
  rw[cU,aG,cU,L.len,hl]
theorem KR (S:oW ps fr scope) (hr:A.depth<recursionLimit) (hd:A.handled=none) (e0:gC P w K mg base A outer s H) (ho:s.heap.get? p=some (W.kla_obj "<lambda>" qual params body scope cl pm c ctv)) (hcd:s.heap.CodeRec (.ref c) qual)
  (hb:bindArgs (W.kla_fn "<lambda>" qual params body scope cl pm (.ref c) ctv) ⟨us,[]⟩=pure (ps.zip us)) (hl:vs.length=ps.length) (r:Vals vs us) (L:mJ s.heap H scope cl fr zs)
  (hbody:PE (nz P w K mg base (ps++fr) qual scope p (.ref c) cl A outer s H) body t) (hq:t (vs.map some++zs) H Q) :
  codeAny (model P w) A (.call (.ref p) ⟨us,[]⟩) (λr s'=>∃u,r = .ok (.ret u)/\CE outer P w H s Q u s') s:=by
 have lim:s.heap.NoLimit:=e0.mod.nolimit.keeps λb o e=>(e0.bs b o e).1;refine W.kla_callFunE hr ho rfl S.co S.gen rfl hcd ?_;rw[hb];refine aK (wpAny_newFunctionEnv S.qK (λx hx=>S.par _ (xo hx).1) (λh₁ hns hsb=>?_) S.kind);have hk:∀b o,s.heap.get? b=some o->h₁.get? b=some o:=λb o e=>hsb.extBut b o (bI (a9 e)) (aU _ e);refine⟨lim.keeps hk,?_⟩;show codeAny _ _ (.expr body (W.envX qual scope s.heap.objs.size p (.ref c) cl)) _ _;have I:=Xs (qual:=qual) (p:=p) (cd:=.ref c) (tk:=s.toks+(ps.zip us).length) S hd e0 hl r L hns hk;refine W.kla_codeExpr (h6 (hbody [] _ _ H Q I hq) (λv s' ⟨x,H',J,rv,q⟩=>?_) λ_ _ z=>False.elim z);exact⟨v,rfl,x,H',J.os,J.bare,J.base,J.hok,rv,q⟩
end
section
variable {X:Cx} {pins:List (Addr × Obj)} {σ:St} {H:Hp} {s:Shared} {p:Addr} {qual:Str} {params:Arguments} {body:Expr} {scope:Scope} {ps:List Str} {fr:List (Str × Nat)} {A:Around} {t:TE} {Q:VK} {vs:List V} {us:List Value} {E:Value->Shared->Prop}
noncomputable def lamσ(fr:List (Str × Nat))(σ:St):St:=fr.map λq=>σ.getD q.2 none
theorem KQ(B:fw X scope fr)(I:Inv X pins σ H s):mJ s.heap H scope (cj X.env.cells scope.names []) (fr.map (·.1)) (lamσ fr σ) where
 cell:=λx cc h=>⟨I.cell x cc (B.sub I.ok h),I.e9 x cc (B.sub I.ok h)⟩
 inj:=λx y cc h1 h2=>I.ok.inj x y cc (B.sub I.ok h1) (B.sub I.ok h2)
 has:=λx h=>qd (iN h)
 len:=by unfold lamσ;simp
 val:=λi x v e1 e2=>by
  unfold lamσ at e2;rw[cT]at e1 e2;cases hp:fr[i]? with
  |none=>rw[hp]at e1;cases e1
  |some q =>
   rw[hp]at e1 e2;simp only[GJ,xG]at e1 e2;obtain⟨i1,i2⟩:=B.ix q (cV hp);subst e1;have e2':σ[q.2]?=some (some v):=by
    rw[bh]at e2;cases z:σ[q.2]? with
    |none=>rw[z]at e2;cases e2
    |some y=>rw[z]at e2;exact congrArg some e2
   have kX:X.env.kindOf q.1=some .cell\/X.env.kindOf q.1=some .free:=B.free (q.1,.free) (iN i2) rfl;obtain⟨m',hn',hl'⟩:=I.loc;obtain⟨u,r,l⟩:=hl' q.2 q.1 v i1 e2' (.inr kX)
   rcases l with⟨k,_⟩|⟨_,cc,hc,z⟩
   ·rcases kX with w|w<;>(rw[k]at w;cases w)
   ·obtain⟨c',hc'⟩:=qd (cells:=X.env.cells) (acc:=[]) (iN i2)
    have:=B.sub I.ok hc';rw[hc]at this;cases this;exact⟨cc,u,hc',z,r⟩
theorem Xr(B:fw X scope fr)(S:oW ps (fr.map (·.1)) scope)(I:Inv X pins σ H s)(L:eE H p qual params body scope (cj X.env.cells scope.names []))(hA:A.frames=X.A.frames)(hr:A.depth<recursionLimit)(hd:A.handled=none)
  (hb:∀(cl:List (Str × Addr)) (pm cd ctv:Value) (us:List Value),us.length=ps.length->bindArgs (W.kla_fn "<lambda>" qual params body scope cl pm cd ctv) ⟨us,[]⟩=pure (ps.zip us))
  (hbody:∀(c:Addr),PE (nz X.prog X.w X.K X.mg X.base (ps++fr.map (·.1)) qual scope p (.ref c) (cj X.env.cells scope.names []) A X.stack s H) body t)
  (hl:vs.length=ps.length) (r:Vals vs us) (hq:t (vs.map some++lamσ fr σ) H Q):wpAny (model X.prog X.w) A (call (.ref p) us) (EP X pins σ Q) E s:=by
 obtain⟨c,pm,ctv,ho,hcd⟩:=L.get I.hok;have e0:=I.env0;have e1:gC X.prog X.w X.K X.mg X.base A X.stack s H:=⟨hA.trans e0.frames,e0.mod,e0.bs,e0.fW,e0.eJ,e0.iT,e0.hok,e0.bare⟩;refine pF (hZ (KR S hr hd e1 ho hcd (hb _ _ _ _ _ (by rw[<- r.length];exact hl)) hl r (KQ B I) (hbody c) hq) λr s' ⟨u,e,hq⟩=>?_);subst e;exact I.after hq
end
theorem Az:∀{ns:List Int} {vs:List Value},Vals (ns.map V.int) vs->IntsAre vs ns
 | [],_,.nil=>.nil
 |n::ns,_,.cons r t=>by
  obtain⟨k,rfl⟩:=r;exact .cons n k (Az t)
theorem Zh{α β:Type}{R:α->β->Prop}{l' m':List β}(h:m'.Perm l'):∀{l:List α},Paired R l l'->∃m,m.Perm l/\Paired R m m':=by
 induction h with
 |nil=>intro l p;exact⟨l,.refl _,p⟩
 |cons x _ ih =>
  intro l p;cases p with
  |cons r t =>
   obtain⟨m,h1,h2⟩:=ih t;exact⟨_::m,h1.cons _,.cons r h2⟩
 |swap x y l =>
  intro l p;cases p with
  |cons r t =>
   cases t with
   |cons r' t'=>exact⟨_,.swap _ _ _,.cons r' (.cons r t')⟩
 |trans _ _ ih1 ih2 =>
  intro l p;obtain⟨m1,h1,h2⟩:=ih2 p;obtain⟨m2,h3,h4⟩:=ih1 h2;exact⟨m2,h3.trans h1,h4⟩
noncomputable def pK(kz:List Int)(xs ys:List V):Prop:=∃ps:List (Int × V),ps.Perm (kz.zip xs)/\ys=ps.map Prod.snd/\ps.Pairwise λp q=>p.1<=q.1
theorem QJ:∀{kz:List Int} {xs:List V} {us:List Value},Vals xs us->Paired (λ(p:Int × V) (q:Int × Value)=>p.1=q.1/\RelV p.2 q.2) (kz.zip xs) (kz.zip us)
 | [],_,_,_=>by simp;exact .nil
 |_::_,_,_,.nil=>by simp;exact .nil
 |k::kz,_,_,.cons r t=>by rw[xq,xq];exact .cons ⟨rfl,r⟩ (QJ t)
theorem Mv:∀{l:List (Int × V)} {m:List (Int × Value)},Paired (λ(p:Int × V) (q:Int × Value)=>p.1=q.1/\RelV p.2 q.2) l m->Vals (l.map Prod.snd) (m.map Prod.snd)/\l.map Prod.fst=m.map Prod.fst
 |_,_,.nil=>⟨.nil,rfl⟩
 |_,_,.cons r t=>by
  obtain⟨h1,h2⟩:=Mv t;exact⟨.cons r.2 h1,by rw[cE,cE,h2,r.1]⟩
theorem aaR{kz:List Int}{xs:List V}{us out:List Value}(r:Vals xs us)(h:KskOut false kz us out):∃ys,Vals ys out/\pK kz xs ys:=by
 obtain⟨qs,h1,h2,h3⟩:=h;obtain⟨ps,g1,g2⟩:=Zh h1 (QJ (kz:=kz) r);obtain⟨g3,g4⟩:=Mv g2;refine⟨ps.map Prod.snd,by rw[h2];exact g3,ps,g1,rfl,?_⟩;have h5:(qs.map Prod.fst).Pairwise (·<=·):=by
  rw[jk];exact h3.imp λ{a b} z=>z
 rw[<- g4,jk]at h5;exact h5
section
variable {prog:Program} {w:World} {A:Around} {E:Value->Shared->Prop} {s:Shared} {a kS:Addr} {e1:Nat} {keys:Array Value} {its:List Value} {kz:List Int}
theorem aaN{R:PySem.Fin->Shared->Prop}(hk:IntsAre keys.toList kz)(hlen:kz.length=its.length)(h64:its.length<64)(h:∀st:SortSt,(arrOf st).Perm (keys.zip its.toArray)->failedOf st=none->SortedTo (arrOf st) (arrOf st).size->wpAny (model prog w) A (ksk_tail a false e1 (.ref kS) st) R E s):wpAny (model prog w) A (ksk_end a false its.toArray e1 (.ref kS) keys) R E s:=by
 have n1:keys.size=its.length:=by rw[<- gw,hk.length];exact hlen
 have n2:(keys.zip its.toArray).size=its.length:=by simp[n1]
 unfold ksk_end;simp only[k0,jH]
 by_cases few:its.toArray.size<2
 ·simp only[aC few]
  refine ah (aK ?_);rw[StateT.run_pure];refine ah (aK (h _ (Array.Perm.refl _) rfl λi j hij hj=>?_));have hj':j<(keys.zip its.toArray).size:=hj;rw[cw]at few;rw[n2]at hj';obtain rfl:i=j:=by omega
  exact Int.le_refl _
 ·simp only[aq few]
  rw[cw]at few;rw[ksk_kind hk (by omega)];refine ah (aK (ah (h6 (wpS_sortRuns (a₀:=keys.zip its.toArray) (st:=SortSt.mk' oneType' (keys.zip its.toArray) #[] 7 none)
   (Q:=λ_ q=>(arrOf q).Perm (keys.zip its.toArray)/\failedOf q=none/\SortedTo (arrOf q) (keys.zip its.toArray).size) (ksk_intKeys hk) ⟨Array.Perm.refl _,rfl,rfl,rfl⟩ (by omega) (by omega) λq z1 z2 z3=>⟨z1,z2,z3⟩) ?_ λ_ _ z=>z)))
  rintro⟨⟨⟩,q⟩ s' ⟨rfl,z1,z2,z3⟩;exact h q z1 z2 (by rw[z1.size_eq];exact z3)
end
noncomputable def lA(K:W.Frag)(H:Hp)(v:V)(xs:List V):Prop:=
 (∃r n,v = .ref r/\H r=some (.rng 0 n)/\-(2 ^ 62)<=n/\n<2 ^ 62/\xs=(List.range n.toNat).map λ(i:Nat)=>V.int i)\/(∃r,v = .ref r/\ai K H r xs)
section
variable {X:Cx} {pins:List (Addr × Obj)} {σ:St} {H:Hp} {s:Shared} {A:Around} {E:Value->Shared->Prop}
theorem abt{its:Array Value}{n:Nat}(h:ItemsOf (λi v=>∃t,v=Value.int (0+(i:Nat)*1) t) its n):Vals ((List.range n).map λ(i:Nat)=>V.int i) its.toList:=by
 have go:∀(us:List Value) (k:Nat),(∀(j:Nat) v,us[j]?=some v->∃t,v=Value.int ((k+j:Nat):Int) t)->Vals ((List.range' k us.length).map λ(i:Nat)=>V.int i) us:=by
  intro us
  induction us with
  |nil=>intro k _;exact .nil
  |cons u us ih =>
   intro k hu;rw[fz,List.range'_succ,cE];refine .cons ?_ (ih (k+1) λj v e=>?_)
   ·obtain⟨t,e⟩:=hu 0 u rfl
    exact⟨t,by simpa using e⟩
   ·obtain⟨t,e⟩:=hu (j+1) v (by simpa using e)
    exact⟨t,by rw[e];congr 1;omega⟩
 have:=go its.toList 0 λj v e=>by
  obtain⟨t,q⟩:=h.2 j v (by simpa using e);exact⟨t,by rw[q];congr 1;simp⟩
 rw[gw,h.1]at this;rw[List.range_eq_range'];exact this
theorem Tp{v:V}{u:Value}{xs:List V}{R:List Value->Shared->Prop}(hh:A.handled=none)(I:Inv X pins σ H s)(r:RelV v u)(h:lA X.K H v xs)(hz:xs.length<=2 ^ 24)(q:∀its s',Vals xs its->Inv X pins σ H s'->R its s'):wpAny (model X.prog X.w) A (collect u) R E s:=by
 have Ke:(2:Nat) ^ 24<=sizeLine:=by decide +kernel
 rcases h with⟨a,n,rfl,ha,b1,b2,rfl⟩|⟨a,rfl,ha⟩
 ·obtain rfl:u = .ref a:=r
  obtain⟨t,t',t'',ea⟩:=(show bQ X.prog X.w H s.heap a (.rng 0 n)from I.hok a _ ha);have sz:n.toNat<=2 ^ 24:=by simpa using hz
  unfold collect;refine ah (wpAny_runValue (lg entry_proto_collect' ?_));show wpAny _ _ (newList []>>=λl=>again (.builtin "list.__iadd__" ⟨[l,.ref a],[]⟩)) _ _ s;have old:∀b o,s.heap.get? b=some o->(s.heap.push (seqObj "list" #[] 0)).get? b=some o:=λb o e=>aU _ e;have add:codeAny (model X.prog X.w) A (.builtin "list.__iadd__" ⟨[.ref s.heap.objs.size,.ref a],[]⟩) (λr s'=>r = .ok (.ret (.ref s.heap.objs.size))/\∃h' tk acc c',s' = {s with heap:=h',toks:=tk}/\(∀b o,s.heap.get? b=some o->h'.get? b=some o) /\
    h'.get? s.heap.objs.size=some {cls:=.type "list", dict:=none,data:=.seq acc c',slots:=#[]}/\Vals ((List.range n.toNat).map λ(i:Nat)=>V.int i) acc.toList) {s with heap:=s.heap.push (seqObj "list" #[] 0)}:=by
   refine lg entry_list_iadd' ?_;show wpAny _ A.in1 (Builtin.List.listExtendWith (.ref s.heap.objs.size) (.ref a) (.ref s.heap.objs.size)) _ _ _;exact wpAny_extend_range (s:={s with heap:=s.heap.push (seqObj "list" #[] 0)}) (R:=λr s'=>r = .ok (.ret (.ref s.heap.objs.size))/\∃h' tk acc c',s' = {s with heap:=h',toks:=tk}/\(∀b o,s.heap.get? b=some o->h'.get? b=some o) /\
    h'.get? s.heap.objs.size=some {cls:=.type "list", dict:=none,data:=.seq acc c',slots:=#[]}/\Vals ((List.range n.toNat).map λ(i:Nat)=>V.int i) acc.toList)
    (n:=n.toNat) hh (old _ _ ea) (small_one (by omega) (by omega) b1 b2) (by rw[rangeSize_one];split<;>omega) sz s.heap.objs.size (.ref s.heap.objs.size) 0 (bJ _ rfl) λh' tk acc c' hk hS hacc =>
     ⟨rfl,h',tk,acc,c',rfl,λb o e=>hk b o (bI (a9 e)) (old b o e),hS,abt hacc⟩
  refine ah (pG (aK ⟨GR _ (by decide +kernel),hZ add λr s' hr=>?_⟩));obtain⟨rfl,h',tk,acc,c',rfl,hk,hS,hv⟩:=hr;show wpAny _ A (load s.heap.objs.size>>=λo=>match o.data with | .seq xs _=>pure xs.toList|_=>unsupported "internal:collect") _ _ _;refine ah (wpAny_load hS ?_);exact aK (q _ _ hv (I.kept hk))
 ·obtain rfl:u = .ref a:=r
  obtain⟨its,hl,rv⟩:∃its:List Value,s.heap.IsList a its.toArray/\Vals xs its:=by
   rcases ha with ha|⟨o,its,n,e1,e2,e0,e3,e4,e6⟩
   ·obtain⟨_,its,n,rv,e⟩:=ha.ok I.hok
    exact⟨its,⟨_,e,rfl,n,rfl⟩,rv⟩
   ·exact⟨its.toList,⟨o,I.cF _ _ e1,e2,n,by simpa using e3⟩,e6⟩
  refine collect_list hl (q _ _ rv (I.kept λb o e=>?_)) (by rw[<- rv.length];omega);rw[pD _ _ _ _ (bI (a9 e))];exact aU _ e
end
section
variable {X:Cx} {pins:List (Addr × Obj)} {σ:St} {G0:Hp} {s:Shared} {A:Around} {E:Value->Shared->Prop} {a kS p:Addr} {e1:Nat} {qual x:Str} {params:Arguments} {body:Expr} {scope:Scope} {fr:List (Str × Nat)} {tb:TE}
 {xs:List V} {its:List Value} {R:PySem.Fin->Shared->Prop} {Kp:Nat->V->Hp->Prop}
structure rR (X:Cx) (qual x:Str) (params:Arguments) (body:Expr) (scope:Scope) (fr:List (Str × Nat)) (tb:TE):Prop where
 blk:fw X scope fr
 sc:oW [x] (fr.map (·.1)) scope
 bind:∀(cl:List (Str × Addr)) (pm cd ctv:Value) (us:List Value),us.length=1->bindArgs (W.kla_fn "<lambda>" qual params body scope cl pm cd ctv) ⟨us,[]⟩=pure ([x].zip us)
 run:∀(A:Around) (s:Shared) (H:Hp) (p c:Addr),A.guards=X.A.guards->A.units<=X.A.units+2->A.depth=X.A.depth->PE (nz X.prog X.w X.K X.mg X.base ([x]++fr.map (·.1)) qual scope p (.ref c) (cj X.env.cells scope.names []) A X.stack s H) body tb
theorem sort_keys(hA:A.frames=X.A.frames)(hd:A.handled=none)(hr:A.depth<recursionLimit)(qm:A.guards=X.A.guards/\A.units<=X.A.units+2/\A.depth=X.A.depth)(KL:rR X qual x params body scope fr tb)(hlen:its.length<1000)
  (I:Inv X ((a,seqObj "list" #[] e1)::pins) σ G0 s) (hkS:G0 kS=some (.lst [])) (L:eE G0 p qual params body scope (cj X.env.cells scope.names [])) (rv:Vals xs its)
  (mono:∀i z H H',Kp i z H->dj kS H H'->Kp i z H') (turn:∀(i:Nat) y,xs[i]?=some y->∀H3,dj kS G0 H3->(∃kv,H3 kS=some (.lst kv))->tb (some y::lamσ fr σ) H3 λz H4=>Kp i z H4/\Same H3 H4)
  (fin:∀(kv:List V) (G:Hp) (s':Shared) (keys:List Value) (n:Nat),kv.length=xs.length->(∀(i:Nat) z,kv[i]?=some z->Kp i z G)->Inv X ((a,seqObj "list" #[] e1)::pins) σ G s'->G kS=some (.lst kv)->dj kS G0 G ->
   s'.heap.get? kS=some (seqObj "list" keys.toArray n)->Vals kv keys->wpAny (model X.prog X.w) A (ksk_end a false its.toArray e1 (.ref kS) keys.toArray) R E s') :
  wpAny (model X.prog X.w) A (ksk_rest a (.ref p) false its.toArray e1 (.ref kS)) R E s:=by
 have big:(1000:Nat)<=sizeLine:=by decide +kernel
 unfold ksk_rest;refine ah (lr (ah ?_))
 first
  |rw[List.forIn_toArray]
  |rw[<- Array.forIn_toList]
 refine ksk_fold (λi s'=>∃(kv:List V) (G:Hp),kv.length=i/\(∀(j:Nat) z,kv[j]?=some z->Kp j z G)/\Inv X ((a,seqObj "list" #[] e1)::pins) σ G s'/\G kS=some (.lst kv)/\dj kS G0 G) its 0 s
  ⟨[],G0,rfl,λj z e=>by simp at e,I,hkS,λb o _ e=>e⟩ ?_ ?_
 ·rintro j v s' hv ⟨kv,G,hl,hK,J,hG,sm⟩
  rw[pz]at hl ⊢;obtain⟨y,hy,ry⟩:∃y,xs[j]?=some y/\RelV y v:=by
   have hj:j<xs.length:=by rw[rv.length];exact(bD.mp hv).1
   obtain⟨u,e1,e2⟩:=rv.get (aI hj);rw[hv]at e1;cases e1;exact⟨_,aI hj,e2⟩
  have hj:j<its.length:=(bD.mp hv).1;have LG:eE G p qual params body scope (cj X.env.cells scope.names []):=by
   obtain⟨c,o,u,h1,h2,h3⟩:=L.ex;exact⟨c,o,u,sm _ _ (kB h1 hkS (by intro z;cases z)) h1,h2,sm _ _ (kB h3 hkS (by intro z;cases z)) h3⟩
  refine ah (ll (h6 (Xr (E:=λ_ _=>False) KL.blk KL.sc J LG hA hr hd KL.bind (λc=>KL.run A s' G p c qm.1 qm.2.1 qm.2.2) (vs:=[y]) (us:=[v]) rfl (.cons ry .nil) (turn j y hy G sm ⟨_,hG⟩)) (λk s2 ⟨z,H4,J4,rz,hz,s4⟩=>?_) λ_ _ z=>z.elim));have g4:=s4 _ _ hG;obtain⟨_,ks,n,rk,lk,ek⟩:=J4.ky g4;refine ah (pB ek rfl ?_ (by show(ks.toArray).size<=sizeLine;rw[cw];omega) (by show(ks.toArray.push k).size<=sizeLine+1;rw[Array.size_push,cw];omega));have J5:=J4.qF (f:=(·.push k)) (its':=ks++[k]) (ys:=kv++[z]) (t':=s2.toks) g4 ek (by simp) (rk.append (.cons rz .nil)) (by rw[cU,xi];omega);have sx:dj kS H4 (upd H4 kS (.lst (kv++[z]))):=λb o hb e=>by rw[aJ hb];exact e
  refine aK ⟨rfl,kv++[z],_,by rw[cU,xi,hl],λi q e=>?_,J5,aA,λb o hb e=>sx b o hb (s4 b o (sm b o hb e))⟩
  by_cases hi:i<kv.length
  ·rw[jh hi]at e
   exact mono _ _ _ _ (mono _ _ _ _ (hK i q e) λb o _ e=>s4 b o e) sx
  ·rw[iH (xA hi)]at e
   have hi2:i - kv.length=0:=by
    have:=(bD.mp e).1;rw[xi]at this;omega
   rw[hi2]at e;cases e;obtain rfl:i=j:=by omega
   exact mono _ _ _ _ hz sx
 ·rintro s' ⟨kv,G,hl,hK,J,hG,sm⟩
  obtain⟨_,ks,n,rk,lk,ek⟩:=J.ky hG;refine ah (listItems_at ek rfl ?_);exact fin kv G s' ks n (by rw[hl,rv.length];omega) hK J hG sm ek rk
theorem aaO {keys:List Value} {n:Nat} {G:Hp} {kv:List V} {st:SortSt} {ys:List V} {out:List Value} (I:Inv X ((a,seqObj "list" #[] e1)::pins) σ G s) (hkS:G kS=some (.lst kv)) (ek:s.heap.get? kS=some (seqObj "list" keys.toArray n))
  (hz:keys.length<=sizeLine) (fa:dq X pins G a) (hf:failedOf st=none) (ho:((arrOf st).map (·.2)).toList=out) (rv:Vals ys out) (WM:out.length<=sizeLine)
  (q:∀s',Inv X pins σ (upd (upd G kS (.lst [])) a (.lst ys)) s'->R (.done (.ret .none)) s'):wpAny (model X.prog X.w) A (ksk_tail a false e1 (.ref kS) st) R E s:=by
 have ea:=(I.pin (a,seqObj "list" #[] e1) (fQ _ (cC ..))).1;have Lk:a≠kS:=λz=>by rw[<- z,fa.1]at hkS;cases hkS
 have ho':(arrOf st).map (·.2)=out.toArray:=by rw[<- ho]
 unfold ksk_tail;dsimp only;refine ah (pB ek rfl ?_ (by show(keys.toArray).size<=sizeLine;rw[cw];exact hz) (cW _));have J1:=I.qF (f:=λ_=>#[]) (its':=[]) (ys:=[]) (t':=s.toks) hkS ek rfl .nil (cW _);have nB:(s.heap.update kS (Obj.mapSeq λ_=>(#[]:Array Value))).get? a=some (seqObj "list" #[] e1):=by rw[pD _ _ _ _ Lk];exact ea
 refine ah (xU (ah (seqEpoch_at nB rfl (ah (pB nB rfl ?_ (cW _) (by show((arrOf st).map (·.2)).size<=sizeLine+1;rw[ho',cw];omega))))));rw[hf];simp only[bne_self_eq_false,k0,jH];refine aK (q _ ?_);have K1:Inv X pins σ (upd G kS (.lst [])) {s with heap:=s.heap.update kS (Obj.mapSeq λ_=>(#[]:Array Value)),toks:=s.toks}:=J1.uX λp hp=>(J1.pin p (fQ _ (bT _ hp)));have gn:upd G kS (.lst []) a=none:=by rw[aJ Lk];exact fa.1
 have keep:∀b o,b≠a->(s.heap.update kS (Obj.mapSeq λ_=>(#[]:Array Value))).get? b=some o->((s.heap.update kS (Obj.mapSeq λ_=>(#[]:Array Value))).update a (Obj.mapSeq λ_=>(arrOf st).map (·.2))).get? b=some o:=λb o hb e=>by
  rw[pD _ _ _ _ hb];exact e
 have hit:∃c,((s.heap.update kS (Obj.mapSeq λ_=>(#[]:Array Value))).update a (Obj.mapSeq λ_=>(arrOf st).map (·.2))).get? a=some (seqObj "list" out.toArray c):=by
  rw[ho'];exact⟨_,r0 nB λ_=>out.toArray⟩
 obtain⟨c,hit⟩:=hit;have lY:∀b u,upd G kS (.lst []) b=some u->b≠a:=λb u e z=>by rw[z,gn]at e;cases e
 refine Inv.step (s:={s with heap:=s.heap.update kS (Obj.mapSeq λ_=>(#[]:Array Value)),toks:=s.toks}) (g':=s.gens) (d':=s.drawn) (t':=s.toks) (ch:=[a]) K1 (λb hb=>?_) (λb o _ _ hc e _=>keep b o (λz=>hc (by simp[z])) e) (λb o _ _ hc e _=>⟨o.slots,keep b o (λz=>hc (by simp[z])) e⟩) (λb o hc _ n=>?_) (λb o hc e=>⟨o,keep b o (λz=>hc (by simp[z])) e⟩)
  (λb zs e=>?_) (λb o u e=>?_) (λb ps e=>?_) (λm hm=>?_) (λb u e=>?_) K1.bare
 ·obtain rfl:b=a:=by simpa using hb
  exact⟨fa.2.2.2.1,fa.2.1,fa.2.2.2.2.1,fa.2.2.2.2.2⟩
 ·rw[aJ (λz=>hc (by simp[z]))];exact n
 ·rw[aJ (lY b _ e)];exact e
 ·rw[aJ (lY b _ e)];exact e
 ·exact⟨#[],by rw[aJ (lY b _ e),e];simp⟩
 ·obtain⟨o,es,ep,h1,h2⟩:=hm
  exact⟨o,es,ep,keep _ o fa.2.1.symm h1,h2⟩
 ·by_cases hb:b=a
  ·subst hb
   rw[aA]at e;cases e;exact⟨by rw[rv.length];exact WM,out,c,rv,hit⟩
  ·rw[aJ hb]at e
   refine(K1.hok b u e).stay (λd v hd' r=>keep d v ?_ r) (λd r=>by rw[aJ (lY d _ r)];exact r) (λd xs r=>by rw[aJ (lY d _ r)];exact r) λd ob u r=>by rw[aJ (lY d _ r)];exact r
   rcases hd' with rfl|hd'
   ·exact hb
   ·exact lY d _ hd'
end
section
variable {X:Cx} {pins:List (Addr × Obj)} {σ:St} {H:Hp} {s:Shared} {qual x:Str} {params:Arguments} {body:Expr} {scope:Scope} {fr:List (Str × Nat)} {tb:TE} {p:Addr} {v:V} {u:Value} {xs:List V} {kz:List Int} {Q:VK} {E:Value->Shared->Prop}
theorem aaP{A:Around}{a:Addr}{its:List Value}{R:PySem.Fin->Shared->Prop}(hA:A.frames=X.A.frames)(hd:A.handled=none)(hr:A.depth<recursionLimit)(qm:A.guards=X.A.guards/\A.units<=X.A.units+2/\A.depth=X.A.depth)(KL:rR X qual x params body scope fr tb)
  (I:Inv X pins σ H s) (fa:dq X pins H a) (ea:s.heap.get? a=some (seqObj "list" its.toArray 0)) (rv:Vals xs its) (L:eE H p qual params body scope (cj X.env.cells scope.names [])) (hl:kz.length=xs.length) (h64:xs.length<64)
  (turn:∀(i:Nat) y k,xs[i]?=some y->kz[i]?=some k->∀H3,Same H H3->tb (some y::lamσ fr σ) H3 λz H4=>z = .int k/\Same H3 H4)
  (q:∀ys H3 s',Same H H3->H3 a=some (.lst ys)->pK kz xs ys->Inv X pins σ H3 s'->R (.done (.ret .none)) s') :
  wpAny (model X.prog X.w) A (ksk_tree a (.ref p) false) R E s:=by
 have big:(64:Nat)<=sizeLine:=by decide +kernel
 have l1:=rv.length;have al:a<s.heap.objs.size:=a9 ea;unfold ksk_tree;refine ah (listItems_at ea rfl (ah (pB ea rfl ?_ (by show(its.toArray).size<=sizeLine;rw[cw];omega) (cW _))));obtain⟨e1,nB⟩:∃e1,(s.heap.update a (Obj.mapSeq λ_=>(#[]:Array Value))).get? a=some (seqObj "list" #[] e1):=⟨_,r0 ea λ_=>#[]⟩;have I1:Inv X pins σ H {s with heap:=s.heap.update a (Obj.mapSeq λ_=>(#[]:Array Value)),toks:=s.toks}:=
  I.turned (λb o hb e=>by rw[pD _ _ _ _ hb];exact e) fa.1 fa.2.1 fa.2.2.2.1 fa.2.2.2.2.1 fa.2.2.2.2.2
 refine ah (seqEpoch_at nB rfl (ah (xV (ah (pG (iQ ?_) (cW _))) (by show its.length<=sizeLine;omega))));have I2:Inv X pins σ H {s with heap:=(s.heap.update a (Obj.mapSeq λ_=>(#[]:Array Value))).push {cls:=.type "tuple", data:=.seq its.toArray},toks:=s.toks}:=I1.kept λb o e=>aU _ e;have I3:=I2.Bn (its:=[]) (ys:=[]) (t':=s.toks) .nil (cW _);have Iw:((s.heap.update a (Obj.mapSeq λ_=>(#[]:Array Value))).push {cls:=.type "tuple", data:=.seq its.toArray}).get? a=some (seqObj "list" #[] e1):=aU _ nB;have nH:H ((s.heap.update a (Obj.mapSeq λ_=>(#[]:Array Value))).push {cls:=.type "tuple", data:=.seq its.toArray}).objs.size=none:=I2.fresh;have nk:a≠((s.heap.update a (Obj.mapSeq λ_=>(#[]:Array Value))).push {cls:=.type "tuple", data:=.seq its.toArray}).objs.size:=bI (a9 Iw);generalize hkS:((s.heap.update a (Obj.mapSeq λ_=>(#[]:Array Value))).push {cls:=.type "tuple", data:=.seq its.toArray}).objs.size=kS at I3 nH nk;have Uj:dq X pins (upd H kS (.lst [])) a:=⟨by rw[aJ nk];exact fa.1,fa.2⟩;have I4:Inv X ((a,seqObj "list" #[] e1)::pins) σ (upd H kS (.lst [])) _:=I3.uX λq hq=>by
  rcases bC.mp hq with rfl|hq
  ·exact⟨aU _ Iw,Uj.1,fa.2.1,fa.2.2.1,λv z=>by cases z⟩
  ·exact I3.pin q (fQ _ hq)
 have sm:Same H (upd H kS (.lst [])):=Same.put nH;refine sort_keys (Kp:=λi z _=>∀k,kz[i]?=some k->z = .int k) hA hd hr qm KL (by omega) I4 aA (L.same sm) rv (λ_ _ _ _ z _=>z) (λi y hy H3 s3 _=>?_) (λkv G s' keys n hkv hK J hG sX ek rk=>?_)
 ·have hi:i<kz.length:=by rw[hl];exact(bD.mp hy).1
  have:=turn i y _ hy (aI hi) H3 (dj.of nH λb o hb e=>s3 b o hb (sm b o e));have e:(λ(z:V) (H4:Hp)=>z = .int kz[i]/\Same H3 H4)=λz H4=>(∀k,kz[i]?=some k->z = .int k)/\Same H3 H4:=by
   funext z H4
   refine propext ⟨λ⟨h1,h2⟩=>⟨λk ek=>?_,h2⟩,λ⟨h1,h2⟩=>⟨h1 _ (aI hi),h2⟩⟩;rw[aI hi]at ek;cases ek;exact h1
  rw[e]at this;exact this
 ·have T6:kv=kz.map V.int:=by
   refine j4 (by rw[aG];omega) λi h1 h2=>?_;rw[List.getElem_map];exact hK i _ (aI h1) _ (aI (by rw[aG]at h2;exact h2))
  subst T6;have hk:IntsAre keys.toArray.toList kz:=by simpa using Az rk
  have hkl:keys.length=kz.length:=by rw[<- rk.length,aG]
  refine aaN hk (by omega) (by omega) λst z1 z2 z3=>?_;have out:=ksk_out (b:=false) hk z1 z3;simp only[k0,jH]at out;obtain⟨ys,hv,hs⟩:=aaR rv out;have fG:dq X pins G a:=⟨(J.pin (a,seqObj "list" #[] e1) (fQ _ (cC ..))).2.1,fa.2⟩;refine aaO J hG ek (by omega) fG z2 rfl hv ?_ λs2 J2=>q ys _ s2 (λb o e=>?_) aA hs J2
  ·have:((arrOf st).map (·.2)).toList.length=its.length:=by
    rw[gw,Fn,z1.size_eq];simp;omega
   omega
  ·have b1:b≠kS:=bO e nH
   have b2:b≠a:=bO e fa.1;rw[aJ b2,aJ b1];exact sX b o b1 (sm b o e)
theorem Tc(hr:bK 0 X.A)(KL:rR X qual x params body scope fr tb)(I:Inv X pins σ H s)(r:RelV v u)(src:lA X.K H v xs)(L:eE H p qual params body scope (cj X.env.cells scope.names []))(hl:kz.length=xs.length)(h64:xs.length<64)(turn:∀(i:Nat) y k,xs[i]?=some y->kz[i]?=some k->∀H3,Same H H3->tb (some y::lamσ fr σ) H3 λz H4=>z = .int k/\Same H3 H4)(q:∀ys r H3,Same H H3->H r=none->H3 r=some (.lst ys)->pK kz xs ys->Q (.ref r) H3):
  wpAny (model X.prog X.w) X.A (call (.builtin "sorted") [u] [(Str.ofString "key", .ref p)]) (EP X pins σ Q) E s:=by
 have big:(64:Nat)<=sizeLine:=by decide +kernel
 refine call_function_entry_kw kind_sorted plain_sorted entry_sorted (ksk_s1 u (.ref p)) ?_;unfold Builtin.«sorted»;refine ah (m:=checkCount "sorted" 1 1 _) (aK (ah (Tp (A:=X.A.in1) hr.hd I r src (by omega) λits s1 rv I1=>ah (pG ?_ (by rw[<- rv.length];omega)))));have I2:Inv X pins σ H {s1 with heap:=s1.heap.push {cls:=.type "list", data:=.seq its.toArray},toks:=s1.toks}:=I1.kept λb o e=>aU _ e;have fa:dq X pins H s1.heap.objs.size:=I1.kj (aY _) I1.fresh;have ea:(s1.heap.push {cls:=.type "list", data:=.seq its.toArray}).get? s1.heap.objs.size=some (seqObj "list" its.toArray 0):=bJ _ rfl;refine ah (iQ (wpAny_call_entry_kw slot_list_sort ⟨_,ea,rfl⟩ entry_list_sort ?_ (ksk_l1 _ _)));show wpAny (model X.prog X.w) X.A.in1.in1 (Builtin.«list.sort» ⟨[.ref s1.heap.objs.size],[(Str.ofString "key", .ref p)]⟩) _ _ _;rw[ksk_t1];refine aaP (s:={s1 with heap:=s1.heap.push {cls:=.type "list", data:=.seq its.toArray},toks:=s1.toks}) rfl hr.hd hr.depth ⟨rfl,aY _,rfl⟩ KL I2 fa ea rv L hl h64 turn λys H3 s3 sm g3 so I3=>⟨_,rfl,aK ⟨_,rfl,.ref s1.heap.objs.size,H3,I3,rfl,q ys _ H3 sm fa.1 g3 so⟩⟩
end
section
variable {X:Cx} {x:Str} {params:Arguments} {body e:Expr} {scope:Scope} {fr:List (Str × Nat)} {tb ti:TE} {c P:Addr} {p0 iw kpos pos:Pos}
noncomputable def aa_(K:W.Frag)(ti:TE)(P:Addr)(pos:Pos)(qual:Str)(fr:List (Str × Nat))(tb:TE):TE:=λσ H Q=>ti σ H λv H1=>H1 P=some (.lam pos qual)/\∃(xs:List V) (kz:List Int),lA K H1 v xs/\kz.length=xs.length/\xs.length<64 /\
 (∀(i:Nat) y k,xs[i]?=some y->kz[i]?=some k->∀H3,Same H1 H3->tb (some y::lamσ fr σ) H3 λz H4=>z = .int k/\Same H3 H4) /\
 ∀ys r H3,Same H1 H3->H1 r=none->H3 r=some (.lst ys)->pK kz xs ys->Q (.ref r) H3
noncomputable def uM(B:V->Hp->Prop):List V->Hp->Prop:=λvs H=>match vs with
 | [v]=>B v H
 |_=>False
theorem uM.get{B:V->Hp->Prop}{vs:List V}{H:Hp}(h:uM B vs H):∃v,vs = [v]/\B v H:=by
 unfold uM at h
 split at h
 ·exact⟨_,rfl,h⟩
 ·exact h.elim
theorem lA.same{K:W.Frag}{H H':Hp}{v:V}{xs:List V}(h:lA K H v xs)(s:Same H H'):lA K H' v xs:=by
 rcases h with⟨r,n,h1,h2,h3⟩|⟨r,h1,h2⟩
 ·exact .inl ⟨r,n,h1,s _ _ h2,h3⟩
 ·exact .inr ⟨r,h1,s.seq h2⟩
theorem Zx (hg:Gl X "sorted") (hm:X.mg "sorted" = none) (T:TabAt X.base X.mg c P) (hcode:X.env.code = .ref c) (hr:bK 0 X.A) (KL:rR X (X.env.qual ++ "<lambda>") x params body scope fr tb) (hi:PE X e ti)
  (hdef:defaultsOf params X.env=([],[]):=by rfl) (he:starEach [e] X.env = [(false,eval e X.env)]:=by rfl) :
  PE X (.Call (.Name "sorted" p0) [e] [⟨some "key", .Lambda params body scope iw,kpos⟩] pos) (aa_ X.K ti P iw (X.env.qual ++ "<lambda>") fr tb):=by
 intro pins s σ H Q I h;refine lh (iY I hg hm boot_sorted ?_ (by decide) (by decide));refine callWith_kw (kws:=[⟨some "key", .Lambda params body scope iw,kpos⟩]) (aL (ae hi ag he pos pins s σ H (uM λv H1=>H1 P=some (.lam iw (X.env.qual ++ "<lambda>"))/\∃(xs:List V) (kz:List Int),lA X.K H1 v xs/\kz.length=xs.length/\xs.length<64 /\
  (∀(i:Nat) y k,xs[i]?=some y->kz[i]?=some k->∀H3,Same H1 H3->tb (some y::lamσ fr σ) H3 λz H4=>z = .int k/\Same H3 H4)/\∀ys r H3,Same H1 H3->H1 r=none->H3 r=some (.lst ys)->pK kz xs ys->Q (.ref r) H3) I h) λus s1 hq=>?_) (by rw[he];rfl) (by rw[he];rfl) (by rfl) (by rfl)
 ·obtain⟨vs,H1,I1,r1,hq⟩:=hq
  obtain⟨v,rfl,hP,xs,kz,src,hl,h64,turn,q⟩:=hq.get;obtain⟨u,rfl,ru⟩:=r1.one;refine kws_cons (aL (MJ T hcode (λok y hy hk=>ok.has _ (KL.blk.free y hy hk)) hdef pins s1 σ H1 (λf H2=>∃p,f = .ref p/\Same H1 H2/\eE H2 p (X.env.qual ++ "<lambda>") params body scope (cj X.env.cells scope.names [])) I1 ⟨hP,λp H2 s2 _ L=>⟨p,rfl,s2,L⟩⟩) λfv s2 ⟨f,H2,I2,rf,p,ef,sm,L⟩=>kws_nil ?_);subst ef;obtain rfl:fv = .ref p:=rf;exact Tc hr KL I2 ru (src.same sm) L hl h64 (λi y k h1 h2 H3 s3=>turn i y k h1 h2 H3 (sm.trans s3)) λys r H3 s3 n3 g3 so=>q ys r H3 (sm.trans s3) (sm.free n3) g3 so
end
noncomputable def Z9:List V->Hp->VK->Prop:=λvs H Q=>∃j,vs = [.int j]/\∀p,H p=none->Q (.ref p) (upd H p (.rng 0 j))
theorem Tb {X:Cx}:d5 X (.type "range") Z9:=by
 intro pins s σ H vs us Q I rv h;obtain⟨j,rfl,q⟩:=h;obtain⟨u,rfl,t,rfl⟩:=rv.one;refine call_range_1 ⟨.ref s.heap.objs.size,_,I.laid (o:=.rng 0 j) (λb u e=>aU _ e) (aY _) ⟨_,_,_,bJ _ rfl⟩,rfl,q _ I.fresh⟩
noncomputable def Z3(K:W.Frag):V->List V->Hp->VK->Prop:=λx vs H Q=>∃(l:Addr) (bs:List Bool),x = .ref l/\vs = [.bl true]/\av K H l (bs.map V.bl)/\Q (.int (bs.count true:Nat)) H
noncomputable def ux:Value->Bool
 |.bool b=>b
 |_=>false
theorem HD:∀{bs:List Bool} {us:List Value},Vals (bs.map V.bl) us->us=bs.map Value.bool
 | [],_,h=>by cases h;rfl
 |b::bs,_,h=>by
  cases h with
  |cons h t =>
   obtain rfl:_=Value.bool b:=h;rw[HD t];rfl
theorem X9 {X:Cx} {K:W.Frag} (hK:X.K=K):xu X "tuple.count" (Z3 K):=by
 subst hK;intro pins s σ H x vs v us Q I rx rv h;obtain⟨l,bs,rfl,rfl,hq,q⟩:=h;cases rx;obtain⟨u,rfl,ru⟩:=rv.one;obtain rfl:u=Value.bool true:=ru;obtain⟨its,r,⟨⟨cls,dd,data,sl⟩,ho,hc,n,hd⟩,_⟩:=I.tuple hq;simp only at hc hd;subst hc hd;have e:=HD r;subst e;have cnt:(bs.map Value.bool).toArray.toList.countP ux=bs.count true:=by
  rw[List.toList_toArray,List.countP_map,List.count];exact List.countP_congr λb _=>by cases b<;>simp[ux]
 refine call_meets RK ⟨_,ho,rfl⟩ PySem.F.entry_tuple_count (PySem.F.args_tuple_count_2 _ _)
  (SeqAt.tuple_countAt l (bs.map Value.bool).toArray n dd sl (.bool true) ux) ⟨ho,λy hy=>?_,?_⟩
 ·obtain⟨b,_,rfl⟩:=cu.mp (show y∈bs.map Value.bool by simpa using hy)
  have:=G5 (A:=X.A.in1) (s:=s) b true;have e:(b==true)=ux (.bool b):=by cases b<;>rfl
  rw[<- e];exact this
 ·show EP X pins σ Q _ _
  rw[cnt];exact⟨.int (bs.count true:Nat),H,I.tok _,⟨_,rfl⟩,q⟩
section
variable {P:Program} {w:World} {K:W.Frag} {mg:Str->Option Value} {base:Heap}
theorem aV.Bx{x qual:Str}{st:Stmt}{f c:Addr}{fd:FuncData}{N ps:List Str}{k:Nat}{sp:Sp}(F:aV K x qual st f fd)(hc:fd.code = .ref c)(S:aZ N ps (aE st))(len:∀vs H Q E,sp vs H Q E->vs.length=ps.length)(hbody:∀(A:Around) (outer:List Env) (s:Shared) (H:Hp) (vs:List V) (Q:VK) (E:XK),bK k (A.deeper (envOfC qual (aE st) s.heap.objs.size f (.ref c)))->sp vs H Q E->∃t,fB (lH aS P w K mg base N qual (aE st) f (.ref c) A outer s H E).oh (fZ st) t/\t {nx:=λ_ H'=>Q .non H',rt:=Q} (start N vs) H):aN P w K mg base aS (k+1) f fd ps sp:=by
 obtain⟨oc,od,kV,doc,pm,an,cdv,ct,osl,rfl,lk,hcd⟩:=F.ex;obtain rfl:cdv = .ref c:=hc;refine Jf lk hcd S len λA outer s H vs Q E hr hsp=>?_;obtain⟨t,h,q⟩:=hbody A outer s H vs Q E hr hsp;exact⟨t,h.oh,q⟩
end
end L2
namespace My
open PySem PySem.Spec PyProof.Rows L2
noncomputable def cI(n:Nat)(R:Nat->Nat->Bool)(a:Nat):Nat:=((List.range n).map (R a)).count true
theorem QH{α β γ:Type}(f:α->β)(g:α->γ):∀l:List α,(l.map f).zip (l.map g)=l.map λa=>(f a,g a)
 | []=>rfl
 |a::l=>by rw[cE,cE,xq,QH f g l];rfl
theorem Zz{α β:Type}{f:α->β}{l:List α}{m:List β}(h:m.Perm (l.map f)):∃l':List α,m=l'.map f/\l'.Perm l:=by
 generalize e:l.map f=k at h
 induction h generalizing l with
 |nil =>
  have:l = []:=by simpa using e
  subst this;exact⟨[],rfl,.nil⟩
 |cons x _ ih =>
  cases l with
  |nil=>cases e
  |cons a l =>
   rw[cE,w_]at e;obtain⟨l',h1,h2⟩:=ih e.2;exact⟨a::l',by rw[h1,cE,e.1],h2.cons a⟩
 |swap x y _ =>
  cases l with
  |nil=>cases e
  |cons a l =>
   cases l with
   |nil=>simp at e
   |cons c l =>
    rw[cE,cE,w_,w_]at e;refine⟨c::a::l,?_,.swap _ _ _⟩;rw[cE,cE,e.1,e.2.1,e.2.2]
 |trans _ _ ih1 ih2 =>
  obtain⟨l1,h1,h2⟩:=ih2 e;obtain⟨l2,h3,h4⟩:=ih1 h1.symm;exact⟨l2,h3,h4.trans h2⟩
section
variable {P:Program} {w:World} {K:W.Frag} {mg:Str->Option Value} {base:Heap} {f:Addr} {fd:FuncData}
abbrev vv:Stmt:=top 38
theorem Og:aZ ["order"] ["order"] (aE vv):=⟨rfl,rfl,rfl,by decide +kernel,rfl,by decide +kernel,by decide +kernel⟩
abbrev iU:Pos:=⟨160,42,160,86⟩
abbrev iV:Str:=("highest_first" : Str) ++ ".<locals>." ++ "<lambda>"
noncomputable def vV(C Pt:Addr):Sp:=λvs H Q _=>∃(p n:Nat) (R:Nat->Nat->Bool),vs = [.ref p]/\cN C H p n R/\n<=24/\H Pt=some (.lam iU iV) /\
 ∀(r:Addr) (hs:List Nat) (H':Hp),Same H H'->H r=none->H' r=some (.lst (hs.map nV))->hs.Perm (List.range n)->hs.Pairwise (λa b=>cI n R a<=cI n R b)->Q (.ref r) H'
theorem YB {C c Pt:Addr} (F:aV K "highest_first" "highest_first" vv f fd) (hc:fd.code = .ref c) (tb:TabAt base mg c Pt) (T:Txt mg) (TC:cD K C):aN P w K mg base aS 1 f fd ["order"] (vV C Pt):=by
 refine F.Bx hc Og (λvs H Q E h=>?_) (λA outer s H vs Q E hr h=>?_)
 ·obtain⟨p,n,R,rfl,_⟩:=h
  rfl
 ·obtain⟨p,n,R,rfl,hO,hn,hP,kk⟩:=h
  have nd:=Og.nd;refine⟨_,(ax (aX (Zx (x:= "thing") (fr:=[("order", 0)]) rfl T.sorted tb rfl (hr.mono (cW _)) ⟨bX (aE vv) ["order"] rfl rfl (by decide +kernel),⟨rfl,rfl,rfl,by decide +kernel,by decide +kernel,by decide +kernel,by decide +kernel⟩,λ_ _ _ _ us hl=>match us,hl with | [_],_=>rfl,λ_ _ _ _ _ _ _ _=>fM (K:=K) rfl PySem.F.plainAttrs_tuple RK PySem.F.type_tuple_count (X9 (K:=K) rfl) (ay (aO (K:=K) rfl) (bq (K:=K) rfl (pv 1) rfl) (pv 0) (λ_ _=>rfl)) (ae eS ag)⟩ (jd Tb (by rfl) T.range boot_range (ae (bq (K:=K) rfl (pv 0) rfl) ag))))),?_⟩;obtain⟨dx,vp,vr,vj,vm,o1,_,o3,_⟩:=id hO;refine⟨_,rfl,p,C,dx,_,_,rfl,o1,TC.cl,TC.nC,cX _ _ _ _ _,(n:Int),rfl,λr hr=>?_⟩;have en:((n:Int)).toNat=n:=bu n;have sm:=Same.put (o:=.rng 0 (n:Int)) hr;refine⟨sm _ _ hP,(List.range n).map nV,(List.range n).map λa=>((cI n R a:Nat):Int),.inl ⟨r,n,rfl,aA,by omega,by omega,by rw[en]⟩,by simp,by simp;omega,λi y k hy hk H3 s3=>?_,λys r2 H3 s3 n3 g3 so=>?_⟩
  ·have hi:i<n:=by simpa using(bD.mp hy).1
   have ey:y=nV i:=by
    rw[cT,ji hi]at hy;exact(dW hy).symm
   have ek:k=((cI n R i:Nat):Int):=by
    rw[cT,ji hi]at hk;exact(dW hk).symm
   subst ey ek;obtain⟨ra,us,rb,rfl,q1,q2,q3⟩:=(o3.same (sm.trans s3)).get hi;refine⟨_,rfl,p,C,dx,_,_,rfl,s3 _ _ (sm _ _ o1),TC.cl,TC.nR,jy _ _ _ _ _,_,rfl,ra,us,_,.ref rb,rfl,rfl,av.of q1,aM q2,?_⟩;have e3:H3 rb=some (.tup (((List.range n).map (R i)).map V.bl)):=by rw[q3,d6];rfl
   exact⟨.inr (.inr (.inr (.inr ⟨rfl,_,e3⟩))),rb,_,rfl,rfl,av.of e3,rfl,Same.refl _⟩
  ·obtain⟨ps,h1,h2,h3⟩:=so
   have hz:((List.range n).map λa=>((cI n R a:Nat):Int)).zip ((List.range n).map nV)=(List.range n).map λa=>(((cI n R a:Nat):Int),nV a):=QH _ _ _;rw[hz]at h1;obtain⟨hs,e1,e2⟩:=Zz h1;subst e1;refine kk r2 hs H3 (sm.trans s3) (sm.free n3) (by rw[g3,h2,d6];rfl) e2 ?_;rw[jk]at h3;exact h3.imp λ{a b} h=>by have h':((cI n R a:Nat):Int)<=((cI n R b:Nat):Int):=h;omega
end
theorem Good.trans{n:Nat}{R:Nat->Nat->Bool}(G:Good n R){a b c:Nat}(ha:a<n)(hb:b<n)(hc:c<n)(h1:R a b=true)(h2:R b c=true):R a c=true:=by
 obtain⟨m,hm,h⟩:=G.meet b c hb hc;have e1:=h b hb;rw[G.refl b hb,h2]at e1;have e2:=h m hm;rw[G.refl m hm]at e2;have e3:R m b=true:=by
  cases e:R m b with
  |true=>rfl
  |false=>rw[e]at e2;cases e2
 have:b=m:=G.anti b m hb hm (by rw[e1];rfl) e3;subst this;have e4:=h a ha;rw[h1]at e4;simpa using e4.symm
noncomputable def bA(n:Nat)(R:Nat->Nat->Bool)(a b c:Nat):Prop:=c<n/\∀x,x<n->R c x=(R a x&&R b x)
noncomputable def bB(n:Nat)(R:Nat->Nat->Bool)(a b c:Nat):Prop:=c<n/\∀x,x<n->R x c=(R x a&&R x b)
section
variable {n:Nat} {R:Nat->Nat->Bool} {a b c d:Nat}
theorem bA.uniq(G:Good n R)(h:bA n R a b c)(h':bA n R a b d):c=d:=G.dis c d h.1 h'.1 λx hx=>by rw[h.2 x hx,h'.2 x hx]
theorem bB.uniq(G:Good n R)(h:bB n R a b c)(h':bB n R a b d):c=d:=G.ki c d h.1 h'.1 λx hx=>by rw[h.2 x hx,h'.2 x hx]
theorem bA.comm(h:bA n R a b c):bA n R b a c:=⟨h.1,λx hx=>by rw[h.2 x hx,Bool.and_comm]⟩
theorem bB.comm(h:bB n R a b c):bB n R b a c:=⟨h.1,λx hx=>by rw[h.2 x hx,Bool.and_comm]⟩
theorem bA.up(G:Good n R)(ha:a<n)(hb:b<n)(h:bA n R a b c):R a c=true/\R b c=true:=by
 have:=h.2 c h.1;rw[G.refl c h.1]at this;simpa using this.symm
theorem bB.dn(G:Good n R)(ha:a<n)(hb:b<n)(h:bB n R a b c):R c a=true/\R c b=true:=by
 have:=h.2 c h.1;rw[G.refl c h.1]at this;simpa using this.symm
end
theorem qg (n:Nat) (vp vr vj vm:V):(dH n vp vr vj vm).lookup ("joins" : Str)=some vj:=by
 unfold dH;rw[cQ,aq (by decide +kernel),cQ,aC rfl]
theorem qh (n:Nat) (vp vr vj vm:V):(dH n vp vr vj vm).lookup ("meets" : Str)=some vm:=by
 unfold dH;rw[cQ,aC rfl]
theorem nG (n:Nat) (vp vr vj vm:V) {x:Str} (h1:¬ x = "meets") (h2:¬ x = "joins") (h3:¬ x = "reach") (h4:¬ x = "pairs") (h5:¬ x = "count"):(dH n vp vr vj vm).lookup x=none:=by
 unfold dH;rw[cQ,aq h1,cQ,aq h2,cQ,aq h3,cQ,aq h4,cQ,aq h5];rfl
end My
namespace Cl
section
variable (g:Nat->List Nat) (b:Nat)
noncomputable def climbs:Nat->Nat->List (List Nat)
 |0,a=>if a=b then[[a]]else[]
 |k+1,a=>if a=b then[[a]]else(g a).flatMap λd=>(climbs k d).map (a::·)
end
theorem Ja{α β:Type}{f f':α->List β}:∀{l:List α},(∀x∈l,f x=f' x)->l.flatMap f=l.flatMap f'
 | [],_=>rfl
 |x::l,h=>by rw[jg,jg,h x cC,Ja λy hy=>h y (bT _ hy)]
section
variable {g:Nat->List Nat} {b:Nat} {u:Nat->Nat}
theorem Ic(hu:∀a d,d∈g a->u d<u a):∀(k a:Nat),u a<=k->climbs g b k a=climbs g b (k+1) a
 |0,a,h=>by
  have:g a = []:=by
   cases e:g a with
   |nil=>rfl
   |cons d r=>have:=hu a d (by rw[e];exact cC);omega
  show(if a=b then[[a]]else[])=if a=b then[[a]]else(g a).flatMap _
  rw[this];rfl
 |k+1,a,h=>by
  show(if a=b then[[a]]else(g a).flatMap λd=>(climbs g b k d).map (a::·))=if a=b then[[a]]else(g a).flatMap λd=>(climbs g b (k+1) d).map (a::·)
  rw[Ja λd hd=>by rw[Ic hu k d (by have:=hu a d hd;omega)]]
theorem yG(hu:∀a d,d∈g a->u d<u a){N a:Nat}(h:u a<=N):climbs g b N a=if a=b then[[a]]else(g a).flatMap λd=>(climbs g b N d).map (a::·):=by
 rw[Ic hu N a h];show(if a=b then[[a]]else(g a).flatMap λd=>(climbs g b N d).map (a::·))=_;rfl
noncomputable def W(g:Nat->List Nat)(b N a:Nat):Nat:=(climbs g b N a).length
theorem x6{N:Nat}:W g b N b=1:=by
 unfold W;cases N<;>simp[climbs]
theorem Hj(hu:∀a d,d∈g a->u d<u a){N a:Nat}(h:u a<=N)(hab:a≠b):W g b N a=((g a).map (W g b N)).sum:=by
 unfold W;rw[yG hu h,aq hab,List.length_flatMap]
 congr 1
 exact gZ λd _=>aG _
structure gE (g:Nat->List Nat) (b a:Nat) (c:List Nat):Prop where
 hd:c.head? = some a
 last:c.getLast? = some b
 go:∀i,i+1<c.length->c.getD (i+1) 0∈g (c.getD i 0)
theorem Kq:gE g b b [b]:=⟨rfl,rfl,λi h=>by simp at h⟩
theorem W9{a d:Nat}{c:List Nat}(h:gE g b d c)(hd:d∈g a):gE g b a (a::c):=by
 obtain⟨h1,h2,h3⟩:=h;refine⟨rfl,?_,λi hi=>?_⟩
 ·cases c with
  |nil=>cases h1
  |cons x r=>rw[Rg];exact h2
 ·cases i with
  |zero =>
   cases c with
   |nil=>cases h1
   |cons x r=>cases h1;simpa using hd
  |succ i =>
   have:=h3 i (by simpa using hi);simpa using this
theorem Ks{a x:Nat}{c:List Nat}(h:gE g b a (a::x::c)):gE g b x (x::c)/\x∈g a:=by
 refine⟨⟨rfl,by rw[<- h.last,Rg],λi hi=>?_⟩,?_⟩
 ·have:=h.go (i+1) (by simpa using hi)
  simpa using this
 ·have:=h.go 0 (by simp)
  simpa using this
theorem uC{N:Nat}:∀{k a:Nat} {c:List Nat},c∈climbs g b k a->gE g b a c
 |0,a,c,h=>by
  unfold climbs at h
  split at h
  ·rename_i e
   subst e;simp at h;subst h;exact Kq
  ·cases h
 |k+1,a,c,h=>by
  unfold climbs at h
  split at h
  ·rename_i e
   subst e;simp at h;subst h;exact Kq
  ·rw[mM]at h
   obtain⟨d,hd,h⟩:=h;obtain⟨c',h2,rfl⟩:=cu.mp h;exact W9 (uC (N:=N) h2) hd
noncomputable def numOf(g:Nat->List Nat)(W:Nat->Nat):List Nat->Nat
 |x::y::r=>((((g x).filter λd=>decide (d<y)).map W).sum)+numOf g W (y::r)
 |_=>0
theorem Jb{β:Type}{W:Nat->Nat}{f:Nat->List β}{y j:Nat}:∀{l:List Nat},l.Pairwise (· < ·)->(∀d∈l,(f d).length=W d)->y∈l->j<W y->(l.flatMap f)[(((l.filter λd=>decide (d<y)).map W).sum)+j]?=(f y)[j]?
 | [],_,_,h,_=>nomatch h
 |d::l,hp,hf,hy,hj=>by
  rw[List.pairwise_cons]at hp;rw[jg]
  rcases bC.mp hy with rfl|hy2
  ·have e:(y::l).filter (λd=>decide (d<y)) = []:=by
    rw[Q6];intro x hx
    rcases bC.mp hx with rfl|hx
    ·simp
    ·have:=hp.1 x hx;simp;omega
   rw[e,xl,Gi,pz,jh (by rw[hf y cC];exact hj)]
  ·have hd:d<y:=hp.1 y hy2
   have e:(d::l).filter (λd=>decide (d<y))=d::l.filter (λd=>decide (d<y)):=by rw[Q5 (by simpa using hd)]
   rw[e,cE,fT,iH (by rw[hf d cC];omega),hf d cC];rw[show W d+((l.filter λd=>decide (d<y)).map W).sum+j - W d=((l.filter λd=>decide (d<y)).map W).sum+j by omega];exact Jb hp.2 (λx hx=>hf x (bT _ hx)) hy2 hj
theorem Lw(hu:∀a d,d∈g a->u d<u a)(hs:∀a,(g a).Pairwise (· < ·)){N:Nat}(hN:∀a,u a<=N)(hb:g b = []\/True):∀{c:List Nat} {a:Nat},gE g b a c->(∀x∈c.dropLast,x≠b)->(climbs g b N a)[numOf g (W g b N) c]?=some c/\numOf g (W g b N) c<W g b N a
 | [],a,h,_=>by cases h.hd
 | [x],a,h,_=>by
  have e1:=h.hd;have e2:=h.last;cases e1;have e2:x=b:=by simpa using e2
  subst e2;rw[x6,yG hu (hN x),aC rfl];exact⟨rfl,by unfold numOf;omega⟩
 |x::y::r,a,h,hne=>by
  have e1:=h.hd;cases e1;obtain⟨ht,hy⟩:=Ks h;have hxb:x≠b:=hne x (by simp);obtain⟨i1,i2⟩:=Lw hu hs hN hb ht λz hz=>hne z (by rw[QZ];exact bT _ hz);have key:=Jb (W:=W g b N) (f:=λd=>(climbs g b N d).map (x::·)) (hs x) (λd _=>by rw[aG];rfl) hy i2;have e:numOf g (W g b N) (x::y::r)=(((g x).filter λd=>decide (d<y)).map (W g b N)).sum+numOf g (W g b N) (y::r):=rfl;have hget:(climbs g b N x)[numOf g (W g b N) (x::y::r)]?=some (x::y::r):=by
   rw[yG hu (hN x),aq hxb,e,key,cT,i1];rfl
  exact⟨hget,(bD.mp hget).1⟩
noncomputable def lU:List Nat->List Nat->Bool
 | [],[]=>false
 | [],_::_=>true
 |_::_,[]=>false
 |x::xs,y::ys=>if x=y then lU xs ys else decide (x<y)
theorem K5:∀l:List Nat,lU l l=false
 | []=>rfl
 |x::l=>by unfold lU;rw[aC rfl];exact K5 l
theorem Ib(hs:∀a,(g a).Pairwise (· < ·)):∀(k a:Nat),(climbs g b k a).Pairwise λc d=>lU c d=true
 |0,a=>by
  unfold climbs
  split
  ·exact Rm _ _
  ·exact List.Pairwise.nil
 |k+1,a=>by
  unfold climbs
  split
  ·exact Rm _ _
  ·have go:∀l:List Nat,l.Pairwise (· < ·)->(l.flatMap λd=>(climbs g b k d).map (a::·)).Pairwise λc d=>lU c d=true:=by
    intro l
    induction l with
    |nil=>intro _;exact List.Pairwise.nil
    |cons d l ih =>
     intro hp;rw[List.pairwise_cons]at hp;rw[jg,List.pairwise_append];refine⟨?_,ih hp.2,λc hc c' hc'=>?_⟩
     ·rw[jk]
      refine(Ib hs k d).imp λ{c c'} h=>?_;show(if a=a then lU c c' else _)=true;rw[aC rfl];exact h
     ·obtain⟨e,he,rfl⟩:=cu.mp hc
      obtain⟨d',hd',hc'⟩:=mM.mp hc';obtain⟨e',he',rfl⟩:=cu.mp hc';have h1:=(uC (N:=0) he).hd;have h2:=(uC (N:=0) he').hd;have:=hp.1 d' hd';cases e with
      |nil=>cases h1
      |cons x r =>
       cases h1;cases e' with
       |nil=>cases h2
       |cons y r' =>
        cases h2;show(if a=a then lU (d::r) (d'::r')else _)=true;rw[aC rfl];show(if d=d' then _ else decide (d<d'))=true;rw[aq (by omega)];exact eh this
   exact go (g a) (hs a)
theorem Ti(hs:∀a,(g a).Pairwise (· < ·))(k a:Nat):(climbs g b k a).Nodup:=(Ib hs k a).imp λ{c d} h e=>by rw[e,K5]at h;cases h
theorem Ia{k:Nat}(hu:∀a d,d∈g a->u d<u a):∀{c:List Nat} {a:Nat},gE g b a c->u b<=u a/\∀x∈c.dropLast,x≠b
 | [],a,h=>by cases h.hd
 | [x],a,h=>by
  have e1:=h.hd;have e2:=h.last;cases e1;have e2:x=b:=by simpa using e2
  subst e2;exact⟨aY _,λz hz=>by simp at hz⟩
 |x::y::r,a,h=>by
  have e1:=h.hd;cases e1;obtain⟨ht,hy⟩:=Ks h;obtain⟨i1,i2⟩:=Ia (k:=k) hu ht;have:=hu x y hy;refine⟨by omega,λz hz=>?_⟩;rw[QZ]at hz
  rcases bC.mp hz with rfl|hz
  ·intro e;rw[e]at this;omega
  ·exact i2 z hz
theorem mem_iff(hu:∀a d,d∈g a->u d<u a)(hs:∀a,(g a).Pairwise (· < ·)){N:Nat}(hN:∀a,u a<=N){a:Nat}{c:List Nat}:c∈climbs g b N a ↔ gE g b a c:=
 ⟨uC (N:=0),λh=>cV (Lw hu hs hN (.inr trivial) h (Ia (k:=0) hu h).2).1⟩
end
theorem Ew{W:Nat->Nat}:∀{l1 l2:List Nat},l1.Nodup->(∀x∈l1,x∈l2)->(l1.map W).sum<=(l2.map W).sum
 | [],_,_,_=>cW _
 |x::l1,l2,nd,h=>by
  obtain⟨n1,n2⟩:=fS.mp nd;have p:=List.perm_cons_erase (h x cC);have e:(l2.map W).sum=W x+((l2.erase x).map W).sum:=by
   rw[(p.map W).sum_nat,cE,fT]
  rw[e,cE,fT];have:=Ew (W:=W) (l1:=l1) (l2:=l2.erase x) n2 λy hy=>(List.mem_erase_of_ne (by rintro rfl;exact n1 hy)).mpr (h y (bT _ hy));omega
theorem ahead{g:Nat->List Nat}{u:Nat->Nat}(hu:∀a d,d∈g a->u d<u a){hs:List Nat}(hp:hs.Pairwise λa b=>u a<=u b){i x d:Nat}(hx:hs[i]?=some x)(hd:d∈g x)(hm:d∈hs):d∈hs.take i:=by
 obtain⟨j,hj,e⟩:=k8 hm;obtain⟨hi,ex⟩:=bD.mp hx;have hlt:=hu x d hd;have:j<i:=by
  apply oP
  intro z
  rcases Nat.lt_or_ge i j with h|h
  ·have:=Ge.mp hp i j hi hj h
   rw[ex,e]at this;omega
  ·obtain rfl:i=j:=by omega
   rw[ex]at e;rw[e]at hlt;omega
 rw[List.mem_take_iff_getElem];exact⟨j,by omega,e⟩
theorem Hk{g:Nat->List Nat}{u:Nat->Nat}{b N:Nat}(hu:∀a d,d∈g a->u d<u a)(hs:∀a,(g a).Pairwise (· < ·))(hN:∀a,u a<=N){l:List Nat}(hp:l.Pairwise λa b=>u a<=u b)(hall:∀a d,d∈g a->d∈l):∀i,i<=l.length->((l.take i).map (W g b N)).sum+1<=2 ^ i
 |0,_=>by simp
 |i+1,hi=>by
  have ih:=Hk hu hs hN hp hall (b:=b) i (by omega);have hx:l[i]?=some l[i]:=aI (by omega);rw[o8,hx];show(((l.take i++[l[i]]).map (W g b N)).sum)+1<=2 ^ (i+1);rw[iJ,Gh,List.map_singleton,List.sum_singleton,Nat.pow_succ];have p2:1<=2 ^ i:=Nat.one_le_two_pow
  by_cases e:l[i]=b
  ·rw[e,x6];omega
  ·rw[Hj hu (hN _) e]
   have:=Ew (W:=W g b N) (l1:=g l[i]) (l2:=l.take i) ((hs _).imp λ{a b} h=>by omega) λd hd=>ahead hu hp hx hd (hall _ _ hd);omega
theorem RQ{g:Nat->List Nat}{u:Nat->Nat}{b N n:Nat}(hu:∀a d,d∈g a->u d<u a)(hs:∀a,(g a).Pairwise (· < ·))(hN:∀a,u a<=N)(hall:∀a d,d∈g a->d<n){a:Nat}(ha:a<n):W g b N a+1<=2 ^ n:=by
 have hp:((List.range n).mergeSort λa b=>decide (u a<=u b)).Pairwise λa b=>u a<=u b:=by
  refine(List.pairwise_mergeSort (le:=λa b=>decide (u a<=u b)) (λa b c h1 h2=>?_) (λa b=>?_) _).imp λ{a b} h=>oo h
  ·exact eh (di (oo h1) (oo h2))
  ·rcases Nat.le_total (u a) (u b)with h|h<;>simp[h]
 have pm:=List.mergeSort_perm (List.range n) λa b=>decide (u a<=u b);have hl:((List.range n).mergeSort λa b=>decide (u a<=u b)).length=n:=by rw[pm.length_eq,dh]
 have key:=Hk (b:=b) (N:=N) hu hs hN hp (λa d h=>pm.mem_iff.mpr (cM.mpr (hall a d h))) n (by omega);rw[o9 (by omega)]at key;have:=Ew (W:=W g b N) (l1:=[a]) (l2:=(List.range n).mergeSort λa b=>decide (u a<=u b)) (by simp) λx hx=>by
  have:x=a:=by simpa using hx
  subst this;exact pm.mem_iff.mpr (cM.mpr ha)
 rw[List.map_singleton,List.sum_singleton]at this;omega
end Cl
namespace My
open PySem PySem.Spec PyProof.Rows L2
noncomputable def gA(n:Nat)(R:Nat->Nat->Bool)(a:Nat):List Nat:=if a<n then bL n R a else[]
theorem jA{n:Nat}{R:Nat->Nat->Bool}{a:Nat}(h:a<n):gA n R a=bL n R a:=by unfold gA;rw[aC h]
theorem dD{n:Nat}{R:Nat->Nat->Bool}{a d:Nat}:d∈gA n R a ↔ a<n/\d<n/\bz n R a d=true:=by
 unfold gA
 by_cases h:a<n
 ·rw[aC h]
  unfold bL;rw[d7,cM];exact⟨λz=>⟨h,z⟩,λz=>z.2⟩
 ·rw[aq h]
  exact⟨λz=>(nomatch z),λz=>absurd z.1 h⟩
theorem zQ(n:Nat)(R:Nat->Nat->Bool)(a:Nat):(gA n R a).Pairwise (· < ·):=by
 unfold gA
 split
 ·exact Rk.filter _
 ·exact List.Pairwise.nil
theorem yH{p q:Nat->Bool}{x:Nat}:∀{l:List Nat},x∈l->(∀y∈l,p y=true->q y=true)->p x=false->q x=true->l.countP p<l.countP q
 | [],h,_,_,_=>nomatch h
 |y::l,h,hpq,h1,h2=>by
  rw[List.countP_cons,List.countP_cons];have le:l.countP p<=l.countP q:=List.countP_mono_left λz hz=>hpq z (bT _ hz)
  by_cases e:x=y
  ·subst e
   rw[h1,h2];simp;omega
  ·have hx:x∈l:=by
    rcases bC.mp h with z|z
    ·exact absurd z e
    ·exact z
   have:=yH hx (λz hz=>hpq z (bT _ hz)) h1 h2;have hy:=hpq y cC;cases hp:p y with
   |false=>simp;omega
   |true=>rw[hy hp];simp;omega
theorem oH(n:Nat)(R:Nat->Nat->Bool)(a:Nat):cI n R a=(List.range n).countP (R a):=by
 unfold cI;rw[List.count,List.countP_map];exact List.countP_congr λx _=>by simp
theorem ft(n:Nat)(R:Nat->Nat->Bool)(a:Nat):cI n R a<=n:=by
 rw[oH];have:=List.countP_le_length (p:=R a) (l:=List.range n);rw[dh]at this;exact this
theorem gU{n:Nat}{R:Nat->Nat->Bool}(G:Good n R):∀a d,d∈gA n R a->cI n R d<cI n R a:=λa d h=>by
 obtain⟨ha,hd,hs⟩:=dD.mp h;have hb:=P4 hs;unfold c5 at hb;rw[bH,oK,tj]at hb;rw[oH,oH];refine yH (x:=a) (cM.mpr ha) (λy hy h=>G.trans ha hd (cM.mp hy) hb.2 h) ?_ (G.refl a ha);cases e:R d a with
 |false=>rfl
 |true=>exact absurd (G.anti a d ha hd hb.2 e) hb.1
noncomputable def qc(n:Nat)(R:Nat->Nat->Bool)(b a:Nat):List (List Nat):=Cl.climbs (gA n R) b n a
noncomputable def bp(n:Nat)(R:Nat->Nat->Bool)(b a:Nat):Nat:=Cl.W (gA n R) b n a
section
variable {n:Nat} {R:Nat->Nat->Bool}
theorem rM{b:Nat}:bp n R b b=1:=Cl.x6
theorem wL(G:Good n R){b a:Nat}(ha:a<n)(h:a≠b):bp n R b a=((bL n R a).map (bp n R b)).sum:=by
 unfold bp;rw[Cl.Hj (gU G) (ft n R a) h,jA ha]
theorem aby(G:Good n R){b a:Nat}(ha:a<n):bp n R b a+1<=2 ^ n:=Cl.RQ (gU G) (zQ n R) (ft n R) (λa d h=>(dD.mp h).2.1) ha
theorem Fi(G:Good n R)(hn:n<=24){b a:Nat}(ha:a<n):bp n R b a<16777216:=by
 have h1:=aby G (b:=b) ha;have h2:2 ^ n<=2 ^ 24:=rZ (by decide) hn;have h3:(2:Nat) ^ 24=16777216:=by decide
 omega
theorem K0{b a:Nat}:(qc n R b a).length=bp n R b a:=rfl
theorem Bo(G:Good n R){b a:Nat}{c:List Nat}:c∈qc n R b a ↔ Cl.gE (gA n R) b a c:=Cl.mem_iff (gU G) (zQ n R) (ft n R)
end
structure Md (n:Nat) (R:Nat->Nat->Bool) (J N:Nat->Nat->Nat):Prop where
 G:Good n R
 j:∀a b,a<n->b<n->bA n R a b (J a b)
 m:∀a b,a<n->b<n->bB n R a b (N a b)
 md:∀a b c,a<n->b<n->c<n->R a c=true->J a (N b c)=N (J a b) c
theorem fO{n:Nat}{R:Nat->Nat->Bool}{a b:Nat}:bz n R a b=true ↔ a≠b/\R a b=true/\∀t,t<n->R a t=true->R t b=true->t=a\/t=b:=by
 unfold bz c5;rw[bH,bH,oK,tj,oK,List.any_eq_false]
 constructor
 ·rintro⟨⟨h1,h2⟩,h3⟩
  refine⟨h1,h2,λt ht q1 q2=>?_⟩;apply oP
  intro z;have z1:a≠t:=λe=>z (.inl e.symm);have z2:t≠b:=λe=>z (.inr e);exact h3 t (cM.mpr ht) (by rw[q1,q2,fH z1,fH z2];rfl)
 ·rintro⟨h1,h2,h3⟩
  refine⟨⟨h1,h2⟩,λt ht q=>?_⟩;simp only[bH,oK,tj]at q
  rcases h3 t (cM.mp ht) q.1.2 q.2.2 with e|e
  ·exact q.1.1 e.symm
  ·exact q.2.1 e
section
variable {n:Nat} {R:Nat->Nat->Bool} {J N:Nat->Nat->Nat} {a b c x y:Nat}
theorem Md.gf(M:Md n R J N)(ha:a<n)(hb:b<n):J a b<n:=(M.j a b ha hb).1
theorem Md.mlt(M:Md n R J N)(ha:a<n)(hb:b<n):N a b<n:=(M.m a b ha hb).1
theorem Md.jl(M:Md n R J N)(ha:a<n)(hb:b<n):R a (J a b)=true/\R b (J a b)=true:=by
 have h:=(M.j a b ha hb).2 _ (M.gf ha hb);rw[M.G.refl _ (M.gf ha hb)]at h;have h:=h.symm
 rwa [bH]at h
theorem Md.ml(M:Md n R J N)(ha:a<n)(hb:b<n):R (N a b) a=true/\R (N a b) b=true:=by
 have h:=(M.m a b ha hb).2 _ (M.mlt ha hb);rw[M.G.refl _ (M.mlt ha hb)]at h;have h:=h.symm
 rwa [bH]at h
theorem Md.qz(M:Md n R J N)(ha:a<n)(hb:b<n)(hc:c<n)(h1:R a c=true)(h2:R b c=true):R (J a b) c=true:=by
 rw[(M.j a b ha hb).2 c hc,h1,h2];rfl
theorem Md.uE(M:Md n R J N)(ha:a<n)(hb:b<n)(hc:c<n)(h1:R c a=true)(h2:R c b=true):R c (N a b)=true:=by
 rw[(M.m a b ha hb).2 c hc,h1,h2];rfl
theorem Md.jc(M:Md n R J N)(ha:a<n)(hb:b<n):J a b=J b a:=
 M.G.anti _ _ (M.gf ha hb) (M.gf hb ha) (M.qz ha hb (M.gf hb ha) (M.jl hb ha).2 (M.jl hb ha).1) (M.qz hb ha (M.gf ha hb) (M.jl ha hb).2 (M.jl ha hb).1)
theorem Md.mc(M:Md n R J N)(ha:a<n)(hb:b<n):N a b=N b a:=
 M.G.anti _ _ (M.mlt ha hb) (M.mlt hb ha) (M.uE hb ha (M.mlt ha hb) (M.ml ha hb).2 (M.ml ha hb).1) (M.uE ha hb (M.mlt hb ha) (M.ml hb ha).2 (M.ml hb ha).1)
theorem Md.Ky(M:Md n R J N)(ha:a<n)(hb:b<n)(h:R a b=true):J a b=b:=M.G.anti _ _ (M.gf ha hb) hb (M.qz ha hb hb h (M.G.refl _ hb)) (M.jl ha hb).2
theorem Md.X4(M:Md n R J N)(ha:a<n)(hb:b<n)(h:R a b=true):N a b=a:=M.G.anti _ _ (M.mlt ha hb) ha (M.ml ha hb).1 (M.uE ha hb ha (M.G.refl _ ha) h)
theorem Md.lo(M:Md n R J N)(hx:x<n)(hy:y<n)(h:bz n R y (J x y)=true):bz n R (N x y) x=true:=by
 obtain⟨h1,h2,h3⟩:=fO.mp h;have hm:=M.mlt hx hy;refine fO.mpr ⟨λe=>h1 ?_,(M.ml hx hy).1,λz hz q1 q2=>?_⟩
 ·have:=(M.ml hx hy).2
  rw[e]at this;exact(M.Ky hx hy this).symm
 ·have hj:J z y<n:=M.gf hz hy
  have md:=M.md z y x hz hy hx q2
  rcases h3 (J z y) hj (M.jl hz hy).2 (M.qz hz hy (M.gf hx hy) (M.G.trans hz hx (M.gf hx hy) q2 (M.jl hx hy).1) (M.jl hx hy).2)with e|e
  ·have hzy:R z y=true:=by
    have:=(M.jl hz hy).1
    rwa [e]at this
   exact .inl (M.G.anti _ _ hz hm (M.uE hx hy hz q2 hzy) q1)
  ·rw[e]at md
   have e1:J z (N y x)=z:=by
    rw[M.mc hy hx,M.jc hz hm];exact M.Ky hm hz q1
   have e2:N (J x y) x=x:=by
    rw[M.mc (M.gf hx hy) hx];exact M.X4 hx (M.gf hx hy) (M.jl hx hy).1
   rw[e1,e2]at md;exact .inr md
open Classical in
noncomputable def rk (G:Good n R) (x:Nat):Nat:=if h:∃y,y<n/\x<n/\bz n R y x=true then rk G h.choose+1 else 0
termination_by n - cI n R x
decreasing_by
 obtain⟨h1,h2,h3⟩:=h.choose_spec;have:=gU G _ _ (dD.mpr ⟨h1,h2,h3⟩);have:=ft n R h.choose;omega
theorem qZ(G:Good n R)(h:∀y,y<n->x<n->bz n R y x=true->False):rk G x=0:=by
 unfold rk;rw[dif_neg (λ⟨y,h1,h2,h3⟩=>h y h1 h2 h3)]
theorem Md.Nv(M:Md n R J N):∀(k a b:Nat),n - cI n R b<=k->a<n->b<n->bz n R a b=true->rk M.G b=rk M.G a+1:=by
 intro k
 induction k with
 |zero =>
  intro a b hk ha hb hs;have h1:=gU M.G _ _ (dD.mpr ⟨ha,hb,hs⟩);have h2:=ft n R a;omega
 |succ k ih =>
  intro a b hk ha hb hs;have hex:∃y,y<n/\b<n/\bz n R y b=true:=⟨a,ha,hb,hs⟩;have e0:rk M.G b=rk M.G hex.choose+1:=by
   conv=>lhs;unfold rk
   rw[dif_pos hex]
  rw[e0];obtain⟨hc,_,hcs⟩:=hex.choose_spec;generalize hex.choose=c at hc hcs
  by_cases hac:a=c
  ·rw[hac]
  ·obtain⟨a1,a2,a3⟩:=fO.mp hs
   obtain⟨c1,c2,c3⟩:=fO.mp hcs;have hJ:J a c=b:=by
    rcases a3 (J a c) (M.gf ha hc) (M.jl ha hc).1 (M.qz ha hc hb a2 c2)with e|e
    ·have:=(M.jl ha hc).2
     rw[e]at this
     rcases c3 a ha this a2 with z|z
     ·exact absurd z hac
     ·exact absurd z a1
    ·exact e
   have l1:=M.lo ha hc (by rw[hJ];exact hcs);have l2:=M.lo hc ha (by rw[M.jc hc ha,hJ];exact hs);rw[M.mc hc ha]at l2;have u1:=gU M.G _ _ (dD.mpr ⟨ha,hb,hs⟩);have u2:=gU M.G _ _ (dD.mpr ⟨hc,hb,hcs⟩);have v1:=ft n R a;have v2:=ft n R c;rw[ih (N a c) a (by omega) (M.mlt ha hc) ha l1,ih (N a c) c (by omega) (M.mlt ha hc) hc l2]
end
noncomputable def gs(n:Nat)(R:Nat->Nat->Bool)(e:Nat)(done:List Nat)(x:Nat):Nat:=if x=e then 1 else if x∈done then bp n R e x else 0
theorem Qw{n:Nat}{R:Nat->Nat->Bool}{e z:Nat}{d d':List Nat}(h:z∈d ↔ z∈d'):gs n R e d z=gs n R e d' z:=by
 unfold gs
 by_cases q:z∈d'
 ·rw[aC (h.mpr q),aC q]
 ·rw[aq (λw=>q (h.mp w)),aq q]
theorem set_range{n:Nat}{f g:Nat->V}{j:Nat}{v:V}(hj:j<n)(h1:g j=v)(h2:∀x,x<n->x≠j->g x=f x):((List.range n).map f).set j v=(List.range n).map g:=by
 refine j4 (by simp) λi a b=>?_;have hi:i<n:=by simpa using b
 rw[List.getElem_set]
 by_cases e:j=i
 ·subst e
  rw[aC rfl];simp[h1]
 ·rw[aq e]
  simp[h2 i hi (cZ e)]
theorem Hm{n:Nat}{R:Nat->Nat->Bool}(hn:n<=24)(i:Nat):(bL n R i).length<=24:=by
 unfold bL;have:=iI (bz n R i) (List.range n);rw[dh]at this;omega
theorem P9:∀l:List Nat,(l.map λd:Nat=>(d:Int)).sum=((l.sum:Nat):Int)
 | []=>rfl
 |d::l=>by rw[cE,fT,fT,P9 l];push_cast;rfl
section
variable {P:Program} {w:World} {K:W.Frag} {mg:Str->Option Value} {base:Heap} {f:Addr} {fd:FuncData}
abbrev rq:Stmt:=top 39
theorem N7:aZ ["order","above","end","ways","thing"] ["order","above","end"] (aE rq):=⟨rfl,rfl,rfl,by decide +kernel,rfl,by decide +kernel,by decide +kernel⟩
noncomputable def DG(C Pt:Addr):Sp:=λvs H Q _=>∃(p D n e:Nat) (R:Nat->Nat->Bool),vs = [.ref p,.ref D,.int e]/\cN C H p n R/\Good n R/\n<=24/\H Pt=some (.lam iU iV)/\kZ H D n (bL n R)/\e<n /\
 ∀(r:Addr) (H':Hp),Same H H'->H r=none->H' r=some (.lst ((List.range n).map λx=>nV (bp n R e x)))->Q (.ref r) H'
theorem Yp {C Pt:Addr} (F:aV K "climbs_to" "climbs_to" rq f fd) (T:Txt mg) (TC:cD K C) (m6:ao P w K mg base "highest_first" ["order"] 1 (vV C Pt)):aN P w K mg base aS 2 f fd ["order","above","end"] (DG C Pt):=by
 refine F.ok N7 (λvs H Q E h=>?_) (λcdv A outer s H vs Q E hr h=>?_)
 ·obtain⟨p,D,n,e,R,rfl,_⟩:=h
  rfl
 ·obtain⟨p,D,n,e,R,rfl,hO,G,hn,hP,hA,he,kk⟩:=h
  have nd:=N7.nd;have en:((n:Int)).toNat=n:=bu n;obtain⟨dx,vp,vr,vj,vm,o1,_⟩:=id hO;refine⟨_,(au (aQ (i:=3) nd rfl (Or.inr rfl) (cS (own:=["thing"]) (fr:=[]) rfl (bX (aE rq) ["order","above","end","ways","thing"] rfl rfl (by decide +kernel)) (bY rfl T.range (ae (bq (K:=K) rfl (pv 0) rfl) ag)) (λ_ _ _ _=>⟨(aW (i:=0) (by decide +kernel:(["thing"]:List Str).Nodup) rfl (Or.inl rfl)),da,ak⟩)))
   (au (kI ak (qS (pv 3) (pv 2) set_list))
   (au (cn b_ rfl (eU (K:=K) rfl (aH m6 hr rfl (ae (pv 0) ag))) (aW (i:=4) nd rfl (Or.inl rfl))
   (ax (bU (bV ja (pv 4) (pv 2) (bN _)) (ax (kI (cA (Te (K:=K) rfl rfl) rfl T.sum boot_sum (ae (cS (own:=["higher"]) (fr:=[("ways", 3)]) rfl (bX (aE rq) ["order","above","end","ways","thing"] rfl rfl (by decide +kernel)) (eU (K:=K) rfl (ay (bE (K:=K) rfl) (pv 1) (pv 4) (λ_ _=>rfl))) (λ_ _ _ _=>⟨(aW (i:=0) (by decide +kernel:(["higher","ways"]:List Str).Nodup) rfl (Or.inl rfl)),da,(ay (bE (K:=K) rfl) (pv 1) (pv 0) (λ_ _=>rfl))⟩)) ag)) (qS (pv 3) (pv 4) set_list))) cq)))
   (ax (aX (pv 3)))))),?_⟩
  refine⟨_,rfl,p,C,dx,_,_,rfl,o1,TC.cl,TC.nC,cX _ _ _ _ _,_,rfl,(a_ (by omega)).1,(a_ (by omega)).2,λr hr=>fE (λ_=>.int 0) src_range hr (by rw[en];exact cH hn) (λi H2 Kt hi hs hk=>hk _ (Same.refl _)) (λH1 hs hl=>?_)⟩;rw[en]at hl;have e1:((List.range n).map λ_=>V.int 0).set e (.int 1)=(List.range n).map λx=>nV (gs n R e [] x):=set_range he (by unfold gs;rw[aC rfl];rfl) λx _ hx=>by unfold gs;rw[aq hx,aq (by simp)];rfl
  refine⟨_,rfl,_,rfl,r,_,_,e,rfl,rfl,hl,by rw[aG,dh];exact qy he,?_⟩;rw[e1];have s2:Same H (upd H1 r (.lst ((List.range n).map λx=>nV (gs n R e [] x)))):=λb o q=>by rw[aJ (bO q hr)];exact hs b o q
  refine⟨_,rfl,p,n,R,rfl,hO.bx s2,hn,s2 _ _ hP,λL hs2 H3 s3 nL q3 pm pw=>?_⟩;have rL:r≠L:=λz=>by rw[<- z,aA]at nL;cases nL
  refine⟨L,rfl,⟨_,ai.of q3⟩,iS (K:=K) (a:=L) (xs:=hs2.map nV) (λi σ H4=>∃v4,σ = [some (.ref p),some (.ref D),some (.int e),some (.ref r),v4]/\Same H H4/\H4 r=some (.lst ((List.range n).map λx=>nV (gs n R e (hs2.take i) x)))/\H4 L=some (.lst (hs2.map nV)))
   ⟨none,rfl,s2.trans s3,s3 _ _ aA,q3⟩ (λi σ H4 _ ⟨_,_,_,_,q4⟩=>ai.of q4) ?_ ?_⟩
  ·rintro i y σ H4 hy ⟨v4,rfl,s4,g4,q4⟩
   obtain⟨x,hx,rfl⟩:∃x,hs2[i]?=some x/\y=nV x:=by
    rw[cT]at hy;cases e:hs2[i]? with
    |none=>rw[e]at hy;cases hy
    |some x=>rw[e]at hy;exact⟨x,rfl,(dW hy).symm⟩
   have hxn:x<n:=cM.mp (pm.mem_iff.mp (cV hx));have et:hs2.take (i+1)=hs2.take i++[x]:=by rw[o8,hx];rfl
   refine⟨_,rfl,_,rfl,rfl,_,rfl,bM (λh=>?_) (λh=>?_)⟩
   ·have uo:x≠e:=λz=>by rw[z]at h;simp at h
    obtain⟨Fh,b0,qD,qv,qb⟩:=(hA.same s4).get hxn;refine⟨_,rfl,_,rfl,D,Fh,_,.ref b0,rfl,rfl,ai.of qD,aM qv,b0,rfl,⟨_,ai.of qb⟩,λD2 hD2=>fE (λj=>nV (bp n R e ((bL n R x).getD j 0))) (src_list (ai.of qb)) hD2 (by rw[aG];exact cH (Hm hn x)) (λj H5 Kt hj qt hk=>?_) (λH5 qt Ag=>?_)⟩
    ·rw[aG]at hj
     have eg:=UG hj;generalize hd:(bL n R x).getD j 0=d at eg hk;have hdm:d∈gA n R x:=by rw[jA hxn,<- hd];exact X1 hj
     have hdn:=(dD.mp hdm).2.1;refine⟨_,rfl,_,rfl,r,_,_,nV (bp n R e d),rfl,by rw[eg],ai.of (qt _ _ g4),?_,hk _ (Same.refl _)⟩;have hw:gs n R e (hs2.take i) d=bp n R e d:=by
      unfold gs
      by_cases z:d=e
      ·rw[aC z,z,rM]
      ·rw[aq z,aC (Cl.ahead (gU G) pw hx hdm (pm.mem_iff.mpr (cM.mpr hdn)))]
     exact aM (by rw[dC hdn,hw])
    ·rw[aG]at Ag
     have e5:(List.range (bL n R x).length).map (λj=>nV (bp n R e ((bL n R x).getD j 0)))=(((bL n R x).map λd=>((bp n R e d:Nat):Int)).map V.int):=by
      rw[d6];refine j4 (by simp) λk h1 h2=>?_;have hk:k<(bL n R x).length:=by simpa using h1
      simp[bh,hk]
     rw[e5]at Ag;have es:((bL n R x).map λd=>((bp n R e d:Nat):Int)).sum=((bp n R e x:Nat):Int):=by
      rw[wL G hxn uo,<- P9,d6];rfl
     refine⟨D2,_,rfl,ai.of Ag,by rw[aG];have:=Hm (R:=R) hn x;omega,λz hz=>?_,?_⟩
     ·obtain⟨d,hd,rfl⟩:=cu.mp hz
      have hdn:d<n:=(dD.mp (by rw[jA hxn];exact hd:d∈gA n R x)).2.1;have:=Fi G hn (b:=e) hdn;omega
     ·rw[es]
      have g5:=qt _ _ g4;refine⟨_,rfl,_,rfl,r,_,_,x,rfl,rfl,g5,by rw[aG,dh];exact qy hxn,?_⟩;refine⟨_,rfl,λb o q=>by rw[aJ (bO q hr)];exact qt _ _ (s4 _ _ q),?_,by rw[aJ (cZ rL)];exact qt _ _ q4⟩;rw[aA,et]
      congr 2
      refine set_range hxn ?_ λz hz hzx=>?_
      ·unfold gs
       rw[aq uo,aC (by simp)]
      ·rw[Qw (d':=hs2.take i) (by simp[hzx])]
   ·have uo:x=e:=by
     apply oP
     intro z;apply h
     simp only[oK,tj];intro q;injection q with q
     omega
    refine⟨_,rfl,s4,?_,q4⟩;rw[g4]
    congr 2
    refine gZ λz hz=>?_
    by_cases Ay:z=e
    ·unfold gs
     rw[aC Ay,aC Ay]
    ·rw[Qw (d':=hs2.take (i+1)) (by rw[et];simp;rw[uo];intro q;exact absurd q Ay)]
  ·rintro σ H4 ⟨v4,rfl,s4,g4,q4⟩
   refine⟨_,rfl,kk r H4 s4 hr ?_⟩;rw[g4]
   congr 2
   refine gZ λx hx=>?_;have hx':=cM.mp hx;unfold gs
   by_cases h:x=e
   ·rw[aC h,h,rM]
   ·rw[aq h,aG,mN,aC (pm.mem_iff.mpr hx)]
end
noncomputable def Un(n:Nat)(R:Nat->Nat->Bool)(a b c:Nat):Prop:=R a c=true/\∃m x j y,bB n R b c m/\bA n R a m x/\bA n R a b j/\bB n R j c y/\x≠y
noncomputable def Lex(a b c a' b' c':Nat):Prop:=a<a'\/(a=a'/\(b<b'\/(b=b'/\c<c')))
structure First (n:Nat) (U:Nat->Nat->Nat->Prop) (a b c:Nat):Prop where
 la:a<n
 lb:b<n
 lc:c<n
 is:U a b c
 no:∀a' b' c',a'<n->b'<n->c'<n->Lex a' b' c' a b c->¬ U a' b' c'
noncomputable def RP(n:Nat)(U:Nat->Nat->Nat->Prop)(v:V)(H:Hp):Prop:=(v = .non/\∀a b c,a<n->b<n->c<n->¬ U a b c)\/∃t a b c:Nat,v = .ref t/\H t=some (.tup [.int a,.int b,.int c])/\First n U a b c
section
variable {P:Program} {w:World} {K:W.Frag} {mg:Str->Option Value} {base:Heap} {f:Addr} {fd:FuncData}
abbrev Dc:Stmt:=top 42
theorem Oo:aZ ["order","a","b","c"] ["order","a","b","c"] (aE Dc):=⟨rfl,rfl,rfl,by decide +kernel,rfl,by decide +kernel,by decide +kernel⟩
noncomputable def vY(C:Addr):Sp:=λvs H Q _=>∃(p n a b c m x:Nat) (R:Nat->Nat->Bool),vs = [.ref p,.int a,.int b,.int c]/\cN C H p n R/\Good n R/\a<n/\b<n/\c<n/\bB n R b c m/\bA n R a m x/\Q (.int x) H
theorem YH {C:Addr} (F:aV K "join_of_meet" "join_of_meet" Dc f fd) (T:Txt mg) (TC:cD K C):aN P w K mg base aS 1 f fd ["order","a","b","c"] (vY C):=by
 refine F.ok Oo (λvs H Q E h=>?_) (λcdv A outer s H vs Q E hr h=>?_)
 ·obtain⟨p,n,a,b,c,m,x,R,rfl,_⟩:=h
  rfl
 ·obtain⟨p,n,a,b,c,m,x,R,rfl,hO,G,ha,hb,hc,hm,hx,kk⟩:=h
  have nd:=Oo.nd;obtain⟨dx,vp,vr,vj,vm,o1,_,_,oj,om⟩:=hO;obtain⟨ra,us,rb,rfl,q1,q2,q3⟩:=oj.get ha;obtain⟨sa,ws,sb,rfl,p1,p2,p3⟩:=om.get hb;have em:eI n (λa b=>R b a) b c = .int m:=gO G.ki hm.1 hm.2;have ex:eI n R a m = .int x:=gO G.dis hx.1 hx.2;refine⟨_,(ax (aX (ay (aO (K:=K) rfl) (ay (aO (K:=K) rfl) (bq (K:=K) rfl (pv 0) rfl) (pv 1) (λ_ _=>rfl)) (ay (aO (K:=K) rfl) (ay (aO (K:=K) rfl) (bq (K:=K) rfl (pv 0) rfl) (pv 2) (λ_ _=>rfl)) (pv 3) (λ_ _=>rfl)) (λ_ _=>rfl)))),?_⟩;exact⟨_,rfl,p,C,dx,_,_,rfl,o1,TC.cl,TC.nJ,qg _ _ _ _ _,_,rfl,ra,us,_,.ref rb,rfl,rfl,av.of q1,aM q2,_,rfl,p,C,dx,_,_,rfl,o1,TC.cl,TC.nM,qh _ _ _ _ _,_,rfl,sa,ws,_,.ref sb,rfl,rfl,av.of p1,aM p2,_,rfl,sb,_,_,.int m,rfl,rfl,av.of p3,aM (by rw[dC hc,em]),rb,_,_,.int x,rfl,rfl,av.of q3,aM (by rw[dC hm.1,ex]),kk⟩
abbrev Dn:Stmt:=top 43
theorem O9:aZ ["order","a","b","c"] ["order","a","b","c"] (aE Dn):=⟨rfl,rfl,rfl,by decide +kernel,rfl,by decide +kernel,by decide +kernel⟩
noncomputable def wk(C:Addr):Sp:=λvs H Q _=>∃(p n a b c j y:Nat) (R:Nat->Nat->Bool),vs = [.ref p,.int a,.int b,.int c]/\cN C H p n R/\Good n R/\a<n/\b<n/\c<n/\bA n R a b j/\bB n R j c y/\Q (.int y) H
theorem YZ {C:Addr} (F:aV K "meet_of_join" "meet_of_join" Dn f fd) (T:Txt mg) (TC:cD K C):aN P w K mg base aS 1 f fd ["order","a","b","c"] (wk C):=by
 refine F.ok O9 (λvs H Q E h=>?_) (λcdv A outer s H vs Q E hr h=>?_)
 ·obtain⟨p,n,a,b,c,m,x,R,rfl,_⟩:=h
  rfl
 ·obtain⟨p,n,a,b,c,j,y,R,rfl,hO,G,ha,hb,hc,hj,hy,kk⟩:=h
  have nd:=O9.nd;obtain⟨dx,vp,vr,vj,vm,o1,_,_,oj,om⟩:=hO;obtain⟨ra,us,rb,rfl,q1,q2,q3⟩:=oj.get ha;obtain⟨sa,ws,sb,rfl,p1,p2,p3⟩:=om.get hj.1;have ej:eI n R a b = .int j:=gO G.dis hj.1 hj.2;have ey:eI n (λa b=>R b a) j c = .int y:=gO G.ki hy.1 hy.2;refine⟨_,(ax (aX (ay (aO (K:=K) rfl) (ay (aO (K:=K) rfl) (bq (K:=K) rfl (pv 0) rfl) (ay (aO (K:=K) rfl) (ay (aO (K:=K) rfl) (bq (K:=K) rfl (pv 0) rfl) (pv 1) (λ_ _=>rfl)) (pv 2) (λ_ _=>rfl)) (λ_ _=>rfl)) (pv 3) (λ_ _=>rfl)))),?_⟩;exact⟨_,rfl,p,C,dx,_,_,rfl,o1,TC.cl,TC.nM,qh _ _ _ _ _,_,rfl,p,C,dx,_,_,rfl,o1,TC.cl,TC.nJ,qg _ _ _ _ _,_,rfl,ra,us,_,.ref rb,rfl,rfl,av.of q1,aM q2,_,rfl,rb,_,_,.int j,rfl,rfl,av.of q3,aM (by rw[dC hb,ej]),sa,ws,_,.ref sb,rfl,rfl,av.of p1,aM p2,_,rfl,sb,_,_,.int y,rfl,rfl,av.of p3,aM (by rw[dC hc,ey]),kk⟩
abbrev Du:Stmt:=top 44
theorem Pz:aZ ["order","a","b","c"] ["order"] (aE Du):=⟨rfl,rfl,rfl,by decide +kernel,rfl,by decide +kernel,by decide +kernel⟩
noncomputable def Ek(C:Addr):Sp:=λvs H Q _=>∃(p n:Nat) (R:Nat->Nat->Bool),vs = [.ref p]/\cN C H p n R/\Good n R/\n<=24/\∀v H',Same H H'->RP n (Un n R) v H'->Q v H'
theorem Y8 {C:Addr} (F:aV K "uneven" "uneven" Du f fd) (T:Txt mg) (TC:cD K C) (m8:ao P w K mg base "join_of_meet" ["order","a","b","c"] 1 (vY C)) (nh:ao P w K mg base "meet_of_join" ["order","a","b","c"] 1 (wk C)) :
  aN P w K mg base aS 2 f fd ["order"] (Ek C):=by
 refine F.ok Pz (λvs H Q E h=>?_) (λcdv A outer s H vs Q E hr h=>?_)
 ·obtain⟨p,n,R,rfl,_⟩:=h
  rfl
 ·obtain⟨p,n,R,rfl,hO,G,hn,kk⟩:=h
  have nd:=Pz.nd;have en:((n:Int)).toNat=n:=bu n;obtain⟨dx,vp,vr,vj,vm,o1,_,o3,_,_⟩:=id hO;refine⟨_,(au (cn b_ rfl (bY rfl T.range (ae (bq (K:=K) rfl (pv 0) rfl) ag)) (aW (i:=1) nd rfl (Or.inl rfl))
   (ax (cn b_ rfl (bY rfl T.range (ae (bq (K:=K) rfl (pv 0) rfl) ag)) (aW (i:=2) nd rfl (Or.inl rfl))
   (ax (cn b_ rfl (bY rfl T.range (ae (bq (K:=K) rfl (pv 0) rfl) ag)) (aW (i:=3) nd rfl (Or.inl rfl))
   (ax (bU (PW.pt (mn (dM (ay (aO (K:=K) rfl) (ay (aO (K:=K) rfl) (bq (K:=K) rfl (pv 0) rfl) (pv 1) (λ_ _=>rfl)) (pv 3) (λ_ _=>rfl))) (mq (bV ja (aH m8 hr rfl (ae (pv 0) (ae (pv 1) (ae (pv 2) (ae (pv 3) ag (aF nofun)) (aF nofun)) (aF nofun)) (aF nofun))) (aH nh hr rfl (ae (pv 0) (ae (pv 1) (ae (pv 2) (ae (pv 3) ag (aF nofun)) (aF nofun)) (aF nofun)) (aF nofun))) (bN _))))) (ax (aX (eT (ae (pv 1) (ae (pv 2) (ae (pv 3) ag (aF nofun)) (aF nofun)) (aF nofun))))) cq)))))))
   (ax (aX uU))),?_⟩
  refine⟨_,rfl,p,C,dx,_,_,rfl,o1,TC.cl,TC.nC,cX _ _ _ _ _,_,rfl,(a_ (by omega)).1,(a_ (by omega)).2,eu (lo:=0) (n:=((n:Int)).toNat) (λi σ H2=>∃(v1 v2 v3:Option V),σ = [some (.ref p),v1,v2,v3]/\Same H H2/\∀a b c,a<i->b<n->c<n->¬ Un n R a b c)
   ⟨none,none,none,rfl,Same.refl _,λa b c h=>by omega⟩ ?_ ?_⟩
  ·rintro i σ H2 hi ⟨v1,v2,v3,rfl,s2,qH⟩
   rw[en]at hi;refine⟨_,rfl,p,C,dx,_,_,rfl,s2 _ _ o1,TC.cl,TC.nC,cX _ _ _ _ _,_,rfl,(a_ (by omega)).1,(a_ (by omega)).2,eu (lo:=0) (n:=((n:Int)).toNat) (λj σ H3=>∃(v2 v3:Option V),σ = [some (.ref p),some (.int (0+(i:Int))),v2,v3]/\Same H H3/\∀b c,b<j->c<n->¬ Un n R i b c)
    ⟨v2,v3,rfl,s2,λb c h=>by omega⟩ ?_ ?_⟩
   ·rintro j σ H3 hj ⟨v2,v3,rfl,s3,qI⟩
    rw[en]at hj;refine⟨_,rfl,p,C,dx,_,_,rfl,s3 _ _ o1,TC.cl,TC.nC,cX _ _ _ _ _,_,rfl,(a_ (by omega)).1,(a_ (by omega)).2,eu (lo:=0) (n:=((n:Int)).toNat) (λk σ H4=>∃(v3:Option V),σ = [some (.ref p),some (.int (0+(i:Int))),some (.int (0+(j:Int))),v3]/\Same H H4/\∀c,c<k->¬ Un n R i j c)
     ⟨v3,rfl,s3,λc h=>by omega⟩ ?_ ?_⟩
    ·rintro k σ H4 hk ⟨v3,rfl,s4,qJ⟩
     rw[en]at hk;obtain⟨ra,us,rb,rfl,q1,q2,q3⟩:=(o3.same s4).get hi;obtain⟨m,hm,hm'⟩:=G.meet j k hj hk;obtain⟨x,hx,hx'⟩:=G.join i m hi hm;obtain⟨jj,uh,Af⟩:=G.join i j hi hj;obtain⟨y,hy,hy'⟩:=G.meet jj k uh hk;have next:¬ Un n R i j k->∀c,c<k+1->¬ Un n R i j c:=λh c hc=>by
      by_cases e:c=k
      ·subst e;exact h
      ·exact qJ c (by omega)
     refine⟨_,rfl,p,C,dx,_,_,rfl,s4 _ _ o1,TC.cl,TC.nR,jy _ _ _ _ _,_,rfl,ra,us,_,.ref rb,rfl,rfl,av.of q1,at0 q2,_,rfl,rb,_,_,.bl (R i k),rfl,rfl,av.of q3,at0 (dC hk),_,rfl,?_⟩;refine bM (λh=>?_) (λh=>?_)
     ·refine⟨_,rfl,_,rfl,_,rfl,_,rfl,p,n,i,j,k,m,x,R,by simp,hO.bx s4,G,hi,hj,hk,⟨hm,hm'⟩,⟨hx,hx'⟩,?_⟩
      refine⟨_,rfl,_,rfl,_,rfl,_,rfl,p,n,i,j,k,jj,y,R,by simp,hO.bx s4,G,hi,hj,hk,⟨uh,Af⟩,⟨hy,hy'⟩,rfl,_,rfl,?_⟩;refine bM (λh2=>?_) (λh2=>?_)
      ·have ne:x≠y:=λz=>by subst z;simp at h2
       refine⟨_,rfl,_,rfl,_,rfl,by show 3<=sizeLine;decide,λt ht=>kk _ _ (s4.trans (Same.put ht)) (.inr ⟨t,i,j,k,rfl,by rw[aA,dg,dg,dg],hi,hj,hk,⟨h,m,x,jj,y,⟨hm,hm'⟩,⟨hx,hx'⟩,⟨uh,Af⟩,⟨hy,hy'⟩,ne⟩,λa' b' c' ha hb hc l=>?_⟩)⟩
       rcases l with l|⟨rfl,l|⟨rfl,l⟩⟩
       ·exact qH a' b' c' l hb hc
       ·exact qI b' c' l hc
       ·exact qJ c' l
      ·have e:x=y:=by
        by_cases z:x=y
        ·exact z
        ·exact absurd (by rw[fH (λq=>by injection q with q;omega)];rfl) h2
       refine⟨_,rfl,s4,next λz=>?_⟩;obtain⟨_,m',x',j',y',k1,k2,k3,k4,ne⟩:=z;obtain rfl:=k1.uniq G ⟨hm,hm'⟩;obtain rfl:=k3.uniq G ⟨uh,Af⟩;exact ne ((k2.uniq G ⟨hx,hx'⟩).trans (e.trans (k4.uniq G ⟨hy,hy'⟩).symm))
     ·refine cz ⟨_,rfl,s4,next λz=>h z.1⟩
    ·rintro σ H4 ⟨v3,rfl,s4,qJ⟩
     rw[en]at qJ;refine⟨_,_,rfl,s4,λb c hb hc=>?_⟩
     by_cases e:b=j
     ·subst e;exact qJ c hc
     ·exact qI b c (by omega) hc
   ·rintro σ H3 ⟨v2,v3,rfl,s3,qI⟩
    rw[en]at qI;refine⟨_,_,_,rfl,s3,λa b c ha hb hc=>?_⟩
    by_cases e:a=i
    ·subst e;exact qI b c hb hc
    ·exact qH a b c (by omega) hb hc
  ·rintro σ H2 ⟨v1,v2,v3,rfl,s2,qH⟩
   rw[en]at qH;exact kk _ _ s2 (.inl ⟨rfl,qH⟩)
end
end My
namespace L2
open PySem PySem.Spec PyProof.Rows
noncomputable def oU(K:W.Frag)(a:Addr)(n:Nat):It:=
 ⟨λi H=>i<n/\∃xs x,ai K H a xs/\xs[n - 1 - i]?=some x,λi H x H'=>H'=H/\∀xs,ai K H a xs->xs[n - 1 - i]?=some x,λi H=>i=n⟩
theorem abk{P:Program}{w:World}{K:W.Frag}{tg:Expr}(a it:Addr)(n:Nat):Turn P w K tg (oU K a n) [it] it (λi h=>h.IsRevIter it a ((n:Int) - 1 - (i:Int))) where
 mem:=by simp
 obj:=λi h st b hb=>by
  have e:b=it:=by simpa using hb
  subst e;obtain⟨o,e,c,d⟩:=st;exact⟨o,e,λv z=>by rw[d]at z;cases z⟩
 keep:=λi h h' st k=>by
  obtain⟨o,e,c,d⟩:=st;exact⟨o,k it (by simp) o e,c,d⟩
 item:=by
  intro X hP hw hK hc i pins s σ H E I hf st hg;subst hP hw hK;obtain⟨hi,xs,x,hq,hx⟩:=hg;obtain⟨its,rv,p,hz⟩:=I.list hq;obtain⟨u,hu,ru⟩:=rv.get hx;obtain⟨f0,f1,f2,f3,f4,f5⟩:=hf it (by simp);have e0:(n:Int) - 1 - (i:Int)=((n - 1 - i:Nat):Int):=by omega
  rw[e0]at st;refine wpAny_pyNext_rev_item st p.isList (x:=u) (by simpa using hu) λh' st' sb=>?_;have I1:Inv X pins σ H {s with heap:=h'}:=I.turned (t':=s.toks) (λb o hb e=>(sb.2 b hb).trans e) f0 f1 f3 f4 f5;have e1:((n - 1 - i:Nat):Int) - 1=(n:Int) - 1 - ((i+1:Nat):Int):=by omega
  rw[e1]at st';obtain⟨o,e,c,d⟩:=id st';exact⟨u,rfl,ql (s:={s with heap:=h'}) e c d (by decide) ⟨x,H,I1,ru,⟨rfl,λys hy=>by rw[I.Bm hy hq];exact hx⟩,st',λb hb=>(hf b hb).1⟩⟩
 done:=by
  intro X hP hw hK hc i pins s σ H E I hf st hg;subst hP hw hK;have hg:i=n:=hg;obtain⟨f0,f1,f2,f3,f4,f5⟩:=hf it (by simp);have e0:(n:Int) - 1 - (i:Int) = -1:=by omega
  rw[e0]at st;exact wpAny_pyNext_rev_end (I.ok.hd hc) st λh' eb=>⟨rfl,I.turned (t':=s.toks) (λb o hb e=>eb b o hb e) f0 f1 f3 f4 f5⟩
 self:=λ_ _ _ _ _ st h=>wpAny_pyIter_revIter st h
noncomputable def WN(K:W.Frag)(ta:TA):TI:=λσ H R=>ta σ H λvs H1=>∃a xs,vs = [.ref a]/\ai K H1 a xs/\R (oU K a xs.length) H1
section
variable {X:Cx} {tg:Expr}
theorem ZJ {K:W.Frag} {p pos:Pos} {e:Expr} {ta:TA} (hK:X.K=K) (hg:Gl X "reversed") (hm:X.mg "reversed" = none) (ha:PA X [e] ta)
  (he:starEach [e] X.env = [(false,eval e X.env)]:=by rfl):PI X tg (.Call (.Name "reversed" p) [e] [] pos) (WN K ta):=by
 subst hK;intro pins s σ H R I h;refine lh (iY I hg hm boot_reversed ?_ (by decide) (by decide));refine mR (aL (ha pos pins s σ H _ I h) λus s1 ⟨vs,H1,I1,r1,q1⟩=>?_) he rfl;obtain⟨a,xs,rfl,hq,q⟩:=q1;obtain⟨u,rfl,ru⟩:=(show ∃u,us = [u]/\RelV (.ref a) u from by
  cases r1 with
  |cons r t=>cases t;exact⟨_,rfl,r⟩)
 cases ru;obtain⟨its,rv,lp,hz⟩:=I1.list hq;refine call_reversed_list lp.isList ?_;have st:(s1.heap.push (revObj a ((its.toArray.size:Int) - 1))).IsRevIter s1.heap.objs.size a ((its.toArray.size:Int) - 1):=⟨_,bJ _ rfl,rfl,rfl⟩;have hl:its.toArray.size=xs.length:=by simp[rv.length]
 rw[hl]at st ⊢;refine wpAny_pyIter_revIter st ?_;refine⟨s1.heap.objs.size,[s1.heap.objs.size],_,_,H1,rfl,I1.kept (t':=s1.toks) λb o e=>aU _ e,abk a _ xs.length,by show Heap.IsRevIter _ _ _ _;simpa using st,λb hb=>?_,q⟩;have e:b=s1.heap.objs.size:=by simpa using hb
 subst e;exact I1.kj (aY _) (I1.hok.fresh (aY _))
theorem Us{K:PySem.W.Frag}{a:Addr}{xs:List V}{g:TG}{tb:TS}{D:Ends}{σ:St}{H:Hp}(Pv:Nat->St->Hp->Prop)(h0:Pv 0 σ H)(hl:∀i σ H,i<=xs.length->Pv i σ H->ai K H a xs)
  (hs:∀i x σ H,i<xs.length->xs[xs.length - 1 - i]?=some x->Pv i σ H->g x σ H λσ2 H2=>tb {D with nx:=Pv (i+1),ct:=Pv (i+1),bk:=D.nx} σ2 H2) (hd:∀σ H,Pv xs.length σ H->D.nx σ H) :
  ∃W:Nat->Nat->St->Hp->Prop,(∃m,W 0 m σ H)/\∀i m σ H,W i m σ H ->
   ((oU K a xs.length).stop i H/\D.nx σ H)\/((oU K a xs.length).go i H/\∃N:St->Hp->Prop,(∀σ' H',N σ' H'->∃m',m'<m/\W (i+1) m' σ' H')/\∀x H',(oU K a xs.length).jW i H x H'->g x σ H' λσ2 H2=>tb {D with nx:=N,ct:=N,bk:=D.nx} σ2 H2):=by
 refine⟨λi m σ H=>m=xs.length - i/\i<=xs.length/\Pv i σ H,⟨xs.length,by simp,cW _,h0⟩,?_⟩;rintro i m σ H ⟨rfl,hi,p⟩;have q:=hl i σ H hi p
 by_cases hlt:i<xs.length
 ·have hx:xs[xs.length - 1 - i]?=some (xs[xs.length - 1 - i]'(by omega)):=aI (by omega)
  refine .inr ⟨⟨hlt,xs,_,q,hx⟩,Pv (i+1),λσ' H' p'=>⟨xs.length - (i+1),by omega,rfl,hlt,p'⟩,λx H' y=>?_⟩;obtain⟨e,y⟩:=y;subst e;exact hs i x σ _ hlt (y xs q) p
 ·have e:i=xs.length:=by omega
  subst e;exact .inl ⟨rfl,hd σ H p⟩
end
end L2
namespace My
open PySem PySem.Spec PyProof.Rows L2
noncomputable def lR {n:Nat} {R:Nat->Nat->Bool} (G:Good n R) (d:List Nat) (y:Nat):Nat:=if d.any (λx=>bz n R x y)then rk G y else 0
theorem behind{n:Nat}{R:Nat->Nat->Bool}{hs:List Nat}{i x z:Nat}(pw:hs.Pairwise (λa b=>cI n R a<=cI n R b))(hi:i<hs.length)(hx:hs[hs.length - 1 - i]?=some x)(hz:z∈hs)(hlt:cI n R x<cI n R z):z∈hs.drop (hs.length - i):=by
 obtain⟨k,hk,e⟩:=k8 hz;obtain⟨hj,ex⟩:=bD.mp hx
 by_cases hkj:hs.length - i<=k
 ·rw[List.mem_iff_getElem]
  refine⟨k - (hs.length - i),by rw[o6];omega,?_⟩;rw[List.getElem_drop];have:hs.length - i+(k - (hs.length - i))=k:=by omega
  simp only[this];exact e
 ·by_cases hke:k=hs.length - 1 - i
  ·have:z=x:=by rw[<- e,<- ex];simp only[hke]
   rw[this]at hlt;omega
  ·have h1:=Ge.mp pw k (hs.length - 1 - i) hk hj (by omega)
   rw[e,ex]at h1;omega
theorem TK{hs:List Nat}{i x:Nat}(hi:i<hs.length)(hx:hs[hs.length - 1 - i]?=some x):hs.drop (hs.length - (i+1))=x::hs.drop (hs.length - i):=by
 obtain⟨hj,ex⟩:=bD.mp hx;have e1:hs.length - (i+1)=hs.length - 1 - i:=by omega
 rw[e1,List.drop_eq_getElem_cons hj,ex]
 congr 2
 omega
theorem Wn{n:Nat}{R:Nat->Nat->Bool}{G:Good n R}{hs:List Nat}{i x:Nat}(pw:hs.Pairwise (λa b=>cI n R a<=cI n R b))(pm:hs.Perm (List.range n))(hi:i<hs.length)(hx:hs[hs.length - 1 - i]?=some x):lR G (hs.drop (hs.length - i)) x=rk G x:=by
 unfold lR
 by_cases h:(hs.drop (hs.length - i)).any (λz=>bz n R z x)=true
 ·rw[aC h]
 ·rw[aq h,qZ G]
  intro y hy hxn hs';apply h
  rw[oY];exact⟨y,behind pw hi hx (pm.mem_iff.mpr (cM.mpr hy)) (gU G _ _ (dD.mpr ⟨hy,hxn,hs'⟩)),hs'⟩
section
variable {P:Program} {w:World} {K:W.Frag} {mg:Str->Option Value} {base:Heap} {f:Addr} {fd:FuncData}
abbrev vt:Stmt:=top 46
theorem Oe:aZ ["order","above","heights","thing","higher"] ["order"] (aE vt):=⟨rfl,rfl,rfl,by decide +kernel,rfl,by decide +kernel,by decide +kernel⟩
noncomputable def DT(C Pt:Addr):Sp:=λvs H Q _=>∃(p n:Nat) (R:Nat->Nat->Bool) (J N:Nat->Nat->Nat) (M:Md n R J N),vs = [.ref p]/\cN C H p n R/\n<=24/\H Pt=some (.lam iU iV) /\
 ∀D H',Same H H'->H D=none->H' D=some (.lst ((List.range n).map λx=>nV (rk M.G x)))->Q (.ref D) H'
theorem Yz {C Pt:Addr} (F:aV K "heights_of" "heights_of" vt f fd) (T:Txt mg) (TC:cD K C) (zR:mg "reversed" = none) (nq:ao P w K mg base "steps_above" ["order"] 4 (wD C)) (m6:ao P w K mg base "highest_first" ["order"] 1 (vV C Pt)) :
  aN P w K mg base aS 5 f fd ["order"] (DT C Pt):=by
 refine F.ok Oe (λvs H Q E h=>?_) (λcdv A outer s H vs Q E hr h=>?_)
 ·obtain⟨p,n,R,J,N,M,rfl,_⟩:=h
  rfl
 ·obtain⟨p,n,R,J,N,M,rfl,hO,hn,hP,kk⟩:=h
  have nd:=Oe.nd;have en:((n:Int)).toNat=n:=bu n;refine⟨_,(au (aQ (i:=1) nd rfl (Or.inl rfl) (aH nq hr rfl (ae (pv 0) ag)))
   (au (uZ (i:=2) nd rfl rfl (own:=["thing"]) (fr:=[]) rfl (bX (aE vt) ["order","above","heights","thing","higher"] rfl rfl (by decide +kernel)) (bY rfl T.range (ae (bq (K:=K) rfl (pv 0) rfl) ag)) (λ_ _ _ _=>⟨(aW (i:=0) (by decide +kernel:(["thing"]:List Str).Nodup) rfl (Or.inl rfl)),da,ak⟩))
   (au (cn b_ rfl (ZJ (K:=K) rfl rfl zR (ae (aH m6 hr rfl (ae (pv 0) ag)) ag)) (aW (i:=3) nd rfl (Or.inl rfl))
   (ax (cn b_ rfl (eU (K:=K) rfl (ay (bE (K:=K) rfl) (pv 1) (pv 3) (λ_ _=>rfl))) (aW (i:=4) nd rfl (Or.inl rfl))
   (ax (kI (aB cY (ay (bE (K:=K) rfl) (pv 2) (pv 3) (λ_ _=>rfl)) ak) (qS (pv 2) (pv 4) set_list))))))
   (ax (aX (pv 2)))))),?_⟩
  refine⟨_,rfl,p,n,R,rfl,hO,hn,λD H1 s1 nD hA=>?_⟩;obtain⟨dx,vp,vr,vj,vm,o1,_⟩:=id (hO.bx s1);refine⟨_,rfl,p,C,dx,_,_,rfl,o1,TC.cl,TC.nC,cX _ _ _ _ _,_,rfl,(a_ (by omega)).1,(a_ (by omega)).2,λr hr=>fE (λ_=>.int 0) src_range hr (by rw[en];exact cH hn) (λi H2 Kt hi hs hk=>hk _ (Same.refl _)) (λH2 hs hl=>?_)⟩;rw[en]at hl;have s2:=s1.trans hs;refine⟨_,rfl,p,n,R,rfl,hO.bx s2,hn,s2 _ _ hP,λL hs2 H3 s3 nL q3 pm pw=>?_⟩;have rL:r≠L:=λz=>by rw[<- z,hl]at nL;cases nL
  have hlen:hs2.length=n:=by rw[pm.length_eq,dh]
  have Wj:H r=none:=s1.free hr;refine⟨L,_,rfl,ai.of q3,Us (K:=K) (a:=L) (xs:=hs2.map nV) (λi σ H4=>∃v3 v4,σ = [some (.ref p),some (.ref D),some (.ref r),v3,v4]/\Same H1 H4/\H4 r=some (.lst ((List.range n).map λx=>nV (lR M.G (hs2.drop (hs2.length - i)) x)))/\H4 L=some (.lst (hs2.map nV)))
   ⟨none,none,rfl,hs.trans s3,?_,q3⟩ (λi σ H4 _ ⟨_,_,_,_,_,q4⟩=>ai.of q4) ?_ ?_⟩
  ·rw[s3 _ _ hl,xE,List.drop_length]
   rfl
  ·rintro i y σ H4 hi hy ⟨v3,v4,rfl,s4,g4,q4⟩
   rw[aG]at hi hy;obtain⟨x,hx,rfl⟩:∃x,hs2[hs2.length - 1 - i]?=some x/\y=nV x:=by
    rw[cT]at hy;cases e:hs2[hs2.length - 1 - i]? with
    |none=>rw[e]at hy;cases hy
    |some x=>rw[e]at hy;exact⟨x,rfl,(dW hy).symm⟩
   have hxn:x<n:=cM.mp (pm.mem_iff.mp (cV hx));have own:=Wn (G:=M.G) pw pm hi hx;rw[TK hi hx];generalize hdn:hs2.drop (hs2.length - i)=dn at g4 own;obtain⟨Fh,b0,qD,qv,qb⟩:=(hA.same s4).get hxn;have nb0:b0≠r:=λz=>by
    obtain⟨vs1,b1,Z0,Nb,M9⟩:=hA.get hxn;rw[s4 _ _ Z0]at qD;cases qD;rw[qv]at Nb;cases Nb;rw[z,hr]at M9;cases M9
   refine⟨_,rfl,_,rfl,D,Fh,_,.ref b0,rfl,rfl,ai.of qD,aM qv,b0,rfl,⟨_,ai.of qb⟩,iS (K:=K) (a:=b0) (xs:=(bL n R x).map nV) (λj σ H5=>∃v4,σ = [some (.ref p),some (.ref D),some (.ref r),some (nV x),v4]/\Same H1 H5/\H5 r=some (.lst ((List.range n).map λy=>nV (if y∈(bL n R x).take j then rk M.G y else lR M.G dn y)))/\H5 L=some (.lst (hs2.map nV))/\H5 b0=some (.lst ((bL n R x).map nV)))
    ⟨_,rfl,s4,by rw[g4];simp,q4,qb⟩ (λj σ H5 _ ⟨_,_,_,_,_,g⟩=>ai.of g) ?_ ?_⟩
   ·rintro j y σ H5 hy ⟨v4,rfl,s5,g5,q5,M_⟩
    obtain⟨d,hd,rfl⟩:∃d,(bL n R x)[j]?=some d/\y=nV d:=by
     rw[cT]at hy;cases e:(bL n R x)[j]? with
     |none=>rw[e]at hy;cases hy
     |some x=>rw[e]at hy;exact⟨x,rfl,(dW hy).symm⟩
    have hdm:d∈gA n R x:=by rw[jA hxn];exact cV hd
    obtain⟨_,hdn',hst⟩:=dD.mp hdm;have hrk:=M.Nv _ _ _ (aY _) hxn hdn' hst;have hown:(if x∈(bL n R x).take j then rk M.G x else lR M.G dn x)=rk M.G x:=by
     split
     ·rfl
     ·exact own
    refine⟨_,rfl,_,rfl,r,_,_,nV (rk M.G x),rfl,rfl,ai.of g5,aM (by rw[dC hxn,hown]),_,_,rfl,rfl,?_⟩;refine⟨_,rfl,_,rfl,r,_,_,d,rfl,rfl,g5,by rw[aG,dh];exact qy hdn',?_⟩;refine⟨_,rfl,λb o q=>by rw[aJ (bO q hr)];exact s5 _ _ q,?_,by rw[aJ (cZ rL)];exact q5,by rw[aJ nb0];exact M_⟩;have et:(bL n R x).take (j+1)=(bL n R x).take j++[d]:=by rw[o8,hd];rfl
    rw[aA,et]
    congr 2
    refine set_range hdn' ?_ λz hz hzx=>?_
    ·rw[aC (by simp),hrk]
     rfl
    ·simp[hzx]
   ·rintro σ H5 ⟨v4,rfl,s5,g5,q5,M_⟩
    refine⟨_,_,rfl,s5,?_,q5⟩;rw[g5,aG,mN]
    congr 2
    refine gZ λy hy=>?_;have hy':=cM.mp hy
    congr 1
    unfold lR;rw[w9]
    by_cases h:y∈bL n R x
    ·have hst:bz n R x y=true:=(dD.mp (by rw[jA hxn];exact h:y∈gA n R x)).2.2
     rw[aC h,hst,Bool.true_or,aC rfl]
    ·have hst:bz n R x y=false:=by
      cases e:bz n R x y with
      |false=>rfl
      |true=>exact absurd (by rw[<- jA hxn];exact dD.mpr ⟨hxn,hy',e⟩) h
     rw[aq h,hst,Bool.false_or]
  ·rintro σ H4 ⟨v3,v4,rfl,s4,g4,q4⟩
   refine⟨_,rfl,kk r H4 (s1.trans s4) Wj ?_⟩;rw[g4,aG,pq,List.drop_zero]
   congr 2
   refine gZ λy hy=>?_;have hy':=cM.mp hy
   congr 1
   unfold lR
   by_cases h:hs2.any (λx=>bz n R x y)=true
   ·rw[aC h]
   ·rw[aq h,qZ M.G]
    intro z hz _ hst;apply h
    rw[oY];exact⟨z,pm.mem_iff.mpr (cM.mpr hz),hst⟩
end
section
variable {n:Nat} {R:Nat->Nat->Bool}
theorem XS(G:Good n R)(no:∀a b c,a<n->b<n->c<n->¬ Un n R a b c):∃J N,Md n R J N:=by
 have hJ:∃J:Nat->Nat->Nat,∀a b,a<n->b<n->bA n R a b (J a b):=⟨λa b=>if h:a<n/\b<n then Classical.choose (G.join a b h.1 h.2)else 0,λa b ha hb=>by
  have h:=wW (G.join a b ha hb);simp only[ha,hb,and_self,dite_true];exact h⟩
 have hN:∃N:Nat->Nat->Nat,∀a b,a<n->b<n->bB n R a b (N a b):=⟨λa b=>if h:a<n/\b<n then Classical.choose (G.meet a b h.1 h.2)else 0,λa b ha hb=>by
  have h:=wW (G.meet a b ha hb);simp only[ha,hb,and_self,dite_true];exact h⟩
 obtain⟨J,hJ⟩:=hJ;obtain⟨N,hN⟩:=hN;refine⟨J,N,G,hJ,hN,λa b c ha hb hc hac=>?_⟩;apply oP
 intro ne;have h1:=hN b c hb hc;have h3:=hJ a b ha hb;exact no a b c ha hb hc ⟨hac,_,_,_,_,h1,hJ a _ ha h1.1,h3,hN _ c h3.1 hc,ne⟩
end
noncomputable def Five(n:Nat)(R:Nat->Nat->Bool)(fs:List Int):Prop:=∃b l s h t:Nat,fs = [(b:Int),(l:Int),(s:Int),(h:Int),(t:Int)]/\(b<n/\l<n/\s<n/\h<n/\t<n) /\
 l≠h/\R l h=true/\R s h=false/\R l s=false/\bB n R l s b/\bB n R h s b/\bA n R l s t/\bA n R h s t
theorem Uo{n:Nat}{R:Nat->Nat->Bool}{b l s h t:Nat}(hb:b<n)(hl:l<n)(hs:s<n)(hh:h<n)(ht:t<n):Five n R [(b:Int),(l:Int),(s:Int),(h:Int),(t:Int)] ↔
  (l≠h/\R l h=true/\R s h=false/\R l s=false/\bB n R l s b/\bB n R h s b/\bA n R l s t/\bA n R h s t):=by
 constructor
 ·rintro⟨b',l',s',h',t',e,_,k⟩
  simp only[w_,FH,and_true]at e;obtain⟨rfl,rfl,rfl,rfl,rfl⟩:=e;exact k
 ·intro k
  exact⟨b,l,s,h,t,rfl,⟨hb,hl,hs,hh,ht⟩,k⟩
section
variable {P:Program} {w:World} {K:W.Frag} {mg:Str->Option Value} {base:Heap} {f:Addr} {fd:FuncData}
end
section
variable {n:Nat} {R:Nat->Nat->Bool} {a b c l s t m x j y:Nat}
theorem Ku(G:Good n R)(hl:l<n)(hs:s<n)(ht:t<n)(h1:R l t=true)(h2:R s t=true)(h3:∀z,z<n->R l z=true->R s z=true->R t z=true):bA n R l s t:=
 ⟨ht,λz hz=>by rw[eX,bH];exact⟨λq=>⟨G.trans hl ht hz h1 q,G.trans hs ht hz h2 q⟩,λq=>h3 z hz q.1 q.2⟩⟩
theorem Kv(G:Good n R)(hl:l<n)(hs:s<n)(ht:t<n)(h1:R t l=true)(h2:R t s=true)(h3:∀z,z<n->R z l=true->R z s=true->R z t=true):bB n R l s t:=
 ⟨ht,λz hz=>by rw[eX,bH];exact⟨λq=>⟨G.trans hz ht hl q h1,G.trans hz ht hs q h2⟩,λq=>h3 z hz q.1 q.2⟩⟩
theorem lS(h:bA n R a b c){z:Nat}(hz:z<n)(h1:R a z=true)(h2:R b z=true):R c z=true:=by rw[h.2 z hz,h1,h2];rfl
theorem oa(h:bB n R a b c){z:Nat}(hz:z<n)(h1:R z a=true)(h2:R z b=true):R z c=true:=by rw[h.2 z hz,h1,h2];rfl
theorem Up(G:Good n R)(ha:a<n)(hb:b<n)(hc:c<n)(hac:R a c=true)(hm:bB n R b c m)(hx:bA n R a m x)(hj:bA n R a b j)(hy:bB n R j c y)(ne:x≠y):Five n R [(m:Int),(x:Int),(b:Int),(y:Int),(j:Int)]:=by
 have lm:=hm.1;have lx:=hx.1;have lj:=hj.1;have ly:=hy.1;obtain⟨m1,m2⟩:=hm.dn G hb hc;obtain⟨x1,x2⟩:=hx.up G ha lm;obtain⟨j1,j2⟩:=hj.up G ha hb;obtain⟨y1,y2⟩:=hy.dn G lj hc;have aj:R a y=true:=oa hy ha j1 hac;have my:R m y=true:=oa hy lm (G.trans lm hb lj m1 j2) m2;have xy:R x y=true:=lS hx ly aj my;have xj:R x j=true:=lS hx lj j1 (G.trans lm hb lj m1 j2);have J1:bA n R x b j:=Ku G lx hb lj xj j2 λz hz q1 q2=>lS hj hz (G.trans ha lx hz x1 q1) q2;have J2:bA n R y b j:=Ku G ly hb lj y1 j2 λz hz q1 q2=>lS hj hz (G.trans ha ly hz aj q1) q2;have M2:bB n R y b m:=Kv G ly hb lm my m1 λz hz q1 q2=>oa hm hz q2 (G.trans hz ly hc q1 y2);have M1:bB n R x b m:=Kv G lx hb lm x2 m1 λz hz q1 q2=>oa M2 hz (G.trans hz lx ly q1 xy) q2;refine(Uo lm lx hb ly lj).mpr ⟨ne,xy,?_,?_,M1,M2,J1,J2⟩
 ·cases e:R b y with
  |false=>rfl
  |true =>
   have hjy:R j y=true:=lS J2 ly (G.refl y ly) e;have hbm:R b m=true:=oa M2 hb e (G.refl b hb);have hjx:R j x=true:=lS hj lx x1 (G.trans hb lm lx hbm x2);exact absurd (G.anti _ _ lx ly xy (G.trans ly lj lx y1 hjx)) ne
 ·cases e:R x b with
  |false=>rfl
  |true =>
   have VM:R j b=true:=lS J1 hb e (G.refl b hb);have WD:R y b=true:=G.trans ly lj hb y1 VM;have WK:R y m=true:=oa M2 ly (G.refl y ly) WD;exact absurd (G.anti _ _ lx ly xy (G.trans ly lm lx WK x2)) ne
end
section
variable {P:Program} {w:World} {K:W.Frag} {mg:Str->Option Value} {base:Heap} {f:Addr} {fd:FuncData}
abbrev CT:Stmt:=top 45
theorem Od:aZ ["order","triple","a","b","c","low","high"] ["order","triple"] (aE CT):=⟨rfl,rfl,rfl,by decide +kernel,rfl,by decide +kernel,by decide +kernel⟩
noncomputable def DR(K:W.Frag)(C:Addr):Sp:=λvs H Q _=>∃(p t n a b c:Nat) (R:Nat->Nat->Bool),vs = [.ref p,.ref t]/\cN C H p n R/\Good n R/\av K H t [.int a,.int b,.int c]/\a<n/\b<n/\c<n/\Un n R a b c /\
 ∀u fs H',Same H H'->H' u=some (.tup (fs.map V.int))->Five n R fs->Q (.ref u) H'
theorem Yx {C:Addr} (F:aV K "five_of" "five_of" CT f fd) (T:Txt mg) (TC:cD K C) (m8:ao P w K mg base "join_of_meet" ["order","a","b","c"] 1 (vY C)) (nh:ao P w K mg base "meet_of_join" ["order","a","b","c"] 1 (wk C)) :
  aN P w K mg base aS 2 f fd ["order","triple"] (DR K C):=by
 refine F.ok Od (λvs H Q E h=>?_) (λcdv A outer s H vs Q E hr h=>?_)
 ·obtain⟨p,t,n,a,b,c,R,rfl,_⟩:=h
  rfl
 ·obtain⟨p,t,n,a,b,c,R,rfl,hO,G,hT,ha,hb,hc,⟨hac,m,x,j,y,hm,hx,hj,hy,ne⟩,kk⟩:=h
  have nd:=Od.nd;obtain⟨dx,vp,vr,vj,vm,o1,_,_,oj,om⟩:=id hO;have em:eI n (λa b=>R b a) b c = .int m:=gO G.ki hm.1 hm.2;have ej:eI n R a b = .int j:=gO G.dis hj.1 hj.2;obtain⟨ra,us,rb,rfl,q1,q2,q3⟩:=oj.get ha;obtain⟨sa,us',sb,rfl,p1,p2,p3⟩:=om.get hb;refine⟨_,(au (aQ (i:=2) nd rfl (Or.inl rfl) (ay (aO (K:=K) rfl) (pv 1) ak (λ_ _=>rfl)))
   (au (aQ (i:=3) nd rfl (Or.inl rfl) (ay (aO (K:=K) rfl) (pv 1) ak (λ_ _=>rfl)))
   (au (aQ (i:=4) nd rfl (Or.inl rfl) (ay (aO (K:=K) rfl) (pv 1) ak (λ_ _=>rfl)))
   (au (aQ (i:=5) nd rfl (Or.inl rfl) (aH m8 hr rfl (ae (pv 0) (ae (pv 2) (ae (pv 3) (ae (pv 4) ag (aF nofun)) (aF nofun)) (aF nofun)) (aF nofun))))
   (au (aQ (i:=6) nd rfl (Or.inl rfl) (aH nh hr rfl (ae (pv 0) (ae (pv 2) (ae (pv 3) (ae (pv 4) ag (aF nofun)) (aF nofun)) (aF nofun)) (aF nofun))))
   (ax (aX (eT (ae (ay (aO (K:=K) rfl) (ay (aO (K:=K) rfl) (bq (K:=K) rfl (pv 0) rfl) (pv 3) (λ_ _=>rfl)) (pv 4) (λ_ _=>rfl)) (ae (pv 5) (ae (pv 3) (ae (pv 6) (ae (ay (aO (K:=K) rfl) (ay (aO (K:=K) rfl) (bq (K:=K) rfl (pv 0) rfl) (pv 2) (λ_ _=>rfl)) (pv 3) (λ_ _=>rfl)) ag (aF nofun)) (aF nofun)) (aF nofun)) (aF nofun)) (aF nofun)))))))))),?_⟩
  refine⟨_,rfl,t,_,0,.int (a:Int),rfl,rfl,hT,aM (j:=0) rfl,?_⟩;refine⟨_,rfl,t,_,1,.int (b:Int),rfl,rfl,hT,aM (j:=1) rfl,?_⟩;refine⟨_,rfl,t,_,2,.int (c:Int),rfl,rfl,hT,aM (j:=2) rfl,?_⟩;refine⟨_,rfl,_,rfl,_,rfl,_,rfl,p,n,a,b,c,m,x,R,rfl,hO,G,ha,hb,hc,hm,hx,?_⟩;refine⟨_,rfl,_,rfl,_,rfl,_,rfl,p,n,a,b,c,j,y,R,rfl,hO,G,ha,hb,hc,hj,hy,?_⟩;refine⟨_,rfl,p,C,dx,_,_,rfl,o1,TC.cl,TC.nM,qh _ _ _ _ _,_,rfl,sa,us',_,.ref sb,rfl,rfl,av.of p1,aM p2,_,rfl,sb,_,_,.int (m:Int),rfl,rfl,av.of p3,aM (by rw[dC hc,em]),_,rfl,_,rfl,_,rfl,
   _,rfl,p,C,dx,_,_,rfl,o1,TC.cl,TC.nJ,qg _ _ _ _ _,_,rfl,ra,us,_,.ref rb,rfl,rfl,av.of q1,aM q2,_,rfl,rb,_,_,.int (j:Int),rfl,rfl,av.of q3,aM (by rw[dC hb,ej]),by show 5<=sizeLine;decide,λu hu=>?_⟩
  exact kk u [(m:Int),(x:Int),(b:Int),(y:Int),(j:Int)] _ (Same.put hu) aA (Up G ha hb hc hac hm hx hj hy ne)
abbrev CQ:Stmt:=top 47
theorem Oc:aZ ["order","triple"] ["order"] (aE CQ):=⟨rfl,rfl,rfl,by decide +kernel,rfl,by decide +kernel,by decide +kernel⟩
noncomputable def rE(C Pt:Addr):Sp:=λvs H Q _=>∃(p n:Nat) (R:Nat->Nat->Bool),vs = [.ref p]/\cN C H p n R/\Good n R/\n<=24/\H Pt=some (.lam iU iV) /\
 (∀(J N:Nat->Nat->Nat) (M:Md n R J N) t D H',Same H H'->H D=none->(∀a b c,a<n->b<n->c<n->¬ Un n R a b c)->H' t=some (.tup [.bl true,.ref D])->H' D=some (.lst ((List.range n).map λx=>nV (rk M.G x)))->Q (.ref t) H') /\
 (∀t u fs a b c H',Same H H'->First n (Un n R) a b c->H' t=some (.tup [.bl false,.ref u])->H' u=some (.tup (fs.map V.int))->Five n R fs->Q (.ref t) H')
theorem Yv {C Pt:Addr} (F:aV K "evenness" "evenness" CQ f fd) (T:Txt mg) (yE:ao P w K mg base "uneven" ["order"] 2 (Ek C)) (yo:ao P w K mg base "heights_of" ["order"] 5 (DT C Pt)) (yn:ao P w K mg base "five_of" ["order","triple"] 2 (DR K C)) :
  aN P w K mg base aS 6 f fd ["order"] (rE C Pt):=by
 refine F.ok Oc (λvs H Q E h=>?_) (λcdv A outer s H vs Q E hr h=>?_)
 ·obtain⟨p,n,R,rfl,_⟩:=h
  rfl
 ·obtain⟨p,n,R,rfl,hO,G,hn,hP,k1,k2⟩:=h
  have nd:=Oc.nd;refine⟨_,(au (aQ (i:=1) nd rfl (Or.inl rfl) (aH yE hr rfl (ae (pv 0) ag)))
   (au (bU (bV By (pv 1) uU (bN _)) (ax (aX (eT (ae eS (ae (aH yo hr rfl (ae (pv 0) ag)) ag))))) cq)
   (ax (aX (eT (ae eS (ae (aH yn hr rfl (ae (pv 0) (ae (pv 1) ag))) ag))))))),?_⟩
  refine⟨_,rfl,p,n,R,rfl,hO,G,hn,λv H1 s1 hv=>?_⟩
  rcases hv with⟨rfl,no⟩|⟨t,a,b,c,rfl,g,fst⟩
  ·obtain⟨J,N,M⟩:=XS G no
   refine⟨_,rfl,rfl,_,rfl,gQ ?_⟩;refine⟨_,rfl,p,n,R,J,N,M,rfl,hO.bx s1,hn,s1 _ _ hP,λD H2 s2 nD gD=>⟨by show 2<=sizeLine;decide,λt ht=>?_⟩⟩;exact k1 J N M t D _ (s1.trans (s2.trans (Same.put ht))) (s1.free nD) no aA (Same.put ht _ _ gD)
  ·refine⟨_,rfl,rfl,_,rfl,cz ?_⟩
   refine⟨_,rfl,_,rfl,p,t,n,a,b,c,R,rfl,hO.bx s1,G,av.of g,fst.la,fst.lb,fst.lc,fst.is,λu fs H2 s2 gu hf=>⟨by show 2<=sizeLine;decide,λt' ht=>?_⟩⟩;exact k2 t' u fs a b c _ (s1.trans (s2.trans (Same.put ht))) fst aA (Same.put ht _ _ gu) hf
abbrev CV:Stmt:=top 40
theorem Oh:aZ ["order","a","b"] ["order","a","b"] (aE CV):=⟨rfl,rfl,rfl,by decide +kernel,rfl,by decide +kernel,by decide +kernel⟩
noncomputable def vW(C Pt:Addr):Sp:=λvs H Q _=>∃(p n a b:Nat) (R:Nat->Nat->Bool),vs = [.ref p,.int a,.int b]/\cN C H p n R/\Good n R/\n<=24/\H Pt=some (.lam iU iV)/\a<n/\b<n /\
 ∀H',Same H H'->Q (nV (bp n R b a)) H'
theorem YC {C Pt:Addr} (F:aV K "how_many" "how_many" CV f fd) (T:Txt mg) (TC:cD K C) (dv:ao P w K mg base "need_thing" ["count","number"] 3 kQ) (nq:ao P w K mg base "steps_above" ["order"] 4 (wD C))
  (yl:ao P w K mg base "climbs_to" ["order","above","end"] 2 (DG C Pt)):aN P w K mg base aS 5 f fd ["order","a","b"] (vW C Pt):=by
 refine F.ok Oh (λvs H Q E h=>?_) (λcdv A outer s H vs Q E hr h=>?_)
 ·obtain⟨p,n,a,b,R,rfl,_⟩:=h
  rfl
 ·obtain⟨p,n,a,b,R,rfl,hO,G,hn,hP,ha,hb,kk⟩:=h
  have nd:=Oh.nd;obtain⟨dx,vp,vr,vj,vm,o1,_⟩:=id hO;refine⟨_,(au (cG (aH dv hr rfl (ae (bq (K:=K) rfl (pv 0) rfl) (ae (pv 1) ag))))
   (au (cG (aH dv hr rfl (ae (bq (K:=K) rfl (pv 0) rfl) (ae (pv 2) ag))))
   (ax (aX (ay (bE (K:=K) rfl) (aH yl hr rfl (ae (pv 0) (ae (aH nq hr rfl (ae (pv 0) ag)) (ae (pv 2) ag (aF nofun)) (aF nofun)) (aF nofun))) (pv 1) (λ_ _=>rfl)))))),?_⟩
  refine⟨_,rfl,p,C,dx,_,_,rfl,o1,TC.cl,TC.nC,cX _ _ _ _ _,_,rfl,⟨n,a,rfl,by omega,by omega⟩,λv1 H1 s1 e1=>?_⟩;refine⟨_,rfl,p,C,dx,_,_,rfl,s1 _ _ o1,TC.cl,TC.nC,cX _ _ _ _ _,_,rfl,⟨n,b,rfl,by omega,by omega⟩,λv2 H2 s2 e2=>?_⟩;have s12:=s1.trans s2;refine⟨_,rfl,_,rfl,p,n,R,rfl,hO.bx s12,hn,λD H3 s3 nD hA=>?_⟩;have Cm:=s12.trans s3;refine⟨_,rfl,p,D,n,b,R,rfl,hO.bx Cm,G,hn,Cm _ _ hP,hA,hb,λr H4 s4 nr g4=>?_⟩;exact⟨_,rfl,r,_,_,nV (bp n R b a),rfl,rfl,ai.of g4,aM (dC ha),kk _ (Cm.trans s4)⟩
end
end My
namespace L2
open PySem PySem.Spec PyProof.Rows
noncomputable def fU(xs:Array Nat):Prop:=∀i j,i<j->j<xs.size->xs.getD i 0<xs.getD j 0
theorem Uz{xs:Array Nat}{i:Nat}(h:i<xs.size)(a b:Nat):xs.getD i a=xs.getD i b:=by
 simp[Array.getD,h]
theorem ye{xs:Array Nat}{j:Nat}(hr:fU xs):∀(fuel lo hi:Nat),lo<=hi->hi<=xs.size->hi - lo<=fuel->(∀i,i<lo->xs.getD i 0<j)->(∀i,hi<=i->i<xs.size->j<=xs.getD i 0)->SetTable.below.go xs j fuel lo hi<=xs.size/\(∀i,i<SetTable.below.go xs j fuel lo hi->xs.getD i 0<j)/\(∀i,SetTable.below.go xs j fuel lo hi<=i->i<xs.size->j<=xs.getD i 0)
 |0,lo,hi,h1,h2,h3,h4,h5=>by
  have:lo=hi:=by omega
  subst this;exact⟨h2,h4,h5⟩
 |fuel+1,lo,hi,h1,h2,h3,h4,h5=>by
  unfold SetTable.below.go
  by_cases hlt:lo<hi
  ·rw[aC hlt]
   have hm:(lo+hi) / 2<xs.size:=by omega
   dsimp only;rw[Uz hm j 0]
   by_cases hc:xs.getD ((lo+hi) / 2) 0<j
   ·rw[aC hc]
    refine ye hr fuel _ _ (by omega) h2 (by omega) (λi hi'=>?_) h5
    by_cases e:i=(lo+hi) / 2
    ·rw[e];exact hc
    ·exact xC (hr i _ (by omega) hm) hc
   ·rw[aq hc]
    refine ye hr fuel _ _ (by omega) (by omega) (by omega) h4 (λi hi' hl=>?_)
    by_cases e:i=(lo+hi) / 2
    ·rw[e];omega
    ·have:=hr ((lo+hi) / 2) i (by omega) hl
     omega
  ·rw[aq hlt]
   have:lo=hi:=by omega
   subst this;exact⟨h2,h4,h5⟩
theorem yf{xs:Array Nat}{j:Nat}(hr:fU xs):SetTable.below xs j<=xs.size/\(∀i,i<SetTable.below xs j->xs.getD i 0<j)/\(∀i,SetTable.below xs j<=i->i<xs.size->j<=xs.getD i 0):=by
 unfold SetTable.below;exact ye hr _ _ _ (cW _) (aY _) (by omega) (λi h=>absurd h (by omega)) (λi h1 h2=>absurd h1 (by omega))
theorem Si{xs:Array Nat}(hr:fU xs){i:Nat}(hi:i<xs.size):SetTable.below xs (xs.getD i 0+1)=i+1:=by
 obtain⟨h1,h2,h3⟩:=yf (j:=xs.getD i 0+1) hr;generalize SetTable.below xs (xs.getD i 0+1)=b at h1 h2 h3
 rcases Nat.lt_trichotomy b (i+1)with h|h|h
 ·have:=h3 i (by omega) hi
  omega
 ·exact h
 ·have h4:=h2 (i+1) h
  have h5:=hr i (i+1) (by omega) (by omega);omega
theorem Sj{xs:Array Nat}(hr:fU xs):SetTable.below xs 0=0:=by
 obtain⟨h1,h2,h3⟩:=yf (j:=0) hr;generalize SetTable.below xs 0=b at h1 h2 h3
 rcases Nat.eq_zero_or_pos b with h|h
 ·exact h
 ·exact absurd (h2 0 h) (by omega)
theorem W3{α:Type}(xs:Array α)(p:Nat)(x:α)(hp:p<=xs.size):(SetTable.insertAt xs p x).size=xs.size+1:=by
 unfold SetTable.insertAt;simp;omega
theorem Kn{α:Type}(xs:Array α)(p:Nat)(x:α):(SetTable.insertAt xs p x).toList=xs.toList.take p++x::xs.toList.drop p:=by
 unfold SetTable.insertAt;simp[o9]
theorem insertAt_perm{α:Type}(xs:Array α)(p:Nat)(x:α):(SetTable.insertAt xs p x).toList.Perm (x::xs.toList):=by
 rw[Kn];refine List.perm_middle.trans ?_;rw[Ro]
theorem Km(xs:Array Nat)(p x i:Nat)(hp:p<=xs.size):(SetTable.insertAt xs p x).getD i 0=if i<p then xs.getD i 0 else if i=p then x else xs.getD (i - 1) 0:=by
 have e:∀(ys:Array Nat) (i:Nat),ys.getD i 0=ys.toList.getD i 0:=λys i=>by simp[Array.getD,bh];split<;>simp[*]
 rw[e,e,e,Kn,bh,bh,bh];have hl:(xs.toList.take p).length=p:=by rw[j5];simp;omega
 by_cases h1:i<p
 ·rw[aC h1,jh (by omega),Rf h1]
 ·rw[aq h1,iH (by omega),hl]
  by_cases h2:i=p
  ·rw[aC h2,h2,pq]
   rfl
  ·rw[aq h2]
   obtain⟨k,hk⟩:∃k,i - p=k+1:=⟨i - p - 1,by omega⟩;rw[hk,List.getElem?_cons_succ,List.getElem?_drop]
   congr 2
   omega
theorem aaj{xs:Array Nat}{j:Nat}(hr:fU xs)(hj:xs[SetTable.below xs j]?≠some j):fU (SetTable.insertAt xs (SetTable.below xs j) j):=by
 obtain⟨h1,h2,h3⟩:=yf (j:=j) hr;have h3':∀i,SetTable.below xs j<=i->i<xs.size->j<xs.getD i 0:=λi a b=>by
  rcases Nat.lt_or_eq_of_le (h3 i a b)with h|h
  ·exact h
  ·exfalso
   by_cases e:i=SetTable.below xs j
   ·apply hj
    rw[<- e,jX b];simp[Array.getD,b]at h;rw[h]
   ·have hb:SetTable.below xs j<xs.size:=by omega
    have q1:=h3 (SetTable.below xs j) (aY _) hb;have q2:=hr (SetTable.below xs j) i (by omega) b;omega
 generalize SetTable.below xs j=p at h1 h2 h3 h3';intro a b hab hb;rw[W3 _ _ _ h1]at hb;rw[Km _ _ _ _ h1,Km _ _ _ _ h1]
 by_cases a1:a<p
 ·rw[aC a1]
  by_cases b1:b<p
  ·rw[aC b1];exact hr a b hab (by omega)
  ·rw[aq b1]
   by_cases b2:b=p
   ·rw[aC b2];exact h2 a a1
   ·rw[aq b2]
    exact xC (h2 a a1) (h3' (b - 1) (by omega) (by omega))
 ·rw[aq a1]
  have b1:¬ b<p:=by omega
  have b2:¬ b=p:=by omega
  rw[aq b1,aq b2]
  by_cases a2:a=p
  ·rw[aC a2]
   exact h3' (b - 1) (by omega) (by omega)
  ·rw[aq a2]
   exact hr (a - 1) (b - 1) (by omega) (by omega)
theorem aal{l:List Nat}(h:l.Pairwise (· < ·)):fU l.toArray:=by
 intro i j hij hj;have hj':j<l.length:=by simpa using hj
 have:=Ge.mp h i j (by omega) hj' hij;simp[Array.getD,hj',show i<l.length by omega];exact this
theorem aak:fU #[]:=λi j _ h=>absurd h (by simp)
theorem Xq{mask finger moves:Nat}{led plain:Bool}{hs:Array Int}{t:SetTable}{order:Array Nat}(h:SetTable.laid mask finger moves led plain hs=some (t,order)):fU t.place/\t.dummies = #[]/\t.led=led/\t.plain=plain:=by
 unfold SetTable.laid at h;cases e:SetTable.layClean mask hs with
 |none=>rw[e]at h;cases h
 |some owner =>
  rw[e]at h;injection h with h
  injection h with h1 h2
  rw[<- h1];refine⟨?_,rfl,rfl,rfl⟩;apply aal
  rw[jk,List.pairwise_filterMap];refine Rk.imp λ{a b} hab x hx y hy=>?_;cases ea:owner.getD a none with
  |none=>rw[ea]at hx;cases hx
  |some p =>
   cases eb:owner.getD b none with
   |none=>rw[eb]at hy;cases hy
   |some q =>
    rw[ea]at hx;rw[eb]at hy;cases hx;cases hy;exact hab
theorem aaL{t:SetTable}(hd:t.dummies = #[])(j:Nat):t.slot j = .empty/\t.place[SetTable.below t.place j]?≠some j\/∃i,t.slot j = .live i:=by
 unfold SetTable.slot;dsimp only
 by_cases e:(t.place[SetTable.below t.place j]?==some j)=true
 ·rw[aC e]
  exact .inr ⟨_,rfl⟩
 ·rw[aq e]
  refine .inl ⟨?_,λz=>e (by rw[z];simp)⟩;rw[hd];rfl
theorem Jk{t:SetTable}{h:Int}(hd:t.dummies = #[]):∀(fuel:Nat) (p:SetTable.Probe) (j:Nat) (d:Option Nat),p.dummy=none->SetTable.probe.go t (λ_=>h+1) h fuel p=some (.empty j d)->d=none/\t.place[SetTable.below t.place j]?≠some j
 |0,p,j,d,_,e=>by cases e
 |fuel+1,p,j,d,hp,e=>by
  unfold SetTable.probe.go at e
  rcases aaL hd p.j with⟨q,q'⟩|⟨i,q⟩
  ·rw[q]at e
   injection e with e
   injection e with e1 e2
   rw[<- e1,<- e2];exact⟨hp,q'⟩
  ·rw[q]at e
   dsimp only at e;have hne:((h+1)==h)=false:=by
    rw[mY];omega
   rw[hne]at e;refine Jk hd fuel _ j d ?_ e;unfold SetTable.advance
   split<;>exact hp
theorem Uv{t:SetTable}{h:Int}{s:Nat}{w:Bool}(hd:t.dummies = #[])(e:t.freeSlot h=some (s,w)):w=false/\t.place[SetTable.below t.place s]?≠some s:=by
 unfold SetTable.freeSlot SetTable.probe at e;generalize eg:SetTable.probe.go t (λ_=>h+1) h (10*SetTable.turns t.mask) (t.probeStart h)=g at e
 match g,e with
 |some (.empty j d),e =>
  obtain⟨rfl,q⟩:=Jk hd _ _ j d rfl eg;injection e with e
  injection e with e1 e2
  rw[<- e1,<- e2];exact⟨rfl,q⟩
structure TabOk (t:SetTable):Prop where
 nd:t.dummies = #[]
 rise:t.plain=true->fU t.place
theorem abd(f m:Nat)(led:Bool):TabOk (SetTable.fresh f m led):=⟨rfl,λ_=>aak⟩
theorem wH{t:SetTable}(n:Nat):TabOk (t.standIn n)/\(t.standIn n).led=t.led:=⟨⟨rfl,λh=>by cases h⟩,rfl⟩
theorem KZ{t:SetTable}{es:Array (Int × Value)}{h:Int}{x:Value}(ok:TabOk t):TabOk (layNew t es h x).2.1/\(layNew t es h x).2.1.led=t.led/\(layNew t es h x).1.toList.Perm ((h,x)::es.toList)/\(layNew t es h x).2.2.1=false:=by
 unfold layNew;cases e:t.freeSlot h with
 |none =>
  refine⟨(wH _).1,rfl,?_,rfl⟩;dsimp only;rw[oJ];exact(Gf _ _)
 |some q =>
  obtain⟨s,w⟩:=q;obtain⟨rfl,hs⟩:=Uv ok.nd e;dsimp only[SetTable.put];have hhas:SetTable.has t.dummies s=false:=by rw[ok.nd];rfl
  rw[hhas];simp only[k0,jH];refine⟨?_,?_,insertAt_perm _ _ _,True.intro⟩
  ·unfold SetTable.orStandIn
   by_cases hf:({t with place:=SetTable.insertAt t.place (SetTable.below t.place s) s}:SetTable).fits (SetTable.insertAt es (SetTable.below t.place s) (h,x)).size=true
   ·rw[aC hf]
    exact⟨ok.nd,λhp=>aaj (ok.rise hp) hs⟩
   ·rw[aq hf]
    exact(wH _).1
  ·unfold SetTable.orStandIn
   by_cases hf:({t with place:=SetTable.insertAt t.place (SetTable.below t.place s) s}:SetTable).fits (SetTable.insertAt es (SetTable.below t.place s) (h,x)).size=true
   ·rw[aC hf]
   ·rw[aq hf]
    rfl
theorem Nn{α:Type}:∀l:List α,(List.range l.length).filterMap (λi=>l[i]?)=l
 | []=>rfl
 |x::l=>by
  rw[fz,List.range_succ_eq_map,mK];simp only[Q9,List.filterMap_map]
  congr 1
  exact Nn l
theorem aai{t:SetTable}{es:Array (Int × Value)}{n:Nat}(ok:TabOk t):TabOk (relayAll t es n).2.1/\(relayAll t es n).2.1.led=t.led/\(relayAll t es n).1.toList.Perm es.toList:=by
 unfold relayAll;cases e:t.relaid (es.map (·.1)) n with
 |none=>exact⟨(wH _).1,rfl,.refl _⟩
 |some q =>
  obtain⟨t',order⟩:=q;obtain⟨h1,h2,h3,h4⟩:=Xq e;dsimp only
  split
  ·rename_i hc
   rw[bH]at hc;refine⟨⟨h2,λ_=>h1⟩,h3,?_⟩;have hp:order.toList.Perm (List.range es.size):=List.isPerm_iff.mp hc.1;rw[Array.toList_filterMap];refine(hp.filterMap _).trans ?_;have:(List.range es.size).filterMap (λi=>es[i]?)=es.toList:=by
    have:=Nn es.toList;simpa using this
   rw[this]
  ·exact⟨(wH _).1,rfl,.refl _⟩
noncomputable def uL:Value->Int
 |.int k _=>k
 |_=>0
abbrev numsOf (es:Array (Int × Value)):List Int:=es.toList.map λe=>uL e.2
structure fC (prog:Program) (w:World) (es:Array (Int × Value)) (t:SetTable) (ks:List Int):Prop where
 el:ElemsOf (intKind prog w) es.toList
 fits:t.fits es.size=true
 tab:TabOk t
 led:t.led = !w.params.followText "set-order"
 perm:(numsOf es).Perm ks
 nd:ks.Nodup
noncomputable def d9(prog:Program)(w:World)(h:Heap)(a:Addr)(ks:List Int):Prop:=
 ∃o es ep t,h.get? a=some o/\o.ExactSet/\o.data = .set es ep t/\fC prog w es t ks
section
variable {prog:Program} {w:World} {A:Around} {E:Value->Shared->Prop} {s:Shared}
theorem IK{l:List (Int × Value)}(h:ElemsOf (intKind prog w) l){e:Int × Value}(he:e∈l):∃k t,e.2 = .int k t:=by
 obtain⟨⟨k,hk,_⟩,_⟩:=h e he;obtain⟨t,q⟩:=G8 hk;exact⟨k,t,q⟩
theorem fC.size{es:Array (Int × Value)}{t:SetTable}{ks:List Int}(h:fC prog w es t ks):es.size=ks.length:=by
 rw[<- h.perm.length_eq,aG,gw]
theorem fC.mem{es:Array (Int × Value)}{t:SetTable}{ks:List Int}(h:fC prog w es t ks){k:Int}:k∈ks ↔ ∃e∈es.toList,Value.isInt k e.2=true:=by
 rw[<- h.perm.mem_iff,cu]
 constructor
 ·rintro⟨e,he,q⟩
  obtain⟨k',t',q'⟩:=IK h.el he;rw[q']at q;have:k'=k:=q;subst this;exact⟨e,he,by rw[q'];simp[Value.isInt]⟩
 ·rintro⟨e,he,q⟩
  obtain⟨t',q'⟩:=G8 q;exact⟨e,he,by rw[q'];rfl⟩
noncomputable def jP(ks:List Int)(k:Int):List Int:=if k∈ks then ks else ks++[k]
theorem fC.lay{es:Array (Int × Value)}{t:SetTable}{ks:List Int}(h:fC prog w es t ks){k:Int}{tk:Tok}(hk:k ∉ ks):fC prog w (layNew t es (hashInt k) (.int k tk)).1 (layNew t es (hashInt k) (.int k tk)).2.1 (ks++[k]):=by
 obtain⟨h1,h2,h3,_⟩:=KZ (es:=es) (h:=hashInt k) (x:=Value.int k tk) h.tab;refine⟨λe he=>?_,layNew_fits _ _ _ _,h1,h2.trans h.led,?_,?_⟩
 ·rcases bC.mp (h3.mem_iff.mp he)with q|q
  ·rw[q]
   exact⟨⟨k,by simp[intKind,Value.isInt],rfl⟩,rfl⟩
  ·exact h.el e q
 ·refine(h3.map _).trans ?_
  rw[cE];exact((h.perm.cons _).trans (Gf _ _).symm)
 ·rw[Gd]
  refine⟨h.nd,by simp,λx hx y hy z=>hk ?_⟩;rw[<- (show y=k by simpa using hy),<- z];exact hx
theorem fC.aah{es:Array (Int × Value)}{t:SetTable}{ks:List Int}(h:fC prog w es t ks)(n:Nat):fC prog w (relayAll t es n).1 (relayAll t es n).2.1 ks:=by
 obtain⟨h1,h2,h3⟩:=aai (es:=es) (n:=n) h.tab;exact⟨λe he=>h.el e (h3.mem_iff.mp he),relayAll_fits _ _ _,h1,h2.trans h.led,(h3.map _).trans h.perm,h.nd⟩
theorem stored{a:Addr}{o:Obj}{es es':Array (Int × Value)}{ep:Nat}{t t':SetTable}{ks:List Int}(ho:s.heap.get? a=some o)(hx:o.ExactSet)(hd:o.data = .set es ep t)(h:fC prog w es' t' ks):∃o' ep',(s.heap.update a (Obj.putSet es' t')).get? a=some o'/\o'.ExactSet/\o'.data = .set es' ep' t':=by
 refine⟨_,ep+1,sf _ ho (by rw[putSet_of es' t' hd]<;>rfl),?_,?_⟩
 ·rw[putSet_of es' t' hd];exact hx
 ·rw[putSet_of es' t' hd]
theorem Ho{a:Addr}{o:Obj}{es es':Array (Int × Value)}{ep:Nat}{t t':SetTable}{ks:List Int}{g:Bool->Sem Unit}{wd:Bool}{R:Option Bool->Shared->Prop}(hg:∀(b:Bool) (s':Shared) (Q':Unit->Shared->Prop),Q' () s'->wpAny (model prog w) A (g b) Q' E s')
  (ho:s.heap.get? a=some o) (hx:o.ExactSet) (hd:o.data = .set es ep t) (H:fC prog w es' t' ks) (hb:ks.length<scanBound) (h:∀h',Heap.SameBut a s.heap h'->d9 prog w h' a ks->R (some true) {s with heap:=h'}) :
  wpAny (model prog w) A (do
    storeSet a es' t'
    if(!wd&&t'.tooFull)=true then do
      g (relayAll t' es' (SetTable.grown es'.size)).2.2
      storeSet a (relayAll t' es' (SetTable.grown es'.size)).1 (relayAll t' es' (SetTable.grown es'.size)).2.1
      pure (some true)
     else pure (some true)) R E s:=by
 have z1:es'.size<scanBound:=by rw[H.size];exact hb
 obtain⟨o1,T9,p1,p2,p3⟩:=stored ho hx hd H;have b1:=xN s.heap a (Obj.putSet es' t');refine ah (wpAny_storeSet_of ho hd ?_ (fits_of_scanBound z1))
 by_cases c:(!wd&&t'.tooFull)=true
 ·rw[aC c]
  have H2:=H.aah (SetTable.grown es'.size);have z2:(relayAll t' es' (SetTable.grown es'.size)).1.size<scanBound:=by rw[H2.size];exact hb
  refine ah (hg _ _ _ (ah (wpAny_storeSet_of p1 p3 (aK ?_) (fits_of_scanBound z2))));obtain⟨o2,T_,r1,r2,r3⟩:=stored (s:={s with heap:=s.heap.update a (Obj.putSet es' t')}) p1 p2 p3 H2;exact h _ (b1.trans (xN _ a _)) ⟨o2,_,T_,_,r1,r2,r3,H2⟩
 ·rw[aq c]
  exact aK (h _ b1 ⟨o1,_,T9,_,p1,p2,p3,H⟩)
theorem add_num{a:Addr}{ks:List Int}{k:Int}{tk:Tok}{Q:Bool->Shared->Prop}(hG:d9 prog w s.heap a ks)(hroom:ks.length+1<scanBound)
  (h:∀b h',Heap.SameBut a s.heap h'->d9 prog w h' a (jP ks k)->Q b {s with heap:=h'}):wpAny (model prog w) A (setAddHashed a (.int k tk) (hashInt k)) Q E s:=by
 obtain⟨o,es,ep,t,ho,hx,hd,H⟩:=id hG;have key:(intKind prog w).is k (Value.int k tk)=true:=intKind_is _ _ _ _;have zb:es.size<scanBound:=by rw[H.size];omega
 unfold setAddHashed setAddHashedIn;refine iQ (ah (pI ho hd H.fits ?_));dsimp only;rw[byScan_of (knd:=intKind prog w) (x:=Value.int k tk) rfl zb H.el];simp only[↓reduceIte];unfold setAddByScan;refine ah (ah (lr (ah (wpAny_setScan_of (knd:=intKind prog w) key ho hd H.fits H.el ?_))))
 by_cases hk:k∈ks
 ·obtain⟨e,he,q⟩:=H.mem.mp hk
  cases hr:es.toList.findIdx? (λe=>(intKind prog w).is k e.2)with
  |none =>
   have:=Q7.mp hr e he;rw[show(intKind prog w).is k e.2=Value.isInt k e.2 from rfl,q]at this;cases this
  |some j =>
   refine aK (aK ?_);have e0:s = {s with heap:=s.heap}:=by cases s;rfl
   rw[e0];refine h false s.heap (Heap.SameBut.refl a s.heap) ?_;unfold jP;rw[aC hk];exact hG
 ·have hr:es.toList.findIdx? (λe=>(intKind prog w).is k e.2)=none:=by
   rw[Q7];intro e he;cases q:(intKind prog w).is k e.2 with
   |false=>rfl
   |true=>exact absurd (H.mem.mpr ⟨e,he,q⟩) hk
  rw[hr];dsimp only;have H1:=H.lay (tk:=tk) hk;have hw:=(KZ (es:=es) (h:=hashInt k) (x:=Value.int k tk) H.tab).2.2.2;have fin:∀h',Heap.SameBut a s.heap h'->d9 prog w h' a (ks++[k])->Q true {s with heap:=h'}:=λh' b g=>h true h' b (by unfold jP;rw[aq hk];exact g);have hb':(ks++[k]).length<scanBound:=by rw[cU];exact hroom
  show wpAny _ _ ((match layNew t es (hashInt k) (Value.int k tk)with | (es,t,wasDummy,gave)=>_)>>=_) _ _ _;generalize layNew t es (hashInt k) (Value.int k tk)=N at H1 hw ⊢;obtain⟨es1,t1,wd,gave⟩:=N;dsimp only at H1 hw ⊢;refine ah ?_;have on:∀(b:Bool) (s':Shared) (Q':Unit->Shared->Prop),Q' () s'->wpAny (model prog w) A (match b with|true=>rule "set.scan.the-table-gave-way" |false=>pure ()) Q' E s':=λb s' Q' q=>by
   cases b
   ·exact aK q
   ·exact lr q
  refine on gave s _ ?_
  by_cases hp:t1.plain=true
  ·rw[aC hp]
   refine ah ?_;rw[hashByValue_scannable 8 (x:=Value.int k tk) rfl];refine aK ?_;simp only[plainKind,↓reduceIte];exact Ho on ho hx hd H1 hb' λh' b g=>aK (fin h' b g)
  ·rw[aq hp]
   refine ah (aK ?_);simp only[↓reduceIte];exact Ho on ho hx hd H1 hb' λh' b g=>aK (fin h' b g)
end
noncomputable def numsTo(val:Nat->Int)(i:Nat):List Int:=((List.range i).map val).foldl jP []
theorem numsTo_succ(val:Nat->Int)(i:Nat):numsTo val (i+1)=jP (numsTo val i) (val i):=by
 unfold numsTo;rw[o7,iJ,List.foldl_append];rfl
theorem ZW(ks:List Int)(k:Int):(jP ks k).length<=ks.length+1:=by
 unfold jP
 split
 ·omega
 ·rw[cU]
  exact aY _
theorem Lx(val:Nat->Int):∀i,(numsTo val i).length<=i
 |0=>aY _
 |i+1=>by
  rw[numsTo_succ];have h1:=ZW (numsTo val i) (val i);have h2:=Lx val i;omega
theorem d9.moved{prog:Program}{w:World}{h h':Heap}{a:Addr}{ks:List Int}(hG:d9 prog w h a ks)(k:∀o,h.get? a=some o->h'.get? a=some o):d9 prog w h' a ks:=
 let⟨o,es,ep,t,ho,q⟩:=hG;⟨o,es,ep,t,k o ho,q⟩
section
variable {prog:Program} {w:World} {A:Around} {R:Result->Shared->Prop} {it:Addr} {fp wr:List Addr} {Gn:Array GenState->Array GenState->Prop} {n:Nat} {P:Nat->Value->Prop} {St:Nat->Shared->Prop}
theorem I_(W:WalksS prog w A.in1 it fp wr Gn n P St)(a:Addr)(ha:a ∉ fp)(val:Nat->Int)(hv:∀i v,P i v->∃t,v = .int (val i) t)(hb:n+1<scanBound):∀(k i:Nat) (s:Shared),n - i=k->i<=n->St i s->d9 prog w s.heap a (numsTo val i)->(∀s',PySem.Moved (a::wr) Gn s s'->d9 prog w s'.heap a (numsTo val n)->R (.ok (.ret .none)) s') ->
   codeAny (model prog w) A (.builtin "set.update.loop" ⟨[.ref a,.ref it],[]⟩) R s
 |0,i,s,hk,hi,hst,hG,hR=>by
  have ei:i=n:=by omega
  subst ei;have haw:a ∉ wr:=λh=>ha (W.sub _ h);refine(lg F.entry_set_update_loop ?_);rw[show _=_ from GQ GL _];show wpAny _ A.in1 (pyNext (.ref it)>>=_) _ _ s;refine ah (W.done s _ _ hst λs1 hm=>aK (hR s1 (hm.mono λb hb=>bT _ hb) (hG.moved λo e=>hm.heap a o haw e)))
 |k+1,i,s,hk,hi,hst,hG,hR=>by
  have haw:a ∉ wr:=λh=>ha (W.sub _ h);have hlt:i<n:=by omega
  refine(lg F.entry_set_update_loop ?_);rw[show _=_ from GQ GL _];show wpAny _ A.in1 (pyNext (.ref it)>>=_) _ _ s;refine ah (W.item i s _ _ hlt hst λv s1 hP Wm hm=>?_);obtain⟨t,rfl⟩:=hv i v hP;have U9:d9 prog w s1.heap a (numsTo val i):=hG.moved λo e=>hm.heap a o haw e;have hl:=Lx val i;show wpAny _ A.in1 (holding [Value.int (val i) t] (setAdd a (.int (val i) t))>>=_) _ _ s1;refine ah (iQ ?_);unfold setAdd;refine iQ (ah ((intKind prog w).pyHash (k:=val i) (intKind_is _ _ _ _) ?_));refine add_num (s:={s1 with toks:=s1.toks+1}) U9 (by omega) λb h1 hsb nT=>?_;refine aK ⟨xQ GL _,I_ W a ha val hv hb k (i+1) _ (by omega) hlt (W.frame _ s1 _ _ Wm (xB _) λc hc o e=>?_) (by rw[numsTo_succ];exact nT) λs2 hm2 tX=>?_⟩
  ·rw[hsb.2 c (λh=>ha (by rw[<- h];exact hc))]
   exact e
  ·refine hR s2 (PySem.Moved.trans W.gtrans ((hm.mono λb hb=>bT _ hb).then_heap (xB _) λc o hc e=>?_) hm2) tX
   rw[hsb.2 c (λh=>hc (by rw[h];exact cC))];exact e
end
section
variable {prog:Program} {w:World} {A:Around} {E:Value->Shared->Prop} {s:Shared}
abbrev iy (w:World):Obj:={cls:=.type "set", dict:=none,data:=.set #[] 0 (.fresh 0 0 (!w.params.followText "set-order"))}
theorem Yb{h:Heap}{a:Addr}(e:h.get? a=some (iy w)):d9 prog w h a []:=
 ⟨_,#[],0,_,e,⟨rfl,rfl,rfl⟩,rfl,λe he=>by simp at he,rfl,abd _ _ _,rfl,by simp,by simp⟩
theorem aaB(x:Value){Q1:Value->Shared->Prop}(h:Q1 (.ref s.heap.objs.size) {s with heap:=s.heap.push (iy w)}):
  codeAny (model prog w) A (.call (.builtin "set.__new__") ⟨[.type "set", x],[]⟩) (wants Q1 E) s:=by
 refine codeAny_of_tree (?_:wpAny _ A.in1 (do checkBuiltinCall "set.__new__" ⟨[.type "set", x],[]⟩;again (.builtin "set.__new__" ⟨[.type "set", x],[]⟩)) _ _ s);refine ah (wpAny_of_eq (F.newCall_set_1 x) (aK ⟨xQ F.plain_set_new _,(lg F.entry_set_new ?_)⟩));rw[show _=_ from GQ F.plain_set_new _];unfold Builtin.«set.__new__» Builtin.Frozenset.newClass;have hsub:=sub_set_self;obtain⟨hp,g,d,tk,os⟩:=s;dsimp only
 wp_walk
 refine Hf (aK ?_);dsimp only;simp only[newObj];exact ah (wpAny_alloc (aK (aK h)))
theorem aaC{l:Addr}{its:Array Value}{ns:List Int}{Q:Value->Shared->Prop}(hh:A.handled=none)(hL:s.heap.IsList l its)(hI:IntsAre its.toList ns)(hb:its.size+1<scanBound)
  (h:∀(h':Heap) (tk:Nat),d9 prog w h' s.heap.objs.size (numsTo (λi=>ns.getD i 0) its.size)->(∀b o,b<s.heap.objs.size->s.heap.get? b=some o->h'.get? b=some o)->Q (.ref s.heap.objs.size) {s with heap:=h',toks:=tk}) :
  wpAny (model prog w) A (call (.type "set") [.ref l]) Q E s:=by
 obtain⟨c,tl,hmro⟩:=k_.mro;have hmade:=k_.made;have hsub:=k_.sub;refine pF (codeAny_of_tree (?_:wpAny _ _ (callAny (.type "set") _) _ _ _));refine aK ⟨GR _ (by decide +kernel),(lg F.entry_type_call ?_)⟩;rw[show _=_ from Around.under_plain (weight_type_call_type "set" [.ref l] []) rfl];have hnT:=k_.notType;have hcC:=k_.canCreate;have hct:=F.typeCall_set_1 (.ref l)
 repeat any_goals first|assumption|wp_step
 refine hZ (aaB (.ref l) (E:=E) (Q1:=λobj s1=>obj = .ref s.heap.objs.size/\s1 = {s with heap:=s.heap.push (iy w)}) ⟨rfl,rfl⟩) λr s1 hr=>?_;cases r with
 |error e=>exact hr
 |ok fl =>
  cases fl with
  |ret obj =>
   obtain⟨rfl,rfl⟩:=hr;have gS:(s.heap.push (iy w)).get? s.heap.objs.size=some (iy w):=bJ _ rfl;have hT:Shared.TypeIs {s with heap:=s.heap.push (iy w)} (.ref s.heap.objs.size) "set" :=⟨_,gS,rfl⟩;have hli:=k_.init.lookup;have hbi:=k_.init.bind (.ref s.heap.objs.size)
   repeat any_goals first|assumption|wp_step
   refine hZ (codeAny_call_builtin (R:=wants (λr s2=>r = .none/\∃h' tk,s2 = {s with heap:=h',toks:=tk}/\d9 prog w h' s.heap.objs.size (numsTo (λi=>ns.getD i 0) its.size) /\
     (∀b o,b<s.heap.objs.size->s.heap.get? b=some o->h'.get? b=some o)) E) k_.init.plain F.entry_set_init (check_set_init_1 hT ?_)) λr2 s2 hr2=>?_
   ·obtain⟨⟨ocl,odi,oda,osl⟩,hol,hcl,nl,hdl⟩:=hL
    simp only at hcl hdl;subst hcl hdl;have hlS:l<s.heap.objs.size:=a9 hol;have hol1:(s.heap.push (iy w)).get? l=some {cls:=.type "list", dict:=odi,data:=.seq its nl,slots:=osl}:=aU _ hol;have hL1:(s.heap.push (iy w)).IsList l its:=⟨_,hol1,rfl,nl,rfl⟩;have q1:=F.sub_list_set;have q2:=F.sub_list_frozenset;have q3:(Value.type "list" == Value.type "dict")=false:=by decide
    unfold Builtin.«set.__init__» noKeywords Builtin.Frozenset.updateFrom;generalize hPI:pyIter=PI
    wp_walk
    subst hPI;refine si hL1 (ah (wpAny_runValue ?_));have h3:A.in1.in1.in1.handled=none:=by simp[hh]
    have lI:(s.heap.push (iy w)).objs.size=s.heap.objs.size+1:=eY ..;have nI:l≠(s.heap.push (iy w)).objs.size:=by rw[lI];exact bI (rX hlS)
    have nF:s.heap.objs.size ∉ [(s.heap.push (iy w)).objs.size,l]:=by
     rw[lI];intro z
     rcases bC.mp z with z|z
     ·exact absurd z (bI (ph _))
     ·exact absurd (j6.mp z) (g_ hlS)
    refine I_ ((Walks.list h3 _ l nI its).toS) s.heap.objs.size nF (λi=>ns.getD i 0) (λi v hv=>IntsAre.int_at hI i v (by rw[wV];exact hv)) hb its.size 0 _ (by omega) (cW _) ⟨⟨_,bJ _ rfl,rfl,rfl⟩,(hL1.push _)⟩ (Yb (aU _ gS)) ?_;intro s3 hm hG;obtain⟨h',g',d',tk',os'⟩:=s3;have eg:g'=s.gens:=hm.gens;have ed:d'=s.drawn:=hm.drawn;have eo:os'=s.os:=hm.os;subst eg ed eo;refine aK (?_:wpAny _ _ (ret Value.none) _ _ _);refine aK ⟨rfl,h',tk',rfl,hG,λb o hb e=>?_⟩;refine hm.heap b o (λz=>?_) (aU _ (aU _ e))
    rcases bC.mp z with z|z
    ·exact absurd z (bI hb)
    ·have:=j6.mp z
     rw[lI]at this;exact absurd this (bI (rX hb))
   ·cases r2 with
    |error e=>exact hr2
    |ok Uq =>
     cases Uq with
     |ret r =>
      obtain⟨rfl,h',tk,rfl,hG,hk⟩:=hr2
      repeat any_goals first|assumption|wp_step
      exact h _ _ hG hk
     |_=>exact hr2.elim
  |_=>exact hr.elim
end
theorem iF:Slot "set_iterator" "__next__" "set_iterator.__next__" :=.of (owner:= "set_iterator") (n:= "__next__") (by rw[typeLookup_type,builtinLookup_eq_fast];kernel_rfl) (by decide +kernel) (by decide +kernel) (by decide +kernel) (by first|exact .inl (by decide +kernel)|exact .inr (by decide +kernel)) (by rw[isSubtype_type];kernel_rfl)
theorem tq:entryFor table "set_iterator.__next__" = some Builtin.«set_iterator.__next__»:=entryFor_of_tree (by kernel_rfl)
theorem PQ:Slot "set_iterator" "__iter__" "set_iterator.__iter__" :=.of (owner:= "set_iterator") (n:= "__iter__") (by rw[typeLookup_type,builtinLookup_eq_fast];kernel_rfl) (by decide +kernel) (by decide +kernel) (by decide +kernel) (by first|exact .inl (by decide +kernel)|exact .inr (by decide +kernel)) (by rw[isSubtype_type];kernel_rfl)
theorem T8:entryFor table "set_iterator.__iter__" = some Builtin.«dict_keyiterator.__iter__»:=entryFor_alias (id':= "dict_keyiterator.__iter__") (by kernel_rfl) (by first|rfl|decide +kernel) (by decide +kernel) (by kernel_rfl)
theorem T7:entryFor table "set.__iter__" = some Builtin.«frozenset.__iter__»:=entryFor_alias (id':= "frozenset.__iter__") (by kernel_rfl) (by first|rfl|decide +kernel) (by decide +kernel) (by kernel_rfl)
theorem Mm:Manifest.owners.lookup (String.ofList ['r','o','t','a','r','e','t','i','_','t','e','s'].reverse)=some Manifest.sig_set_iterator:=by kernel_rfl
abbrev h9 (h:Heap) (it:Addr) (f0:Value) (i:Nat) (a:Addr) (n ep:Nat):Prop:=
 h.get? it=some {cls:=.type "set_iterator", dict:=none,data:=.fields #[f0,rawInt i,.ref a,rawInt n,rawInt ep],slots:=#[]}
section
variable {prog:Program} {w:World} {A:Around} {E:Value->Shared->Prop} {s:Shared} {it a:Addr} {i n ep:Nat} {es:Array (Int × Value)} {t:SetTable} {o:Obj} {x:Value}
theorem sy (v:Value):argsOk "set_iterator.__next__" ⟨[v],[]⟩:=by
 unfold argsOk;rw[signature?_of (id:= "set_iterator.__next__") (n:=['_','_','t','x','e','n','_','_']) (o:=['r','o','t','a','r','e','t','i','_','t','e','s']) (by kernel_rfl) Mm]
 kernel_rfl
theorem Sd (v:Value):argsOk "set_iterator.__iter__" ⟨[v],[]⟩:=by
 unfold argsOk;rw[signature?_of (id:= "set_iterator.__iter__") (n:=['_','_','r','e','t','i','_','_']) (o:=['r','o','t','a','r','e','t','i','_','t','e','s']) (by kernel_rfl) Mm]
 kernel_rfl
theorem PK{sl nx:Nat}{Q:Option Value->Shared->Prop}(hit:h9 s.heap it (rawInt sl) i a es.size ep)(ho:s.heap.get? a=some o)(hd:o.data = .set es ep t)(hf:t.fits es.size=true)(hn:∀{A':Around} {E':Value->Shared->Prop} {Q':Option (Value × Nat)->Shared->Prop},Q' (some (x,nx)) s->wpAny (model prog w) A' (setNext a sl i ep) Q' E' s)
  (hQ:∀h',h9 h' it (rawInt nx) (i+1) a es.size ep->Heap.SameBut it s.heap h'->Q (some x) {s with heap:=h'}):wpAny (model prog w) A (pyNext (.ref it)) Q E s:=by
 have hT:s.TypeIs (.ref it) "set_iterator" :=⟨_,hit,rfl⟩;unfold pyNext;refine ah (ll (lq (name:=Str.ofString "__next__") hT iF (iO iF hT tq ?_ (sy _))));show wpAny _ _ (fieldsOf (.ref it)>>=_) _ _ s;refine ah (xS hit rfl ?_);show wpAny _ _ (setEntries a>>=_) _ _ s;refine ah (sj ho hd hf ?_);dsimp only;rw[aq (by simp)];show wpAny _ _ (setNext a (sl:Int).toNat (i:Int).toNat (ep:Int).toNat>>=_) _ _ s;rw[bu,bu,bu];refine ah (hn ?_);dsimp only;refine ah (h7 hit (by simp) λh1 hit1 e1=>ah (h7 (s:={s with heap:=h1}) hit1 (by simp) λh2 hit2 e2=>?_));exact aK ⟨x,rfl,aK (hQ h2 hit2 (e1.trans e2))⟩
theorem P6 {B:Around} {Q:Fin->Shared->Prop} {E':Value->Shared->Prop} (hh:B.handled=none) (h:∀h' e,(∀b o,s.heap.get? b=some o->h'.get? b=some o)->(∃o,h'.get? e=some o/\o.cls = .type "StopIteration")->E' (.ref e) {s with heap:=h'}) :
  wpAny (model prog w) B (do let x <- newExc (.type "StopIteration") [];raiseNew x) Q E' s:=by
 refine ah ?_;simp only[newExc,newTuple];refine ah (pH ?_ (by size_fits));refine ah (m:=firstArgMember _ _) (wpAny_of_eq (a:=Value.none) (by first|rfl | (simp only[firstArgMember];rfl)) ?_);refine pH ?_ (by size_fits);simp only[raiseNew];refine ah (wpAny_handled ?_);rw[hh];refine ah (aK (wpAny_throw ?_));exact h _ _ (λb o e=>aU _ (aU _ e)) ⟨_,bJ _ rfl,rfl⟩
theorem PJ{sl:Nat}{Q:Option Value->Shared->Prop}(hh:A.handled=none)(hit:h9 s.heap it (rawInt sl) i a es.size ep)(ho:s.heap.get? a=some o)(hd:o.data = .set es ep t)(hf:t.fits es.size=true)(hn:∀{A':Around} {E':Value->Shared->Prop} {Q':Option (Value × Nat)->Shared->Prop},Q' none s->wpAny (model prog w) A' (setNext a sl i ep) Q' E' s)
  (hQ:∀h',(∀b o,b≠it->s.heap.get? b=some o->h'.get? b=some o)->Q none {s with heap:=h'}):wpAny (model prog w) A (pyNext (.ref it)) Q E s:=by
 have hT:s.TypeIs (.ref it) "set_iterator" :=⟨_,hit,rfl⟩;unfold pyNext;refine ah (ll (lq (name:=Str.ofString "__next__") hT iF (iO iF hT tq ?_ (sy _))));show wpAny _ _ (fieldsOf (.ref it)>>=_) _ _ s;refine ah (xS hit rfl ?_);show wpAny _ _ (setEntries a>>=_) _ _ s;refine ah (sj ho hd hf ?_);dsimp only;rw[aq (by simp)];show wpAny _ _ (setNext a (sl:Int).toNat (i:Int).toNat (ep:Int).toNat>>=_) _ _ s;rw[bu,bu,bu];refine ah (hn ?_);dsimp only;refine ah (h7 hit (by simp) λh1 _ e1=>P6 (s:={s with heap:=h1}) (by first|exact hh | (show A.handled=none;exact hh)) λh2 e k2 he=>?_);obtain⟨oe,hoe,hce⟩:=he;refine ah (xT (T:= "StopIteration") (b:=true) ⟨oe,hoe,hce⟩ isSubtype_stop (aK (hQ h2 λb o hb e'=>k2 b o (e1.extBut b o hb e'))))
end
theorem yN{α:Type}:∀(l:List α) (i:Nat) (h:i<l.length),(l[i]::l.eraseIdx i).Perm l
 |x::l,0,_=>.refl _
 |x::l,i+1,h=>by
  rw[List.eraseIdx_cons_succ,List.getElem_cons_succ];exact(List.Perm.swap _ _ _).trans ((yN l i (by simpa using h)).cons x)
theorem M0{α:Type}(f:Nat->Nat):∀(fuel k:Nat) (left:List α) (out:Array α),left.length<=fuel->(pickOrder.go f fuel k left out).toList.Perm (out.toList++left)
 |0,k,left,out,h=>by
  have:left = []:=Q0 (by omega);subst this;unfold pickOrder.go;rw[oZ]
 |fuel+1,k,left,out,h=>by
  unfold pickOrder.go;cases left with
  |nil=>simp
  |cons y r =>
   have hi:f k % (y::r).length<(y::r).length:=pk _ (by simp);rw[aI hi];dsimp only;refine(M0 f fuel (k+1) _ _ (by rw[Rh hi];omega)).trans ?_;rw[oJ,List.append_assoc];refine List.Perm.append_left _ ?_;exact yN _ _ hi
theorem BV{α:Type}(f:Nat->Nat)(xs:Array α):(pickOrder f xs).toList.Perm xs.toList:=by
 unfold pickOrder;have:=M0 f xs.size 0 xs.toList #[] (by simp);simpa using this
section
variable {prog:Program} {w:World} {A:Around} {E:Value->Shared->Prop} {s:Shared} {it a:Addr} {i n ep:Nat} {es:Array (Int × Value)} {t:SetTable} {o:Obj} {x:Value}
theorem sG {Q:Bool->Shared->Prop} (h:Q (w.params.followText "set-order") s):wpAny (model prog w) A setsByText Q E s:=by
 unfold setsByText;exact ah (Hf (aK h))
theorem Lh {sl:Nat} {Q:Option (Value × Nat)->Shared->Prop} (ho:s.heap.get? a=some o) (hd:o.data = .set es ep t) (hf:t.fits es.size=true) (hT:w.params.followText "set-order" = false) (hp:(!t.plain&&decide (es.size > 1))=false) (hl:t.led=true)
  (h:Q (match es[SetTable.below t.place sl]?,t.place[SetTable.below t.place sl]? with|some (_,x),some j=>some (x,j+1)|_,_=>none) s):wpAny (model prog w) A (setNext a sl i ep) Q E s:=by
 unfold setNext;refine ah (pI ho hd hf (ah (sG ?_)));rw[hT];show wpAny _ _ (if(!t.plain&&decide (es.size > 1))=true then _ else _) _ _ _;rw[hp];show wpAny _ _ ((if(!t.led&&!es.isEmpty)=true then unsupported _ else pure ())>>=_) _ _ _;rw[hl];exact ah (aK (aK h))
theorem Li {sl:Nat} {Q:Option (Value × Nat)->Shared->Prop} (ho:s.heap.get? a=some o) (hd:o.data = .set es ep t) (hf:t.fits es.size=true) (hT:w.params.followText "set-order" = true)
  (h:Q (((pickOrder (w.params.setOrder a ep) es)[i]?).map λe=>(e.2,sl)) s):wpAny (model prog w) A (setNext a sl i ep) Q E s:=by
 unfold setNext;refine ah (pI ho hd hf (ah (sG ?_)));rw[hT];rw[aC rfl];dsimp only;rw[aq (by simp)];refine ah ?_;unfold setWalk;refine ah (pI ho hd hf (ah (sG ?_)));rw[hT];show wpAny _ _ (do let y <- ask;pure (pickOrder (y.params.setOrder a ep) es)) _ _ _;exact ah (Hf (aK (aK h)))
theorem R_{src:Source}{k:Nat}{Q:Nat->Shared->Prop}(hk:k≠0)(h:∀j d',j<k->Q j {s with drawn:=d'}):wpAny (model prog w) A (choose src k) Q E s:=λΓ p _=>by
 unfold choose;rw[Sem.wp_choose];exact⟨hk,h _ _ (pk _ (rY hk))⟩
theorem Iu{α:Type}:∀(k:Nat) (xs:List α) (s:Shared) (Q:List α->Shared->Prop),k=xs.length->(∀ys d',ys.Perm xs->Q ys {s with drawn:=d'})->wpAny (model prog w) A (drawOrder k xs) Q E s
 |0,xs,s,Q,hk,h=>by
  have:xs = []:=Q0 hk.symm;subst this;unfold drawOrder;have:=h [] s.drawn (.refl _);exact aK this
 |k+1,[],s,Q,hk,h=>by cases hk
 |k+1,y::r,s,Q,hk,h=>by
  unfold drawOrder;refine ah (R_ (by simp) λj d' hj=>?_);rw[aI hj];dsimp only;refine ah (Iu k _ _ _ (by rw[Rh hj,<- hk];rfl) λys d2 hp=>?_);exact aK (h _ d2 ((hp.cons _).trans (yN _ _ hj)))
theorem aaH {T:Addr} {items:Array Value} {p:Nat} {hx:Int} {Q:Option Value->Shared->Prop} (hit:h9 s.heap it (.ref T) i a es.size ep) (hT':s.heap.get? T=some {cls:=.type "tuple", data:=.seq items}) (ho:s.heap.get? a=some o) (hd:o.data = .set es ep t) (hf:t.fits es.size=true) (h1:items[i]?=some (rawInt p)) (h2:es[p]?=some (hx,x))
  (hQ:∀h',h9 h' it (.ref T) (i+1) a es.size ep->Heap.SameBut it s.heap h'->Q (some x) {s with heap:=h'}):wpAny (model prog w) A (pyNext (.ref it)) Q E s:=by
 have hT:s.TypeIs (.ref it) "set_iterator" :=⟨_,hit,rfl⟩;unfold pyNext;refine ah (ll (lq (name:=Str.ofString "__next__") hT iF (iO iF hT tq ?_ (sy _))));show wpAny _ _ (fieldsOf (.ref it)>>=_) _ _ s;refine ah (xS hit rfl ?_);show wpAny _ _ (setEntries a>>=_) _ _ s;refine ah (sj ho hd hf ?_);dsimp only;rw[aq (by simp)];show wpAny _ _ (seqItems? (.ref T)>>=_) _ _ s;refine ah (jo hT' rfl ?_);dsimp only;rw[bu,h1];show wpAny _ _ (setNextDrawn a (p:Int).toNat (ep:Int).toNat>>=_) _ _ s;rw[bu,bu];refine ah ?_;unfold setNextDrawn;refine ah (pI ho hd hf ?_);dsimp only;rw[aq (by simp),h2];refine aK (ah (h7 hit (by simp) λh1 hit1 e1=>?_));exact aK ⟨x,rfl,aK (hQ h1 hit1 e1)⟩
theorem aaG {T:Addr} {items:Array Value} {Q:Option Value->Shared->Prop} (hh:A.handled=none) (hit:h9 s.heap it (.ref T) i a es.size ep) (hT':s.heap.get? T=some {cls:=.type "tuple", data:=.seq items}) (ho:s.heap.get? a=some o) (hd:o.data = .set es ep t) (hf:t.fits es.size=true) (h1:items[i]?=none)
  (hQ:∀h',(∀b o,b≠it->s.heap.get? b=some o->h'.get? b=some o)->Q none {s with heap:=h'}):wpAny (model prog w) A (pyNext (.ref it)) Q E s:=by
 have hT:s.TypeIs (.ref it) "set_iterator" :=⟨_,hit,rfl⟩;unfold pyNext;refine ah (ll (lq (name:=Str.ofString "__next__") hT iF (iO iF hT tq ?_ (sy _))));show wpAny _ _ (fieldsOf (.ref it)>>=_) _ _ s;refine ah (xS hit rfl ?_);show wpAny _ _ (setEntries a>>=_) _ _ s;refine ah (sj ho hd hf ?_);dsimp only;rw[aq (by simp)];show wpAny _ _ (seqItems? (.ref T)>>=_) _ _ s;refine ah (jo hT' rfl ?_);dsimp only;rw[bu,h1];refine ah (h7 hit (by simp) λg1 hit1 e1=>ah (h7 (s:={s with heap:=g1}) hit1 (by simp) λg2 _ e2=>P6 (s:={s with heap:=g2}) (by first|exact hh | (show A.handled=none;exact hh)) λg3 e k3 he=>?_));obtain⟨oe,hoe,hce⟩:=he;refine ah (xT (T:= "StopIteration") (b:=true) ⟨oe,hoe,hce⟩ isSubtype_stop (aK (hQ g3 λb o hb e'=>k3 b o (e2.extBut b o hb (e1.extBut b o hb e')))))
end
inductive j_ where
 |tab
 |text
 |draw (T:Addr) (ps:List Nat)
noncomputable def slotAt(ps:Array Nat):Nat->Nat
 |0=>0
 |i+1=>ps.getD i 0+1
noncomputable def xX(m:j_)(it a:Addr)(o:Obj)(es:Array (Int × Value))(ep:Nat)(t:SetTable)(i:Nat)(h:Heap):Prop:=h.get? a=some o/\match m with
 |.tab=>h9 h it (rawInt (slotAt t.place i)) i a es.size ep
 |.text=>h9 h it (rawInt (0:Nat)) i a es.size ep
 |.draw T ps=>h9 h it (.ref T) i a es.size ep/\h.get? T=some {cls:=.type "tuple", data:=.seq (ps.map λp:Nat=>rawInt p).toArray}
noncomputable def su(w:World)(m:j_)(a:Addr)(es:Array (Int × Value))(ep:Nat):List Value:=match m with
 |.tab=>es.toList.map (·.2)
 |.text=>(pickOrder (w.params.setOrder a ep) es).toList.map (·.2)
 |.draw _ ps=>ps.map λp=>(es.getD p (0,.none)).2
noncomputable def sr(w:World)(m:j_)(es:Array (Int × Value))(t:SetTable):Prop:=match m with
 |.tab=>w.params.followText "set-order" = false/\(!t.plain&&decide (es.size > 1))=false/\t.led=true/\fU t.place
 |.text=>w.params.followText "set-order" = true
 |.draw _ ps=>ps.Perm (List.range es.size)
noncomputable def gq(m:j_)(it a:Addr):List Addr:=match m with
 |.draw T _=>[it,a,T]
 |_=>[it,a]
theorem XR{es:Array (Int × Value)}:(List.range es.size).map (λp=>(es.getD p (0,Value.none)).2)=es.toList.map (·.2):=by
 apply j4
 ·simp
 ·intro i h1 h2
  have hi:i<es.size:=by simpa using h1
  simp[Array.getD,hi]
theorem P'{w:World}{m:j_}{a:Addr}{es:Array (Int × Value)}{ep:Nat}{t:SetTable}(h:sr w m es t):(su w m a es ep).Perm (es.toList.map (·.2)):=by
 cases m with
 |tab=>exact .refl _
 |text=>exact(BV _ es).map _
 |draw T ps =>
  have:=List.Perm.map (λp=>(es.getD p (0,Value.none)).2) h;rw[XR]at this;exact this
theorem aaW{w:World}{m:j_}{a:Addr}{es:Array (Int × Value)}{ep:Nat}{t:SetTable}(h:sr w m es t):(su w m a es ep).length=es.size:=by
 rw[(P' h).length_eq,aG,gw]
section
variable {prog:Program} {w:World} {A:Around} {m:j_} {it a:Addr} {ep:Nat} {es:Array (Int × Value)} {t:SetTable} {o:Obj}
theorem PN(hr:fU t.place){i:Nat}(hi:i<=t.place.size):SetTable.below t.place (slotAt t.place i)=i:=by
 cases i with
 |zero=>exact Sj hr
 |succ i=>exact Si hr (by omega)
theorem aaD(hh:A.handled=none)(hd:o.data = .set es ep t)(hf:t.fits es.size=true)(ok:sr w m es t)(hne:it≠a)(hT:∀T ps,m = .draw T ps->T≠it):Walks prog w A it (gq m it a) [it] es.size (λi v=>(su w m a es ep)[i]?=some v) (xX m it a o es ep t) where
 sub:=λb hb=>by
  have:b=it:=j6.mp hb;subst this;cases m<;>simp[gq]
 frame:=λi h h' st k=>by
  obtain⟨h1,h2⟩:=st;cases m with
  |tab=>exact⟨k a (by simp[gq]) _ h1,k it (by simp[gq]) _ h2⟩
  |text=>exact⟨k a (by simp[gq]) _ h1,k it (by simp[gq]) _ h2⟩
  |draw T ps=>exact⟨k a (by simp[gq]) _ h1,k it (by simp[gq]) _ h2.1,k T (by simp[gq]) _ h2.2⟩
 item:=λi s Q E hi st hQ=>by
  have hps:t.place.size=es.size:=by
   unfold SetTable.fits at hf;rw[bH,ic]at hf;exact hf.1
  obtain⟨h1,h2⟩:=st;have other:∀h',Heap.SameBut it s.heap h'->∀b o,b ∉ [it]->s.heap.get? b=some o->h'.get? b=some o:=λh' e b o hb q=>e.extBut b o (λz=>hb (by rw[z];simp)) q;have same:s = {s with toks:=s.toks}:=by cases s;rfl
  cases m with
  |tab =>
   obtain⟨o1,o2,o3,o4⟩:=ok;have eb:=PN o4 (i:=i) (by omega);refine PK (x:=es[i].2) (nx:=t.place.getD i 0+1) h2 h1 hd hf (λ{A' E' Q'} q=>Lh h1 hd hf o1 o2 o3 ?_) λh' hit e=>hQ es[i].2 h' s.toks ?_ ⟨other h' e a _ (by simpa using λz=>hne z.symm) h1,hit⟩ (other h' e)
   ·rw[eb,jX hi,jX (by omega)]
    have e2:t.place.getD i 0=t.place[i]'(by omega):=by simp[Array.getD,show i<t.place.size by omega]
    rw[e2]at q;exact q
   ·show(es.toList.map (·.2))[i]?=_
    rw[cT,wV,jX hi];rfl
  |text =>
   have hl:i<(pickOrder (w.params.setOrder a ep) es).size:=by
    have:=(BV (w.params.setOrder a ep) es).length_eq;rw[gw,gw]at this;omega
   refine PK (x:=((pickOrder (w.params.setOrder a ep) es)[i]).2) (nx:=0) h2 h1 hd hf (λ{A' E' Q'} q=>Li h1 hd hf ok ?_) λh' hit e=>hQ _ h' s.toks ?_ ⟨other h' e a _ (by simpa using λz=>hne z.symm) h1,hit⟩ (other h' e)
   ·rw[jX hl]
    exact q
   ·show((pickOrder (w.params.setOrder a ep) es).toList.map (·.2))[i]?=_
    rw[cT,wV,jX hl];rfl
  |draw T ps =>
   have hpl:ps.length=es.size:=by rw[List.Perm.length_eq ok,dh]
   have hp:ps[i]<es.size:=cM.mp (List.Perm.mem_iff ok |>.mp (mL (by omega)));refine aaH (p:=ps[i]) (hx:=es[ps[i]].1) (x:=es[ps[i]].2) h2.1 h2.2 h1 hd hf ?_ ?_ λh' hit e=>hQ _ h' s.toks ?_ ⟨other h' e a _ (by simpa using λz=>hne z.symm) h1,hit,other h' e T _ (by simpa using hT T ps rfl) h2.2⟩ (other h' e)
   ·simp[show i<ps.length by omega]
   ·rw[jX hp]
   ·show(ps.map λp=>(es.getD p (0,Value.none)).2)[i]?=_
    rw[cT,aI (by omega)];simp[Array.getD,hp]
 done:=λs Q E st hQ=>by
  have hps:t.place.size=es.size:=by
   unfold SetTable.fits at hf;rw[bH,ic]at hf;exact hf.1
  obtain⟨h1,h2⟩:=st;have fin:∀h',(∀b o,b≠it->s.heap.get? b=some o->h'.get? b=some o)->Q none {s with heap:=h'}:=λh' k=>hQ h' s.toks λb o hb q=>k b o (λz=>hb (by rw[z];simp)) q;cases m with
  |tab =>
   obtain⟨o1,o2,o3,o4⟩:=ok;have eb:=PN o4 (i:=es.size) (by omega);refine PJ hh h2 h1 hd hf (λ{A' E' Q'} q=>Lh h1 hd hf o1 o2 o3 ?_) fin;rw[eb,Fl (aY _)];exact q
  |text =>
   refine PJ hh h2 h1 hd hf (λ{A' E' Q'} q=>Li h1 hd hf ok ?_) fin;have:=(BV (w.params.setOrder a ep) es).length_eq;rw[gw,gw]at this;rw[Fl (by omega)];exact q
  |draw T ps =>
   have hpl:ps.length=es.size:=by rw[List.Perm.length_eq ok,dh]
   refine aaG hh h2.1 h2.2 h1 hd hf ?_ fin;simp[hpl]
 self:=λi s Q E st hQ=>by
  have hit:∃f0,h9 s.heap it f0 i a es.size ep:=by
   obtain⟨_,h2⟩:=st;cases m with
   |tab=>exact⟨_,h2⟩
   |text=>exact⟨_,h2⟩
   |draw T ps=>exact⟨_,h2.1⟩
  obtain⟨f0,hit⟩:=hit;have hT:s.TypeIs (.ref it) "set_iterator" :=⟨_,hit,rfl⟩;exact wpAny_pyIter_slot hT PQ (iO PQ hT T8 (show wpAny _ _ (ret (.ref it)) _ _ s from aK ⟨_,rfl,"set_iterator", _,hT,iF.lookup,hQ⟩) (Sd _))
end
section
variable {prog:Program} {w:World} {A:Around} {E:Value->Shared->Prop} {s:Shared} {a:Addr} {ep:Nat} {es:Array (Int × Value)} {t:SetTable} {o:Obj} {ks:List Int}
theorem Xc{Q:Value->Shared->Prop}(ho:s.heap.get? a=some o)(hx:o.ExactSet)(hd:o.data = .set es ep t)(H:fC prog w es t ks)(hz:es.size<=1000)
  (hQ:∀(m:j_) (it:Addr) (h':Heap) d',sr w m es t->xX m it a o es ep t 0 h'->it≠a->(∀T ps,m = .draw T ps->T≠it)->s.heap.objs.size<=it->(∀T ps,m = .draw T ps->s.heap.objs.size<=T)->(∀b o,s.heap.get? b=some o->h'.get? b=some o)->Q (.ref it) {s with heap:=h',drawn:=d'}) :
  wpAny (model prog w) A (pyIter (.ref a)) Q E s:=by
 have hT:s.TypeIs (.ref a) "set" :=⟨o,ho,hx.1⟩;refine wpAny_pyIter_slot hT F.slot_set_iter (iO F.slot_set_iter hT T7 ?_ (F.args_set_iter_1 _));unfold Builtin.«frozenset.__iter__»;have hsz:∀{s1:Shared} {f0:Value} {Q1:Fin->Shared->Prop},s1.heap.get? a=some o->(Q1 (.done (.ret (.ref s1.heap.objs.size))) {s1 with heap:=s1.heap.push {cls:=.type "set_iterator", data:=.fields #[f0,rawInt (0:Nat),.ref a,rawInt es.size,rawInt ep]}})->wpAny (model prog w) A.in1 (do let e <- setEpoch a;let v <- newFields "set_iterator" [f0,rawInt 0,.ref a,rawInt es.size,rawInt e];ret v) Q1 E s1:=λ{s1 f0 Q1} h1 q=>by
  refine ah (wpAny_setEpoch_of h1 hd H.fits (ah ?_));simp only[newFields];refine pH ?_ (by size_fits);exact aK q
 show wpAny _ _ (Builtin.Frozenset.sizeOf a>>=_) _ _ s;unfold Builtin.Frozenset.sizeOf;refine ah (ah (sj ho hd H.fits (aK ?_)));refine ah ?_;unfold setDrawn;refine ah (pI ho hd H.fits (ah (sG (aK ?_))));show wpAny _ _ (if(!w.params.followText "set-order" && (!t.plain&&decide (es.size > 1)))=true then _ else _) _ _ s;have hlt:a<s.heap.objs.size:=a9 ho;have same:s = {s with drawn:=s.drawn}:=by cases s;rfl
 have JF:∀(f0:Value),h9 (s.heap.push {cls:=.type "set_iterator", data:=.fields #[f0,rawInt (0:Nat),.ref a,rawInt es.size,rawInt ep]}) s.heap.objs.size f0 0 a es.size ep:=λf0=>bJ _ rfl
 by_cases hc:(!w.params.followText "set-order" && (!t.plain&&decide (es.size > 1)))=true
 ·rw[aC hc]
  have hsl:∀k,k<=1000->k<=sizeLine:=λk hk=>gG (jR hk);refine ah (Iu es.size (List.range es.size) s _ (by simp) λps d' hp=>ah (xV ?_ (by rw[aG,hp.length_eq,dh];exact hsl _ hz)));refine hsz (s1:={s with drawn:=d',heap:=s.heap.push {cls:=.type "tuple", data:=.seq (ps.map λi:Nat=>rawInt i).toArray}}) (f0:=.ref s.heap.objs.size) (aU _ ho) ?_;refine⟨_,rfl,"set_iterator", _,⟨_,bJ _ rfl,rfl⟩,iF.lookup,?_⟩;have e1:(s.heap.push {cls:=.type "tuple", data:=.seq (ps.map λi:Nat=>rawInt i).toArray}).objs.size=s.heap.objs.size+1:=eY ..;refine hQ (.draw s.heap.objs.size ps) _ _ d' hp ⟨aU _ (aU _ ho),bJ _ rfl,aU _ (bJ _ rfl)⟩ ?_ (λT ps' z=>?_) ?_ (λT ps' z=>?_) λb o' e=>aU _ (aU _ e)
  ·show(s.heap.push _).objs.size≠a
   rw[e1];exact g_ (rX hlt)
  ·cases z
   show s.heap.objs.size≠(s.heap.push _).objs.size;rw[e1];exact bI (ph _)
  ·show s.heap.objs.size<=(s.heap.push _).objs.size
   rw[e1];exact xB _
  ·cases z
   exact aY _
 ·rw[aq hc]
  refine ah (aK (hsz ho ?_));refine⟨_,rfl,"set_iterator", _,⟨_,bJ _ rfl,rfl⟩,iF.lookup,?_⟩;have keep:∀b o',s.heap.get? b=some o'->(s.heap.push {cls:=.type "set_iterator", data:=.fields #[rawInt (0:Nat),rawInt (0:Nat),.ref a,rawInt es.size,rawInt ep]}).get? b=some o':=λb o' e=>aU _ e
  by_cases hT2:w.params.followText "set-order" = true
  ·exact hQ .text _ _ s.drawn hT2 ⟨keep a o ho,JF _⟩ (g_ hlt) (λT ps z=>nomatch z) (aY _) (λT ps z=>nomatch z) keep
  ·have hT2:w.params.followText "set-order" = false:=by simpa using hT2
   rw[hT2]at hc;have hc:(!t.plain&&decide (es.size > 1))=false:=by simpa using hc
   have hps:t.place.size=es.size:=by
    have:=H.fits;unfold SetTable.fits at this;rw[bH,ic]at this;exact this.1
   have hr:fU t.place:=by
    cases hp:t.plain with
    |true=>exact H.tab.rise hp
    |false =>
     rw[hp]at hc;have:¬ es.size > 1:=by simpa using hc
     intro i j hij hj;omega
   exact hQ .tab _ _ s.drawn ⟨hT2,hc,by rw[H.led,hT2];rfl,hr⟩ ⟨keep a o ho,JF _⟩ (g_ hlt) (λT ps z=>nomatch z) (aY _) (λT ps z=>nomatch z) keep
theorem VJ{Q:Bool->Shared->Prop}(ho:s.heap.get? a=some o)(hx:o.ExactSet)(h:Q false s):wpAny (model prog w) A (Builtin.List.listLengthHint (.ref a)) Q E s:=by
 have hT:s.TypeIs (.ref a) "set" :=⟨o,ho,hx.1⟩;unfold Builtin.List.listLengthHint;refine ah (Hh hT F.slot_set_len.lookup ?_);generalize hid:("set.__len__" : String)=id0
 wp_delta
 rw[show splitId id0=some ("set","__len__")from by subst hid;decide +kernel];subst hid;refine ah (xT (T:= "set") (b:=true) hT sub_set_self ?_);refine Hg (λhq=>absurd hq (by decide)) (λ_=>Hg (λ_=>?_) (λhq=>absurd (by decide +kernel) hq));exact ah (wpAny_typeOf hT (aK h))
theorem Ko:∀vs:List Value,(∀v∈vs,∃k t,v = .int k t)->IntsAre vs (vs.map uL)
 | [],_=>.nil
 |v::vs,h=>by
  obtain⟨k,t,rfl⟩:=h v cC;exact .cons k t (Ko vs λv hv=>h v (bT _ hv))
theorem Tn{R:List Value->Shared->Prop}(hh:A.handled=none)(hG:d9 prog w s.heap a ks)(hz:ks.length<=1000)
  (h:∀vs ns h' d' tk,IntsAre vs ns->ns.Perm ks->(∀b o,s.heap.get? b=some o->h'.get? b=some o)->s.toks<=tk->R vs {s with heap:=h',drawn:=d',toks:=tk}):wpAny (model prog w) A (collect (.ref a)) R E s:=by
 obtain⟨o,es,ep,t,ho,hx,hd,H⟩:=hG;have hT:s.TypeIs (.ref a) "set" :=⟨o,ho,hx.1⟩;have hes:es.size<=1000:=by rw[H.size];exact hz
 have hlt:a<s.heap.objs.size:=a9 ho;unfold collect;refine ah (wpAny_runValue (lg entry_proto_collect' ?_));show wpAny _ _ (newList []>>=λl=>again (.builtin "list.__iadd__" ⟨[l,.ref a],[]⟩)) _ _ s;have old:∀b o',s.heap.get? b=some o'->(s.heap.push (seqObj "list" #[] 0)).get? b=some o':=λb o' e=>aU _ e;have gL:(s.heap.push (seqObj "list" #[] 0)).get? s.heap.objs.size=some (seqObj "list" #[] 0):=bJ _ rfl;have lI:(s.heap.push (seqObj "list" #[] 0)).objs.size=s.heap.objs.size+1:=eY ..;have haL:s.heap.objs.size≠a:=g_ hlt;have add:codeAny (model prog w) A (.builtin "list.__iadd__" ⟨[.ref s.heap.objs.size,.ref a],[]⟩) (λr s'=>r = .ok (.ret (.ref s.heap.objs.size))/\∃h' d' tk acc c' ns,s' = {s with heap:=h',drawn:=d',toks:=tk}/\(∀b o,s.heap.get? b=some o->h'.get? b=some o) /\
   h'.get? s.heap.objs.size=some {cls:=.type "list", dict:=none,data:=.seq acc c',slots:=#[]}/\IntsAre acc.toList ns/\ns.Perm ks/\s.toks<=tk) {s with heap:=s.heap.push (seqObj "list" #[] 0)}:=by
  refine lg entry_list_iadd' ?_;show wpAny _ A.in1 (Builtin.List.listExtendWith (.ref s.heap.objs.size) (.ref a) (.ref s.heap.objs.size)) _ _ _;unfold Builtin.List.listExtendWith;refine ah (wpAny_typeOf (T:= "set") ⟨o,old a o ho,hx.1⟩ ?_);have q1:Builtin.List.listSameRef (.ref s.heap.objs.size) (.ref a)=false:=by simp[Builtin.List.listSameRef,haL]
  have q2:(Value.type "set" == Value.type "list")=false:=by decide
  have q3:(Value.type "set" == Value.type "tuple")=false:=by decide
  simp only[q1,q2,q3,Bool.or_false,k0,jH];refine ah (Xc (s:={s with heap:=s.heap.push (seqObj "list" #[] 0)}) (old a o ho) hx hd H hes λm it h1 d1 ok st VL hTi hge Jz k1=>?_);refine ah (iQ (VJ (s:={s with heap:=h1,drawn:=d1}) (k1 a o (old a o ho)) hx ?_));have hge:s.heap.objs.size+1<=it:=by rw[<- lI];exact hge
  have hLi:s.heap.objs.size≠it:=bI hge;have hLf:s.heap.objs.size ∉ gq m it a:=by
   cases m with
   |tab=>simp[gq,hLi,haL]
   |text=>simp[gq,hLi,haL]
   |draw T ps =>
    have:s.heap.objs.size+1<=T:=by rw[<- lI];exact Jz T ps rfl
    have:s.heap.objs.size≠T:=bI this;simp[gq,hLi,haL,this]
  have W:=(aaD (prog:=prog) (A:=A.in1) (by first|exact hh | (show A.handled=none;exact hh)) hd H.fits ok VL hTi).toS;have key:∀(h2:Heap) (c:Nat),xX m it a o es ep t 0 h2->(∀b o,s.heap.get? b=some o->h2.get? b=some o)->h2.get? s.heap.objs.size=some {cls:=.type "list", data:=.seq #[] c} ->
    codeAny (model prog w) A (.builtin "list.extend.loop" ⟨[.ref s.heap.objs.size,.ref it,.ref s.heap.objs.size],[]⟩) (λr s'=>r = .ok (.ret (.ref s.heap.objs.size))/\∃h' d' tk acc c' ns,s' = {s with heap:=h',drawn:=d',toks:=tk}/\(∀b o,s.heap.get? b=some o->h'.get? b=some o) /\
     h'.get? s.heap.objs.size=some {cls:=.type "list", dict:=none,data:=.seq acc c',slots:=#[]}/\IntsAre acc.toList ns/\ns.Perm ks/\s.toks<=tk) {s with heap:=h2,drawn:=d1}:=λh2 c st2 k2 g2=>by
   refine codeAny_extend_loopS W (gG (jR hes)) s.heap.objs.size hLf (.ref s.heap.objs.size) es.size 0 _ #[] c rfl (cW _) st2 g2 (ItemsOf.nil _) λs' acc c' hm gS hacc=>?_;obtain⟨h',g',d',tk',os'⟩:=s';have eg:g'=s.gens:=hm.gens;have eo:os'=s.os:=hm.os;subst eg eo;have Iy:acc.toList=su w m a es ep:=by
    apply List.ext_getElem?
    intro j;rw[wV]
    by_cases hj:j<acc.size
    ·have:=hacc.2 j acc[j] (jX hj)
     rw[this,jX hj]
    ·have hl:=aaW (a:=a) (ep:=ep) ok
     have h0:=hacc.1;rw[Fl (by omega),Q_ (by omega)]
   have hp:=P' (a:=a) (ep:=ep) ok;refine⟨rfl,h',d',tk',acc,c',acc.toList.map uL,rfl,λb o' e=>?_,gS,Ko _ λv hv=>?_,?_,hm.toks⟩
   ·have hb:=a9 e
    refine hm.heap b o' (λz=>?_) (k2 b o' e)
    rcases bC.mp z with z|z
    ·exact absurd z (bI hb)
    ·exact absurd (j6.mp z) (bI (dE (rX hb) hge))
   ·rw[Iy]at hv
    obtain⟨e,he,rfl⟩:=cu.mp (hp.mem_iff.mp hv);exact IK H.el he
   ·rw[Iy]
    refine(hp.map uL).trans ?_;rw[d6];exact H.perm
  have k1':∀b o',s.heap.get? b=some o'->h1.get? b=some o':=λb o' e=>k1 b o' (old b o' e);have g1:h1.get? s.heap.objs.size=some {cls:=.type "list", data:=.seq #[] 0}:=k1 _ _ gL;refine Hg (λ_=>?_) (λ_=>aK ⟨xQ F.plain_extend_loop _,key h1 0 st k1' g1⟩);refine ah (lr (ah ?_));show wpAny _ _ (updateSeq s.heap.objs.size (·.push .none)>>=λ_=>updateSeq s.heap.objs.size (·.pop)) _ _ _;refine ah (wpAny_updateSeq g1 rfl ?_);have g2:=sf (Obj.mapSeq (·.push Value.none)) g1 rfl;refine wpAny_updateSeq (hz:=by seq_fits) g2 rfl ?_;have g3:=sf (Obj.mapSeq (·.pop)) g2 rfl;have oth:∀b o',b≠s.heap.objs.size->h1.get? b=some o'->((h1.update s.heap.objs.size (Obj.mapSeq (·.push Value.none))).update s.heap.objs.size (Obj.mapSeq (·.pop))).get? b=some o':=λb o' hb e=>(xO _ _ (cZ hb)).trans ((xO _ _ (cZ hb)).trans e);refine aK ⟨xQ F.plain_extend_loop _,key _ _ ?_ (λb o' e=>oth b o' (bI (a9 e)) (k1' b o' e)) g3⟩;obtain⟨st1,st2⟩:=st;cases m with
  |tab=>exact⟨oth _ _ (cZ haL) st1,oth _ _ (cZ hLi) st2⟩
  |text=>exact⟨oth _ _ (cZ haL) st1,oth _ _ (cZ hLi) st2⟩
  |draw T ps =>
   have Vr:s.heap.objs.size+1<=T:=by rw[<- lI];exact Jz T ps rfl
   exact⟨oth _ _ (cZ haL) st1,oth _ _ (cZ hLi) st2.1,oth _ _ (g_ Vr) st2.2⟩
 refine ah (pG (aK ⟨GR _ (by decide +kernel),hZ add λr s' hr=>?_⟩));obtain⟨rfl,h',d',tk,acc,c',ns,rfl,hk,hS,hi,hp,htk⟩:=hr;show wpAny _ A (load s.heap.objs.size>>=λo=>match o.data with | .seq xs _=>pure xs.toList|_=>unsupported "internal:collect") _ _ _;refine ah (wpAny_load hS ?_);exact aK (h _ ns h' d' tk hi hp hk htk)
end
section
open PySem.SeqAt
open PySem.AutoSeq1 (wpAny_loadPart')
open PySem.MeetsSeq PySem.MeetsSeq2 PySem.MeetsSeq3
end
section
variable {prog:Program} {w:World} {A:Around} {E:Value->Shared->Prop} {s:Shared}
variable {a₀:Array Keyed}
end
section
variable {X:Cx}
end
noncomputable def Uy:Bool->Keyed->Array Keyed->Nat->Nat->Nat->StateT SortSt Sem (Option Nat):=sortPriv% PySem.Builtin.gallop
noncomputable def X6:Array Keyed->Array Keyed->StateT SortSt Sem (Array Keyed):=sortPriv% PySem.Builtin.mergeLo
noncomputable def X5:Array Keyed->Array Keyed->StateT SortSt Sem (Array Keyed):=sortPriv% PySem.Builtin.mergeHi
section
variable {prog:Program} {w:World} {A:Around} {E:Value->Shared->Prop} {s:Shared} {κ:SortKind} {g:Keyed->Prop} {N:Nat} {pd:Array (Nat × Nat × Nat)}
structure Safe (κ:SortKind) (g:Keyed->Prop) (N:Nat) (pd:Array (Nat × Nat × Nat)) (st:SortSt):Prop where
 kind:kindOf st=κ
 failed:failedOf st=none
 size:(arrOf st).size=N
 all:∀p∈arrOf st,g p
 pend:pendingOf st=pd
noncomputable def iL(prog:Program)(w:World)(A:Around)(s:Shared)(κ:SortKind)(g:Keyed->Prop):Prop:=∀x y,g x->g y->∃b:Bool,∀{E:Value->Shared->Prop} (Q:Bool->Shared->Prop),Q b s->wpAny (model prog w) A (keyLt' κ x.1 y.1) Q E s
theorem mD{x y:Keyed}{st:SortSt}{Q:Option Bool->SortSt->Prop}(ok:iL prog w A s κ g)(S:Safe κ g N pd st)(gx:g x)(gy:g y)(h:∀b,Q (some b) st):wpS (model prog w) A E s ((sortPriv% PySem.Builtin.lt) x y) Q st:=by
 show wpS _ _ _ _ (lt' x y) _ _;obtain⟨b,hb⟩:=ok x y gx gy;rw[lt'_eq];refine az (hX ?_);rw[S.kind];refine az (wpS_lift (ll (hb _ ⟨rfl,?_⟩)));exact aP (h b)
theorem fu{arr:Array Keyed}{i:Nat}{st:SortSt}{Q:Keyed->SortSt->Prop}(ga:∀p∈arr,g p)(hi:i<arr.size)(h:∀p,g p->Q p st):wpS (model prog w) A E s ((sortPriv% PySem.Builtin.elem) arr i) Q st:=by
 show wpS _ _ _ _ (elem' arr i) _ _;rw[elem'_eq,tU arr i hi];exact aP (h _ (ga _ (Fm hi)))
theorem iG{i j:Nat}{st:SortSt}{Q:Option Bool->SortSt->Prop}(ok:iL prog w A s κ g)(S:Safe κ g N pd st)(hi:i<N)(hj:j<N)(h:∀b,Q (some b) st):wpS (model prog w) A E s (ltAt' i j) Q st:=by
 rw[ltAt'_eq];refine az (hX ?_);show wpS _ _ _ _ (do let x <- elem' (arrOf st) i;let y <- elem' (arrOf st) j;lt' x y) Q st;exact az (fu S.all (by rw[S.size];exact hi) λx gx=>az (fu S.all (by rw[S.size];exact hj) λy gy=>mD ok S gx gy h))
theorem Safe.arr{st:SortSt}{xs:Array Keyed}(S:Safe κ g N pd st)(h:xs.Perm (arrOf st)):Safe κ g N pd (setArr st xs):=
 ⟨S.kind,S.failed,h.size_eq.trans S.size,λp hp=>S.all p (h.mem_iff.mp hp),S.pend⟩
theorem jU{i j:Nat}{st:SortSt}{Q:Unit->SortSt->Prop}(S:Safe κ g N pd st)(h:∀st',Safe κ g N pd st'->Q () st'):wpS (model prog w) A E s (reverseSlice' i j) Q st:=by
 rw[reverseSlice'_eq];exact jn (h _ (S.arr (mirror_perm _ _ _ _)))
theorem abF{i j:Nat}{st:SortSt}{Q:Unit->SortSt->Prop}(S:Safe κ g N pd st)(h:∀st',Safe κ g N pd st'->Q () st'):wpS (model prog w) A E s (moveDown' i j) Q st:=by
 rw[moveDown'_eq];exact jn (h _ (S.arr (bubble_perm _ _ _)))
theorem mE{r:String}{st:SortSt}{Q:Unit->SortSt->Prop}(h:Q () st):wpS (model prog w) A E s (liftM (rule r):StateT SortSt Sem Unit) Q st:=wpS_lift (lr ⟨rfl,h⟩)
theorem jf{left:Bool}{key:Keyed}{arr:Array Keyed}{base n hint:Nat}{st:SortSt}{Q:Option Nat->SortSt->Prop}(ok:iL prog w A s κ g)(S:Safe κ g N pd st)(gk:g key)(ga:∀p∈arr,g p)(h1:hint<n)(h2:base+n<=arr.size)(h:∀k,k<=n->Q (some k) st):wpS (model prog w) A E s ((sortPriv% PySem.Builtin.gallop) left key arr base n hint) Q st:=by
 show wpS _ _ _ _ (Uy left key arr base n hint) _ _;have B:∀i (Q:Option Bool->SortSt->Prop),i<n->(∀b,Q (some b) st)->wpS (model prog w) A E s (do
   let x <- elem' arr (base+i)
   if left=true then lt' x key
   else do
    let y <- lt' key x
    pure (Option.map (λx=>!x) y)) Q st:=by
  intro i Q hi hq;refine az (fu ga (by omega) λx gx=>?_);cases left
  ·simp only[k0,jH]
   exact az (mD ok S gk gx λb=>aP (hq _))
  ·simp only[jI]
   exact mD ok S gx gk hq
 refine az (B _ _ h1 λright=>?_);dsimp only
 split
 ·refine az (du (dr (I:=λ_ c st'=>st=st'/\∃l r,c=(none,l,r)) (Q:=λc st'=>st=st'/\∃l r,c=(none,l,r)) ?_ (λ_ _ z=>z) ⟨rfl,0,1,rfl⟩) ?_)
  ·rintro i c st' _ _ ⟨rfl,l,r,rfl⟩
   dsimp only
   split
   ·exact aP ⟨rfl,l,r,rfl⟩
   ·refine az (B _ _ (by omega) λb=>?_)
    dsimp only
    split
    ·exact aP ⟨rfl,_,_,rfl⟩
    ·exact aP ⟨rfl,_,_,rfl⟩
  ·rintro c st' ⟨rfl,l,r,rfl⟩
   try dsimp only
   refine az (du (dr (I:=λ_ c st'=>st=st'/\∃l r,c=(none,l,r)/\r<=n) (Q:=λc st'=>st=st'/\∃l r,c=(none,l,r)/\r<=n) ?_ (λ_ _ z=>z) ⟨rfl,_,_,rfl,by omega⟩) ?_)
   ·rintro i c st' _ _ ⟨rfl,l,r,rfl,hr⟩
    dsimp only
    split
    ·exact aP ⟨rfl,l,r,rfl,hr⟩
    ·refine az (B _ _ (by omega) λb=>?_)
     dsimp only
     split
     ·exact aP ⟨rfl,_,_,rfl,hr⟩
     ·exact aP ⟨rfl,_,_,rfl,by omega⟩
   ·rintro c st' ⟨rfl,l,r,rfl,hr⟩
    exact aP (h r hr)
 ·refine az (du (dr (I:=λ_ c st'=>st=st'/\∃l r,c=(none,l,r)) (Q:=λc st'=>st=st'/\∃l r,c=(none,l,r)) ?_ (λ_ _ z=>z) ⟨rfl,0,1,rfl⟩) ?_)
  ·rintro i c st' _ _ ⟨rfl,l,r,rfl⟩
   dsimp only
   split
   ·exact aP ⟨rfl,l,r,rfl⟩
   ·refine az (B _ _ (by omega) λb=>?_)
    dsimp only
    split
    ·exact aP ⟨rfl,_,_,rfl⟩
    ·exact aP ⟨rfl,_,_,rfl⟩
  ·rintro c st' ⟨rfl,l,r,rfl⟩
   try dsimp only
   refine az (du (dr (I:=λ_ c st'=>st=st'/\∃l r,c=(none,l,r)/\r<=n) (Q:=λc st'=>st=st'/\∃l r,c=(none,l,r)/\r<=n) ?_ (λ_ _ z=>z) ⟨rfl,_,_,rfl,by omega⟩) ?_)
   ·rintro i c st' _ _ ⟨rfl,l,r,rfl,hr⟩
    dsimp only
    split
    ·exact aP ⟨rfl,l,r,rfl,hr⟩
    ·refine az (B _ _ (by omega) λb=>?_)
     dsimp only
     split
     ·exact aP ⟨rfl,_,_,rfl,hr⟩
     ·exact aP ⟨rfl,_,_,rfl,by omega⟩
   ·rintro c st' ⟨rfl,l,r,rfl,hr⟩
    exact aP (h r hr)
theorem abC{lo nrem:Nat}{st:SortSt}{Q:Option Nat->SortSt->Prop}(ok:iL prog w A s κ g)(S:Safe κ g N pd st)(h1:1<=nrem)(h2:lo+nrem<=N)(h:∀k st',1<=k->k<=nrem->Safe κ g N pd st'->Q (some k) st'):wpS (model prog w) A E s (countRun' lo nrem) Q st:=by
 try dsimp only
 refine az (du (dr (I:=λi c st'=>Safe κ g N pd st'/\∃m,c=(none,m)/\1<=m/\m<=i/\m<=nrem) (Q:=λc st'=>Safe κ g N pd st'/\∃m,c=(none,m)/\1<=m/\m<=nrem) ?_ (λ_ _ ⟨z,m,e,z1,_,z2⟩=>⟨z,m,e,z1,z2⟩) ⟨by assumption,_,rfl,by omega,by omega,by omega⟩) ?_)
 ·rintro i c st' _ hi ⟨S',m,rfl,z1,z2,z3⟩
  dsimp only;refine az (iG ok S' (by omega) (by omega) λb=>?_);dsimp only
  split
  ·exact aP ⟨S',_,rfl,z1,z3⟩
  ·exact aP ⟨S',_,rfl,by omega,by omega,by omega⟩
 rintro c st2 ⟨S2,m,rfl,z1,z2⟩;clear S;dsimp only
 split
 ·exact aP (h _ _ z1 z2 S2)
 ·rename_i hne
  have hne':m≠nrem:=λe=>hne (by simp[e])
  split
  ·refine az (iG ok S2 (by omega) (by omega) λb=>?_)
   dsimp only
   split
   ·exact aP (h _ _ z1 z2 S2)
   ·refine az (jU S2 λst3 S3=>?_)
    clear S2
    try dsimp only
    refine az (mE ?_);refine az (du (dr (I:=λi c st'=>Safe κ g N pd st'/\∃m q,c=(none,m,q)/\1<=m/\m<=i/\m<=nrem) (Q:=λc st'=>Safe κ g N pd st'/\∃m q,c=(none,m,q)/\1<=m/\m<=nrem) ?_ (λ_ _ ⟨z,m,q,e,z1,_,z2⟩=>⟨z,m,q,e,z1,z2⟩) ⟨by assumption,_,_,rfl,by omega,by omega,by omega⟩) ?_)
    ·rintro i c st' _ hi ⟨S',m,q,rfl,z1,z2,z3⟩
     dsimp only;refine az (iG ok S' (by omega) (by omega) λb=>?_);dsimp only
     split
     ·split
      ·exact az (jU S' λrJ S8=>aP ⟨S8,_,_,rfl,by omega,by omega,by omega⟩)
      ·exact aP ⟨S',_,_,rfl,by omega,by omega,by omega⟩
     ·refine az (iG ok S' (by omega) (by omega) λb2=>?_)
      dsimp only
      split
      ·exact aP ⟨S',_,_,rfl,by omega,by omega⟩
      ·exact aP ⟨S',_,_,rfl,by omega,by omega,by omega⟩
    ·rintro c st7 ⟨S7,m7,q7,rfl,x1,x2⟩
     dsimp only
     split
     ·refine az (jU S7 λst6 S6=>?_)
      clear S7
      try dsimp only
      refine az (jU (by assumption) λrJ S8=>?_)
      try dsimp only
      refine az (du (dr (I:=λi c st'=>Safe κ g N pd st'/\∃m,c=(none,m)/\1<=m/\m<=i/\m<=nrem) (Q:=λc st'=>Safe κ g N pd st'/\∃m,c=(none,m)/\1<=m/\m<=nrem) ?_ (λ_ _ ⟨z,m,e,z1,_,z2⟩=>⟨z,m,e,z1,z2⟩) ⟨by assumption,_,rfl,by omega,by omega,by omega⟩) ?_)
      ·rintro i c st' _ hi ⟨S',m,rfl,z1,z2,z3⟩
       dsimp only;refine az (iG ok S' (by omega) (by omega) λb=>?_);dsimp only
       split
       ·exact aP ⟨S',_,rfl,z1,z3⟩
       ·exact aP ⟨S',_,rfl,by omega,by omega,by omega⟩
      rintro c Ep ⟨S9,m9,rfl,y1,y2⟩;exact aP (h _ _ y1 y2 S9)
     ·try dsimp only
      refine az (jU (by assumption) λrJ S8=>?_)
      try dsimp only
      refine az (du (dr (I:=λi c st'=>Safe κ g N pd st'/\∃m,c=(none,m)/\1<=m/\m<=i/\m<=nrem) (Q:=λc st'=>Safe κ g N pd st'/\∃m,c=(none,m)/\1<=m/\m<=nrem) ?_ (λ_ _ ⟨z,m,e,z1,_,z2⟩=>⟨z,m,e,z1,z2⟩) ⟨by assumption,_,rfl,by omega,by omega,by omega⟩) ?_)
      ·rintro i c st' _ hi ⟨S',m,rfl,z1,z2,z3⟩
       dsimp only;refine az (iG ok S' (by omega) (by omega) λb=>?_);dsimp only
       split
       ·exact aP ⟨S',_,rfl,z1,z3⟩
       ·exact aP ⟨S',_,rfl,by omega,by omega,by omega⟩
      rintro c Ep ⟨S9,m9,rfl,y1,y2⟩;exact aP (h _ _ y1 y2 S9)
  ·try dsimp only
   refine az (mE ?_);refine az (du (dr (I:=λi c st'=>Safe κ g N pd st'/\∃m q,c=(none,m,q)/\1<=m/\m<=i/\m<=nrem) (Q:=λc st'=>Safe κ g N pd st'/\∃m q,c=(none,m,q)/\1<=m/\m<=nrem) ?_ (λ_ _ ⟨z,m,q,e,z1,_,z2⟩=>⟨z,m,q,e,z1,z2⟩) ⟨by assumption,_,_,rfl,by omega,by omega,by omega⟩) ?_)
   ·rintro i c st' _ hi ⟨S',m,q,rfl,z1,z2,z3⟩
    dsimp only;refine az (iG ok S' (by omega) (by omega) λb=>?_);dsimp only
    split
    ·split
     ·exact az (jU S' λrJ S8=>aP ⟨S8,_,_,rfl,by omega,by omega,by omega⟩)
     ·exact aP ⟨S',_,_,rfl,by omega,by omega,by omega⟩
    ·refine az (iG ok S' (by omega) (by omega) λb2=>?_)
     dsimp only
     split
     ·exact aP ⟨S',_,_,rfl,by omega,by omega⟩
     ·exact aP ⟨S',_,_,rfl,by omega,by omega,by omega⟩
   ·rintro c st7 ⟨S7,m7,q7,rfl,x1,x2⟩
    dsimp only
    split
    ·refine az (jU S7 λst6 S6=>?_)
     clear S7
     try dsimp only
     refine az (jU (by assumption) λrJ S8=>?_)
     try dsimp only
     refine az (du (dr (I:=λi c st'=>Safe κ g N pd st'/\∃m,c=(none,m)/\1<=m/\m<=i/\m<=nrem) (Q:=λc st'=>Safe κ g N pd st'/\∃m,c=(none,m)/\1<=m/\m<=nrem) ?_ (λ_ _ ⟨z,m,e,z1,_,z2⟩=>⟨z,m,e,z1,z2⟩) ⟨by assumption,_,rfl,by omega,by omega,by omega⟩) ?_)
     ·rintro i c st' _ hi ⟨S',m,rfl,z1,z2,z3⟩
      dsimp only;refine az (iG ok S' (by omega) (by omega) λb=>?_);dsimp only
      split
      ·exact aP ⟨S',_,rfl,z1,z3⟩
      ·exact aP ⟨S',_,rfl,by omega,by omega,by omega⟩
     rintro c Ep ⟨S9,m9,rfl,y1,y2⟩;exact aP (h _ _ y1 y2 S9)
    ·try dsimp only
     refine az (jU (by assumption) λrJ S8=>?_)
     try dsimp only
     refine az (du (dr (I:=λi c st'=>Safe κ g N pd st'/\∃m,c=(none,m)/\1<=m/\m<=i/\m<=nrem) (Q:=λc st'=>Safe κ g N pd st'/\∃m,c=(none,m)/\1<=m/\m<=nrem) ?_ (λ_ _ ⟨z,m,e,z1,_,z2⟩=>⟨z,m,e,z1,z2⟩) ⟨by assumption,_,rfl,by omega,by omega,by omega⟩) ?_)
     ·rintro i c st' _ hi ⟨S',m,rfl,z1,z2,z3⟩
      dsimp only;refine az (iG ok S' (by omega) (by omega) λb=>?_);dsimp only
      split
      ·exact aP ⟨S',_,rfl,z1,z3⟩
      ·exact aP ⟨S',_,rfl,by omega,by omega,by omega⟩
     rintro c Ep ⟨S9,m9,rfl,y1,y2⟩;exact aP (h _ _ y1 y2 S9)
theorem abB{lo n k:Nat}{st:SortSt}{Q:Bool->SortSt->Prop}(ok:iL prog w A s κ g)(S:Safe κ g N pd st)(h2:lo+n<=N)(h:∀st',Safe κ g N pd st'->Q true st'):wpS (model prog w) A E s (binarySort' lo n k) Q st:=by
 refine az (du (dr (I:=λ_ c st'=>Safe κ g N pd st'/\c=(none,())) (Q:=λc st'=>Safe κ g N pd st'/\c=(none,())) ?_ (λ_ _ z=>z) ⟨S,rfl⟩) ?_)
 ·rintro i c st' _ hi ⟨S',rfl⟩
  refine az (du (dr (I:=λ_ c st'=>Safe κ g N pd st'/\∃l r,c=(none,l,r)/\r<=i) (Q:=λc st'=>Safe κ g N pd st'/\∃l r,c=(none,l,r)/\r<=i) ?_ (λ_ _ z=>z) ⟨S',_,_,rfl,aY _⟩) ?_)
  ·rintro i2 c st' _ _ ⟨S',l,r,rfl,hr⟩
   dsimp only
   split
   ·exact aP ⟨S',l,r,rfl,hr⟩
   ·refine az (iG ok S' (by omega) (by omega) λb=>?_)
    dsimp only
    split
    ·exact aP ⟨S',_,_,rfl,by omega⟩
    ·exact aP ⟨S',_,_,rfl,hr⟩
  ·rintro c st2 ⟨S2,l,r,rfl,hr⟩
   exact az (abF S2 λst3 S3=>aP ⟨S3,rfl⟩)
 ·rintro c st' ⟨S',rfl⟩
  exact aP (h _ S')
theorem eW{M:Model}{σ α:Type}{c:Prop}[Decidable c]{x y:StateT σ Sem α}{Q:α->σ->Prop}{st:σ}(h1:c->wpS M A E s x Q st)(h2:¬c->wpS M A E s y Q st):wpS M A E s (if c then x else y) Q st:=by
 by_cases h:c
 ·rw[aC h];exact h1 h
 ·rw[aq h];exact h2 h
theorem gW{M:Model}{σ α:Type}{i j:Nat}{x y:StateT σ Sem α}{Q:α->σ->Prop}{st:σ}(h1:i=j->wpS M A E s x Q st)(h2:i≠j->wpS M A E s y Q st):wpS M A E s (if(i==j)=true then x else y) Q st:=
 eW (λe=>h1 (by simpa using e)) λe=>h2 (by simpa using e)
noncomputable def GA(g:Keyed->Prop)(xs:Array Keyed):Prop:=∀p∈xs,g p
theorem GA.app{xs ys:Array Keyed}(h1:GA g xs)(h2:GA g ys):GA g (xs++ys):=λp hp=>(Array.mem_append.mp hp).elim (h1 p) (h2 p)
theorem GA.dZ{xs:Array Keyed}{x:Keyed}(h1:GA g xs)(h2:g x):GA g (xs.push x):=λp hp=>(Array.mem_push.mp hp).elim (h1 p) λe=>e▸h2
theorem GA.ext{xs:Array Keyed}{i j:Nat}(h1:GA g xs):GA g (xs.extract i j):=λp hp=>h1 p (by
 obtain⟨k,hk,e⟩:=QL.mp hp;rw[Array.getElem_extract]at e;exact e▸Fm _)
theorem GA.rev{xs:Array Keyed}(h1:GA g xs):GA g xs.reverse:=λp hp=>h1 p (Array.mem_reverse.mp hp)
theorem GA.one{x:Keyed}(h:g x):GA g #[x]:=λp hp=>by
 rw[Array.mem_singleton]at hp;exact hp▸h
noncomputable def aaz:Nat->StateT SortSt Sem Unit:=sortPriv% PySem.Builtin.setMinGallop
theorem oI{k:Nat}{st:SortSt}{Q:Unit->SortSt->Prop}(S:Safe κ g N pd st)(h:∀st',Safe κ g N pd st'->Q () st'):wpS (model prog w) A E s ((sortPriv% PySem.Builtin.setMinGallop) k) Q st:=by
 show wpS _ _ _ _ (aaz k) _ _;exact jn (h _ ⟨S.kind,S.failed,S.size,S.all,S.pend⟩)
theorem abE{a b:Array Keyed}{st:SortSt}{Q:Array Keyed->SortSt->Prop}(ok:iL prog w A s κ g)(S:Safe κ g N pd st)(ga:∀p∈a,g p)(gb:∀p∈b,g p)(h1:1<=a.size)(h2:1<=b.size)(h:∀out st',GA g out->Safe κ g N pd st'->Q out st'):wpS (model prog w) A E s (X6 a b) Q st:=by
 have dO:GA g a:=ga;have dP:GA g b:=gb;refine az (mE ?_);refine az (fu gb (by omega) λp gp=>?_);dsimp only;refine gW (λq1=>?_) (λq1=>?_)
 ·exact aP (h _ _ (by(with_reducible repeat (first|assumption|exact GA.ext dO|exact GA.ext dP|exact GA.one (by assumption)|refine GA.app ?_ ?_|refine GA.dZ ?_ ?_|refine GA.rev ?_))) S)
 ·refine gW (λq2=>?_) (λq2=>?_)
  ·exact aP (h _ _ (by(with_reducible repeat (first|assumption|exact GA.ext dO|exact GA.ext dP|exact GA.one (by assumption)|refine GA.app ?_ ?_|refine GA.dZ ?_ ?_|refine GA.rev ?_))) S)
  ·refine az (hX ?_)
   refine az (du (dr (I:=λi c st'=>Safe κ g N pd st'/\∃out ia ib r,c=(none,out,ia,ib,r)/\GA g out/\ia+1<a.size/\ib<b.size/\i+1<=ia+ib)
    (Q:=λc st'=>Safe κ g N pd st'/\∃r x,c=(some r,x)/\GA g r) ?_ ?_ ⟨S,_,_,_,_,rfl,by(with_reducible repeat (first|assumption|exact GA.ext dO|exact GA.ext dP|exact GA.one (by assumption)|refine GA.app ?_ ?_|refine GA.dZ ?_ ?_|refine GA.rev ?_)),by omega,by omega,by omega⟩) ?_)
   ·rintro i c st1 _ hi ⟨S1,out,ia,ib,mg,rfl,go,z1,z2,z3⟩
    dsimp only;refine az (du (dr (I:=λi c st'=>Safe κ g N pd st'/\∃out fb fc r,c=(none,out,fb,fc,r)/\GA g out/\fb+1<a.size/\fc<b.size/\ia+ib+min i 1<=fb+fc)
     (Q:=λc st'=>Safe κ g N pd st'/\((∃r x,c=(some r,x)/\GA g r)\/∃out fb fc r,c=(none,out,fb,fc,r)/\GA g out/\fb+1<a.size/\fc<b.size/\ia+ib+1<=fb+fc)) ?_ ?_ ⟨S1,_,_,_,_,rfl,go,z1,z2,by omega⟩) ?_)
    ·rintro i2 c st2 _ hi2 ⟨S2,jL,uq,ur,⟨ac,bc⟩,rfl,go2,y1,y2,y3⟩
     dsimp only
     repeat' (first
      |with_reducible refine gW (λ_=>?_) (λ_=>?_)
      |with_reducible refine eW (λ_=>?_) (λ_=>?_)
      |with_reducible refine az (fu ga (by omega) λ_ _=>?_)
      |with_reducible refine az (fu gb (by omega) λ_ _=>?_)
      |with_reducible refine az (mD ok (by assumption) (by assumption) (by assumption) λ_=>?_)
      |with_reducible refine az (oI (by assumption) λ_ _=>?_)
      |with_reducible refine az (jf ok (by assumption) (by assumption) ga (by omega) (by omega) λ_ _=>?_)
      |with_reducible refine az (jf ok (by assumption) (by assumption) gb (by omega) (by omega) λ_ _=>?_)
      |dsimp only
      | (refine aP ⟨by assumption,?_⟩;first
        |exact .inl ⟨_,_,rfl,by(with_reducible repeat (first|assumption|exact GA.ext dO|exact GA.ext dP|exact GA.one (by assumption)|refine GA.app ?_ ?_|refine GA.dZ ?_ ?_|refine GA.rev ?_))⟩
        |exact .inr ⟨_,_,_,_,rfl,by(with_reducible repeat (first|assumption|exact GA.ext dO|exact GA.ext dP|exact GA.one (by assumption)|refine GA.app ?_ ?_|refine GA.dZ ?_ ?_|refine GA.rev ?_)),by omega,by omega,by omega⟩
        |exact⟨_,_,_,_,rfl,by(with_reducible repeat (first|assumption|exact GA.ext dO|exact GA.ext dP|exact GA.one (by assumption)|refine GA.app ?_ ?_|refine GA.dZ ?_ ?_|refine GA.rev ?_)),by omega,by omega,by omega⟩))
    ·rintro c st2 ⟨S2,jL,uq,ur,r,rfl,go2,y1,y2,y3⟩
     exact⟨S2,.inr ⟨_,_,_,_,rfl,go2,y1,y2,by omega⟩⟩
    ·rintro c st2 ⟨S2,⟨r,x,rfl,gr⟩|⟨jL,uq,ur,⟨ac,bc⟩,rfl,go2,y1,y2,y3⟩⟩
     ·exact aP ⟨S2,_,_,rfl,gr⟩
     ·dsimp only
      refine az (mE ?_);refine az (du (dr (I:=λi c st'=>Safe κ g N pd st'/\∃out fb fc r,c=(none,out,fb,fc,r)/\GA g out/\fb+1<a.size/\fc<b.size/\ia+ib+1<=fb+fc)
       (Q:=λc st'=>Safe κ g N pd st'/\((∃r x,c=(some r,x)/\GA g r)\/∃out fb fc r,c=(none,out,fb,fc,r)/\GA g out/\fb+1<a.size/\fc<b.size/\ia+ib+1<=fb+fc)) ?_ ?_ ⟨S2,_,_,_,_,rfl,go2,y1,y2,y3⟩) ?_)
      ·rintro i3 c st3 _ JC ⟨S3,BJ,WX,WY,⟨Bp,x8,yd⟩,rfl,qk,x1,x2,x3⟩
       dsimp only;clear S1 S2 S go go2
       repeat' (first
        |with_reducible refine gW (λ_=>?_) (λ_=>?_)
        |with_reducible refine eW (λ_=>?_) (λ_=>?_)
        |with_reducible refine az (fu ga (by omega) λ_ _=>?_)
        |with_reducible refine az (fu gb (by omega) λ_ _=>?_)
        |with_reducible refine az (mD ok (by assumption) (by assumption) (by assumption) λ_=>?_)
        |with_reducible refine az (oI (by assumption) λ_ _=>?_)
        |with_reducible refine az (jf ok (by assumption) (by assumption) ga (by omega) (by omega) λ_ _=>?_)
        |with_reducible refine az (jf ok (by assumption) (by assumption) gb (by omega) (by omega) λ_ _=>?_)
        |dsimp only
        | (refine aP ⟨by assumption,?_⟩;first
          |exact .inl ⟨_,_,rfl,by(with_reducible repeat (first|assumption|exact GA.ext dO|exact GA.ext dP|exact GA.one (by assumption)|refine GA.app ?_ ?_|refine GA.dZ ?_ ?_|refine GA.rev ?_))⟩
          |exact .inr ⟨_,_,_,_,rfl,by(with_reducible repeat (first|assumption|exact GA.ext dO|exact GA.ext dP|exact GA.one (by assumption)|refine GA.app ?_ ?_|refine GA.dZ ?_ ?_|refine GA.rev ?_)),by omega,by omega,by omega⟩
          |exact⟨_,_,_,_,rfl,by(with_reducible repeat (first|assumption|exact GA.ext dO|exact GA.ext dP|exact GA.one (by assumption)|refine GA.app ?_ ?_|refine GA.dZ ?_ ?_|refine GA.rev ?_)),by omega,by omega,by omega⟩))
      ·rintro c st2 ⟨S2,jL,uq,ur,r,rfl,go2,y1,y2,y3⟩
       exact⟨S2,.inr ⟨_,_,_,_,rfl,go2,y1,y2,by omega⟩⟩
      ·rintro c st3 ⟨S3,⟨r,x,rfl,gr⟩|⟨BJ,WX,WY,⟨Bp,x8,yd⟩,rfl,qk,x1,x2,x3⟩⟩
       ·exact aP ⟨S3,_,_,rfl,gr⟩
       ·dsimp only
        exact az (oI S3 λdc S4=>aP ⟨S4,_,_,_,_,rfl,qk,x1,x2,by omega⟩)
   ·rintro c st2 ⟨S2,jL,uq,ur,r,rfl,go2,y1,y2,y3⟩
    exfalso
    omega
   ·rintro c st2 ⟨S2,r,x,rfl,gr⟩
    exact aP (h _ _ gr S2)
theorem QB{M:Model}{σ α:Type}{i:Nat}{x y:StateT σ Sem α}{Q:α->σ->Prop}{st:σ}(h1:i=0->wpS M A E s x Q st)(h2:1<=i->wpS M A E s y Q st):wpS M A E s (if(i==0)=true then x else y) Q st:=
 gW h1 λe=>h2 (by omega)
theorem QC{M:Model}{σ α:Type}{i:Nat}{x y:StateT σ Sem α}{Q:α->σ->Prop}{st:σ}(h0:1<=i)(h1:i=1->wpS M A E s x Q st)(h2:2<=i->wpS M A E s y Q st):wpS M A E s (if(i==1)=true then x else y) Q st:=
 gW h1 λe=>h2 (by omega)
theorem QD{M:Model}{σ α:Type}{i j:Nat}{x y:StateT σ Sem α}{Q:α->σ->Prop}{st:σ}(h1:j<i->wpS M A E s x Q st)(h2:i<=j->wpS M A E s y Q st):wpS M A E s (if i - j > 0 then x else y) Q st:=
 eW (λe=>h1 (by omega)) λe=>h2 (by omega)
theorem abD{a b:Array Keyed}{st:SortSt}{Q:Array Keyed->SortSt->Prop}(ok:iL prog w A s κ g)(S:Safe κ g N pd st)(ga:∀p∈a,g p)(gb:∀p∈b,g p)(h1:1<=a.size)(h2:1<=b.size)(h:∀out st',GA g out->Safe κ g N pd st'->Q out st'):wpS (model prog w) A E s (X5 a b) Q st:=by
 have dO:GA g a:=ga;have dP:GA g b:=gb;refine az (mE ?_);refine az (fu ga (by omega) λp gp=>?_);dsimp only;refine gW (λq1=>?_) (λq1=>?_)
 ·exact aP (h _ _ (by(with_reducible repeat (first|assumption|exact GA.ext dO|exact GA.ext dP|exact GA.one (by assumption)|refine GA.app ?_ ?_|refine GA.dZ ?_ ?_|refine GA.rev ?_))) S)
 ·refine gW (λq2=>?_) (λq2=>?_)
  ·exact aP (h _ _ (by(with_reducible repeat (first|assumption|exact GA.ext dO|exact GA.ext dP|exact GA.one (by assumption)|refine GA.app ?_ ?_|refine GA.dZ ?_ ?_|refine GA.rev ?_))) S)
  ·refine az (hX ?_)
   try dsimp only
   refine az (du (dr (I:=λi c st'=>Safe κ g N pd st'/\∃c6 c7 out r,c=(none,c6,c7,out,r)/\GA g out/\1<=c6/\2<=c7/\c6<=a.size/\c7<=b.size/\c6+c7+i+1<=a.size+b.size)
    (Q:=λc st'=>Safe κ g N pd st'/\∃r x,c=(some r,x)/\GA g r) ?_ ?_ ⟨S,_,_,_,_,rfl,by(with_reducible repeat (first|assumption|exact GA.ext dO|exact GA.ext dP|exact GA.one (by assumption)|refine GA.app ?_ ?_|refine GA.dZ ?_ ?_|refine GA.rev ?_)),by omega,by omega,by omega,by omega,by omega⟩) ?_)
   ·rintro i c st1 _ hi ⟨S1,na,nb,out,mg,rfl,go,z1,z2,z3,z4,z5⟩
    dsimp only;refine az (du (dr (I:=λi c st'=>Safe κ g N pd st'/\∃c6 c7 out r,c=(none,c6,c7,out,r)/\GA g out/\1<=c6/\2<=c7/\c6<=a.size/\c7<=b.size/\c6+c7+min i 1<=na+nb)
     (Q:=λc st'=>Safe κ g N pd st'/\((∃r x,c=(some r,x)/\GA g r)\/∃c6 c7 out r,c=(none,c6,c7,out,r)/\GA g out/\1<=c6/\2<=c7/\c6<=a.size/\c7<=b.size/\c6+c7+1<=na+nb)) ?_ ?_ ⟨S1,_,_,_,_,rfl,go,z1,z2,z3,z4,by omega⟩) ?_)
    ·rintro i2 c st2 _ hi2 ⟨S2,lW,lX,jL,⟨ac,bc⟩,rfl,go2,y1,y2,y3,y4,y5⟩
     dsimp only;clear S S1 go h1 h2 q1 q2 z1 z2 z3 z4 z5 hi hi2;obtain⟨lW,rfl⟩:∃k,lW=k+1:=⟨lW - 1,by omega⟩;obtain⟨lX,rfl⟩:∃k,lX=k+1+1:=⟨lX - 2,by omega⟩;simp only[Nat.add_sub_cancel];clear y1 y2
     repeat' (first
      |with_reducible refine QB (λ_=>?_) (λ_=>?_)
      |with_reducible refine QC (by omega) (λ_=>?_) (λ_=>?_)
      |with_reducible refine gW (λ_=>?_) (λ_=>?_)
      |with_reducible refine QD (λ_=>?_) (λ_=>?_)
      |with_reducible refine eW (λ_=>?_) (λ_=>?_)
      |with_reducible refine az (fu ga (by omega) λ_ _=>?_)
      |with_reducible refine az (fu gb (by omega) λ_ _=>?_)
      |with_reducible refine az (mD ok (by assumption) (by assumption) (by assumption) λ_=>?_)
      |with_reducible refine az (oI (by assumption) λ_ _=>?_)
      |with_reducible refine az (jf ok (by assumption) (by assumption) ga (by omega) (by omega) λ_ _=>?_)
      |with_reducible refine az (jf ok (by assumption) (by assumption) gb (by omega) (by omega) λ_ _=>?_)
      |dsimp only
      | (refine aP ⟨by assumption,?_⟩;first
        |exact .inl ⟨_,_,rfl,by(with_reducible repeat (first|assumption|exact GA.ext dO|exact GA.ext dP|exact GA.one (by assumption)|refine GA.app ?_ ?_|refine GA.dZ ?_ ?_|refine GA.rev ?_))⟩
        |exact⟨_,_,_,_,rfl,by(with_reducible repeat (first|assumption|exact GA.ext dO|exact GA.ext dP|exact GA.one (by assumption)|refine GA.app ?_ ?_|refine GA.dZ ?_ ?_|refine GA.rev ?_)),by omega,by omega,by omega,by omega,by omega⟩
        |exact .inr ⟨_,_,_,_,rfl,by(with_reducible repeat (first|assumption|exact GA.ext dO|exact GA.ext dP|exact GA.one (by assumption)|refine GA.app ?_ ?_|refine GA.dZ ?_ ?_|refine GA.rev ?_)),by omega,by omega,by omega,by omega,by omega⟩))
    ·rintro c st2 ⟨S2,lW,lX,jL,r,rfl,go2,y1,y2,y3,y4,y5⟩
     exact⟨S2,.inr ⟨_,_,_,_,rfl,go2,y1,y2,y3,y4,by omega⟩⟩
    ·rintro c st2 ⟨S2,⟨r,x,rfl,gr⟩|⟨lW,lX,jL,⟨ac,bc⟩,rfl,go2,y1,y2,y3,y4,y5⟩⟩
     ·exact aP ⟨S2,_,_,rfl,gr⟩
     ·dsimp only
      refine az (mE ?_);refine az (du (dr (I:=λi c st'=>Safe κ g N pd st'/\∃c6 c7 out r,c=(none,c6,c7,out,r)/\GA g out/\1<=c6/\2<=c7/\c6<=a.size/\c7<=b.size/\c6+c7+1<=na+nb)
       (Q:=λc st'=>Safe κ g N pd st'/\((∃r x,c=(some r,x)/\GA g r)\/∃c6 c7 out r,c=(none,c6,c7,out,r)/\GA g out/\1<=c6/\2<=c7/\c6<=a.size/\c7<=b.size/\c6+c7+1<=na+nb)) ?_ ?_ ⟨S2,_,_,_,_,rfl,go2,y1,y2,y3,y4,y5⟩) ?_)
      ·rintro i3 c st3 _ JC ⟨S3,uG,uH,BJ,⟨Bp,x8,yd⟩,rfl,qk,x1,x2,x3,x4,x5⟩
       dsimp only;clear S1 S2 S go go2 h1 h2 q1 q2 z1 z2 z3 z4 z5 y1 y2 y3 y4 y5 hi JC;obtain⟨uG,rfl⟩:∃k,uG=k+1:=⟨uG - 1,by omega⟩;obtain⟨uH,rfl⟩:∃k,uH=k+1+1:=⟨uH - 2,by omega⟩;simp only[Nat.add_sub_cancel];clear x1 x2
       repeat' (first
        |with_reducible refine QB (λ_=>?_) (λ_=>?_)
        |with_reducible refine QC (by omega) (λ_=>?_) (λ_=>?_)
        |with_reducible refine gW (λ_=>?_) (λ_=>?_)
        |with_reducible refine QD (λ_=>?_) (λ_=>?_)
        |with_reducible refine eW (λ_=>?_) (λ_=>?_)
        |with_reducible refine az (fu ga (by omega) λ_ _=>?_)
        |with_reducible refine az (fu gb (by omega) λ_ _=>?_)
        |with_reducible refine az (mD ok (by assumption) (by assumption) (by assumption) λ_=>?_)
        |with_reducible refine az (oI (by assumption) λ_ _=>?_)
        |with_reducible refine az (jf ok (by assumption) (by assumption) ga (by omega) (by omega) λ_ _=>?_)
        |with_reducible refine az (jf ok (by assumption) (by assumption) gb (by omega) (by omega) λ_ _=>?_)
        |dsimp only
        | (refine aP ⟨by assumption,?_⟩;first
          |exact .inl ⟨_,_,rfl,by(with_reducible repeat (first|assumption|exact GA.ext dO|exact GA.ext dP|exact GA.one (by assumption)|refine GA.app ?_ ?_|refine GA.dZ ?_ ?_|refine GA.rev ?_))⟩
          |exact⟨_,_,_,_,rfl,by(with_reducible repeat (first|assumption|exact GA.ext dO|exact GA.ext dP|exact GA.one (by assumption)|refine GA.app ?_ ?_|refine GA.dZ ?_ ?_|refine GA.rev ?_)),by omega,by omega,by omega,by omega,by omega⟩
          |exact .inr ⟨_,_,_,_,rfl,by(with_reducible repeat (first|assumption|exact GA.ext dO|exact GA.ext dP|exact GA.one (by assumption)|refine GA.app ?_ ?_|refine GA.dZ ?_ ?_|refine GA.rev ?_)),by omega,by omega,by omega,by omega,by omega⟩))
      ·rintro c st2 ⟨S2,lW,lX,jL,r,rfl,go2,y1,y2,y3,y4,y5⟩
       exact⟨S2,.inr ⟨_,_,_,_,rfl,go2,y1,y2,y3,y4,by omega⟩⟩
      ·rintro c st3 ⟨S3,⟨r,x,rfl,gr⟩|⟨uG,uH,BJ,⟨Bp,x8,yd⟩,rfl,qk,x1,x2,x3,x4,x5⟩⟩
       ·exact aP ⟨S3,_,_,rfl,gr⟩
       ·dsimp only
        exact az (oI S3 λdc S4=>aP ⟨S4,_,_,_,_,rfl,qk,x1,x2,x3,x4,by omega⟩)
   ·rintro c st2 ⟨S2,lW,lX,jL,r,rfl,go2,y1,y2,y3,y4,y5⟩
    exfalso
    omega
   ·rintro c st2 ⟨S2,r,x,rfl,gr⟩
    exact aP (h _ _ gr S2)
end
noncomputable def Runs:List (Nat × Nat × Nat)->Nat->Nat->Prop
 | [],a,b=>a=b
 | (s,n,_)::r,a,b=>s=a/\1<=n/\Runs r (a+n) b
theorem Runs.le:∀{l:List (Nat × Nat × Nat)} {a b:Nat},Runs l a b->a<=b
 | [],_,_,h=>rV h
 | (_,n,_)::r,a,b,h=>by
  have:=Runs.le h.2.2;omega
theorem Runs.app{s n p:Nat}:∀{l:List (Nat × Nat × Nat)} {a b:Nat},Runs l a b->1<=n->Runs (l++[(b,n,p)]) a (b+n)
 | [],_,_,rfl,hn=>⟨rfl,hn,rfl⟩
 | (_,_,_)::r,a,b,h,hn=>⟨h.1,h.2.1,Runs.app (s:=s) h.2.2 hn⟩
theorem Runs.at:∀{l:List (Nat × Nat × Nat)} {a b i s n p s2 n2 p2:Nat},Runs l a b->l[i]?=some (s,n,p)->l[i+1]?=some (s2,n2,p2)->s2=s+n/\1<=n/\1<=n2/\s2+n2<=b/\Runs ((l.set i (s,n+n2,p)).eraseIdx (i+1)) a b
 | [],_,_,i,_,_,_,_,_,_,_,h1,_=>by simp at h1
 | (s0,n0,p0)::r,a,b,0,s,n,p,s2,n2,p2,h,h1,h2=>by
  simp only[Q9,xG,Prod.mk.injEq]at h1;obtain⟨rfl,rfl,rfl⟩:=h1;cases r with
  |nil=>simp at h2
  |cons q r =>
   simp at h2;subst h2;obtain⟨e1,e2,e3,e4,e5⟩:=h;have:=e5.le;refine⟨by omega,e2,e4,by omega,?_⟩;refine⟨e1,by omega,?_⟩;rw[show a+(n0+n2)=a+n0+n2 by omega];exact e5
 | (s0,n0,p0)::r,a,b,i+1,s,n,p,s2,n2,p2,h,h1,h2=>by
  obtain⟨e1,e2,e3⟩:=h;have:=Runs.at (i:=i) e3 (by simpa using h1) (by simpa using h2);exact⟨this.1,this.2.1,this.2.2.1,this.2.2.2.1,e1,e2,this.2.2.2.2⟩
theorem Runs.mod(f:Nat × Nat × Nat->Nat × Nat × Nat)(hf:∀x,(f x).1=x.1/\(f x).2.1=x.2.1):∀{l:List (Nat × Nat × Nat)} {a b i:Nat},Runs l a b->Runs (l.modify i f) a b
 | [],_,_,i,h=>by simpa using h
 | (s0,n0,p0)::r,a,b,0,h=>by
  have:=hf (s0,n0,p0);rw[List.modify_zero_cons];generalize f (s0,n0,p0)=y at this;obtain⟨y1,y2,y3⟩:=y;obtain⟨rfl,rfl⟩:=this;exact h
 | (s0,n0,p0)::r,a,b,i+1,h=>⟨h.1,h.2.1,Runs.mod f hf h.2.2⟩
section
variable {prog:Program} {w:World} {A:Around} {E:Value->Shared->Prop} {s:Shared} {κ:SortKind} {g:Keyed->Prop} {N:Nat} {pd:Array (Nat × Nat × Nat)}
theorem abG{M:Model}{σ:Type}{st':σ}{Q:PUnit->σ->Prop}{st:σ}(h:Q ⟨⟩ st'):wpS M A E s (set st':StateT σ Sem PUnit) Q st:=by
 unfold wpS;rw[StateT.run_set];exact aK ⟨rfl,h⟩
theorem GA.setB{xs:Array Keyed}{x:Keyed}{i:Nat}(h1:GA g xs)(h2:g x):GA g (xs.setIfInBounds i x):=λp hp=>by
 obtain⟨k,hk,e⟩:=QL.mp hp;rw[Array.getElem_setIfInBounds]at e
 ·split at e
  ·exact e▸h2
  ·exact e▸h1 _ (Fm _)
 ·simpa using hk
theorem GA.fold{sa:Nat}:∀{l:List (Keyed × Nat)} {xs:Array Keyed},GA g xs->(∀p∈l,g p.1)->GA g (l.foldl (λa x=>a.setIfInBounds (sa+x.2) x.1) xs)/\(l.foldl (λa x=>a.setIfInBounds (sa+x.2) x.1) xs).size=xs.size
 | [],xs,h,_=>⟨h,rfl⟩
 |p::l,xs,h,hl=>by
  have:=GA.fold (sa:=sa) (h.setB (i:=sa+p.2) (hl p (cC ..))) (λq hq=>hl q (bT _ hq));exact⟨this.1,this.2.trans (Array.size_setIfInBounds ..)⟩
theorem Fj{i lo:Nat}{st:SortSt}{Q:Bool->SortSt->Prop}(ok:iL prog w A s κ g)(S:Safe κ g N pd st)(hR:Runs pd.toList 0 lo)(hlo:lo<=N)(hi:i+1<pd.size)(h:∀BP st',Safe κ g N BP st'->Runs BP.toList 0 lo->1<=BP.size->Q true st'):wpS (model prog w) A E s (mergeAt' i) Q st:=by
 refine az (hX ?_);dsimp only;obtain⟨⟨sa,na,pw⟩,e1⟩:∃x,pd[i]?=some x:=⟨_,tU pd i (by omega)⟩;obtain⟨⟨sb,nb,M8⟩,e2⟩:∃x,pd[i+1]?=some x:=⟨_,tU pd (i+1) (by omega)⟩;obtain⟨rfl,n1,n2,z1,R2⟩:=hR.at (i:=i) (by simpa using e1) (by simpa using e2);have hp:(sortPriv% PySem.Builtin.SortState.pending) st=pd:=S.pend;rw[hp,e1,e2];dsimp only;refine az (abG ?_);have S2:∀st':SortSt,kindOf st'=kindOf st->failedOf st'=none->GA g (arrOf st')->(arrOf st').size=N->pendingOf st'=(pd.setIfInBounds i (sa,na+nb,pw)).eraseIdxIfInBounds (i+1)->Safe κ g N ((pd.setIfInBounds i (sa,na+nb,pw)).eraseIdxIfInBounds (i+1)) st':=
  λst' a1 a2 a3 a4 a5=>⟨a1.trans S.kind,a2,a4,a3,a5⟩
 have R3:Runs ((pd.setIfInBounds i (sa,na+nb,pw)).eraseIdxIfInBounds (i+1)).toList 0 lo:=by
  have:((pd.setIfInBounds i (sa,na+nb,pw)).eraseIdxIfInBounds (i+1)).toList=(pd.toList.set i (sa,na+nb,pw)).eraseIdx (i+1):=by simp
  rw[this];exact R2
 have sz:1<=((pd.setIfInBounds i (sa,na+nb,pw)).eraseIdxIfInBounds (i+1)).size:=by
  rw[<- gw];generalize ((pd.setIfInBounds i (sa,na+nb,pw)).eraseIdxIfInBounds (i+1)).toList=l at R3;cases l with
  |nil =>
   have:0=lo:=R3;omega
  |cons=>simp
 have S3:=S2 (SortSt.mk' (kindOf st) (arrOf st) ((pd.setIfInBounds i (sa,na+nb,pw)).eraseIdxIfInBounds (i+1)) (gallopOf st) (failedOf st)) rfl S.failed S.all S.size rfl;have T:∀(k:Nat) (M:Array Keyed) (dc:SortSt),GA g M->Safe κ g N ((pd.setIfInBounds i (sa,na+nb,pw)).eraseIdxIfInBounds (i+1)) dc->wpS (model prog w) A E s (do
   modify λs=>setArr s (List.foldl (λa x=>a.setIfInBounds (sa+k+x.2) x.1) (arrOf s) M.toList.zipIdx)
   let y <- get
   pure (failedOf y).isNone) Q dc:=by
  intro k M dc gM S4;refine az (jn (az (hX (aP ?_))));have q:=GA.fold (sa:=sa+k) (l:=M.toList.zipIdx) (xs:=arrOf dc) S4.all (λp hp=>gM _ (by
   have:=List.mem_zipIdx hp;rw[this.2.2];simp))
  rw[show failedOf (setArr dc _)=none from S4.failed];exact h _ _ ⟨S4.kind,S4.failed,q.2.trans S4.size,q.1,S4.pend⟩ R3 sz
 have hs:(arrOf st).size=N:=S.size;have hs':((sortPriv% PySem.Builtin.SortState.a) st).size=N:=S.size;refine az (fu S.all (by omega) λp gp=>?_);refine az (jf ok S3 gp S.all (by omega) (by omega) λk hk=>?_);dsimp only;refine gW (λq1=>?_) (λq1=>?_)
 ·exact aP (h _ _ S3 R3 sz)
 ·refine az (fu S.all (by omega) λp2 UT=>?_)
  refine az (jf ok S3 UT S.all (by omega) (by omega) λk2 hk2=>?_);dsimp only;refine gW (λq2=>?_) (λq2=>?_)
  ·exact aP (h _ _ S3 R3 sz)
  ·have e3:((arrOf st).extract (sa+k) (sa+na)).size=na - k:=by
    rw[Array.size_extract];omega
   have e4:((arrOf st).extract (sa+na) (sa+na+k2)).size=k2:=by
    rw[Array.size_extract];omega
   have e3':(((sortPriv% PySem.Builtin.SortState.a) st).extract (sa+k) (sa+na)).size=na - k:=e3;have e4':(((sortPriv% PySem.Builtin.SortState.a) st).extract (sa+na) (sa+na+k2)).size=k2:=e4;have g3:GA g ((arrOf st).extract (sa+k) (sa+na)):=GA.ext S.all;have g4:GA g ((arrOf st).extract (sa+na) (sa+na+k2)):=GA.ext S.all;refine eW (λ_=>?_) (λ_=>?_)
   ·exact az (abE ok S3 g3 g4 (by rw[e3];omega) (by rw[e4];omega) λM dc gM S4=>T k M dc gM S4)
   ·exact az (abD ok S3 g3 g4 (by rw[e3];omega) (by rw[e4];omega) λM dc gM S4=>T k M dc gM S4)
theorem abH{st:SortSt}{Q:Unit->SortSt->Prop}(ok:iL prog w A s κ g)(S:Safe κ g N #[] st)(h:∀pd st',Safe κ g N pd st'->Q () st'):wpS (model prog w) A E s sortRuns' Q st:=by
 refine az (hX ?_);have hs:((sortPriv% PySem.Builtin.SortState.a) st).size=N:=S.size;dsimp only;rw[hs];generalize (sortPriv% PySem.Builtin.minRun) N N 0=mr;refine az (du (dr (I:=λx c st'=>∃lo pd,c=(none,lo)/\Safe κ g N pd st'/\Runs pd.toList 0 lo/\lo<=N/\x<=lo) (Q:=λc st'=>∃lo pd,c=(none,lo)/\Safe κ g N pd st'/\Runs pd.toList 0 lo/\lo<=N) ?step (λc st' ⟨lo,pd,e,z1,z2,z3,_⟩=>⟨lo,pd,e,z1,z2,z3⟩) ⟨0,#[],rfl,S,rfl,cW _,aY _⟩) ?post)
 case step =>
  rintro x c st1 _ hx ⟨lo,pd,rfl,S1,R1,hlo,hxl⟩;dsimp only;refine eW (λq=>?_) (λq=>?_)
  ·exact aP ⟨lo,pd,rfl,S1,R1,hlo⟩
  ·refine az (abC ok S1 (by omega) (by omega) λn st3 hn1 hn2 S3=>?_)
   dsimp only;refine eW (λq2=>?_) (λq2=>?_)
   ·refine az (mE ?_)
    refine az (abB ok S3 (by omega) λst3 S3=>?_);refine eW (λe=>by simp at e) (λ_=>?_);have ko:1<=min (N - lo) mr:=by omega
    have nY:lo+min (N - lo) mr<=N:=by omega
    generalize min (N - lo) mr=n at ko nY;refine az (hX ?_);cases hb:((sortPriv% PySem.Builtin.SortState.pending) st3).back? with
    |none =>
     dsimp only;refine az (jn (aP ⟨_,_,rfl,⟨S3.kind,S3.failed,S3.size,S3.all,rfl⟩,?_,nY,by omega⟩));show Runs ((pendingOf st3).push (lo,n,0)).toList 0 (lo+n);rw[S3.pend,oJ];exact R1.app (s:=0) ko
    |some y =>
     obtain⟨s1,n1,p1⟩:=y;dsimp only;refine az (du (dr (I:=λ_ c st'=>∃pd,c=(none,())/\Safe κ g N pd st'/\Runs pd.toList 0 lo) (Q:=λc st'=>∃pd,c=(none,())/\Safe κ g N pd st'/\Runs pd.toList 0 lo) ?_ (λ_ _ z=>z) ⟨pd,rfl,S3,R1⟩) ?_)
     ·rintro _ c dc _ _ ⟨dQ,rfl,S4,R4⟩
      refine az (hX ?_);have lP:(sortPriv% PySem.Builtin.SortState.pending) dc=dQ:=S4.pend
      try dsimp only
      rw[lP]
      by_cases q4:dQ.size > 1
      ·rw[aC q4]
       obtain⟨⟨y1,y2,y3⟩,ey⟩:∃y,dQ[dQ.size - 2]?=some y:=⟨_,tU _ _ (by omega)⟩;rw[ey];dsimp only;refine eW (λ_=>aP ⟨dQ,rfl,S4,R4⟩) (λ_=>?_);refine az (Fj ok S4 R4 hlo (by omega) λqP je S5 R5 _=>?_);refine eW (λe=>by simp at e) λ_=>aP ⟨qP,rfl,S5,R5⟩
      ·rw[aq q4]
       exact aP ⟨dQ,rfl,S4,R4⟩
     ·rintro c dc ⟨dQ,rfl,S4,R4⟩
      dsimp only;refine az (jn (az (jn (aP ⟨_,_,rfl,⟨S4.kind,S4.failed,S4.size,S4.all,rfl⟩,?_,nY,by omega⟩))));show Runs (((pendingOf dc).modify ((pendingOf dc).size - 1) _).push (lo,n,0)).toList 0 (lo+n);rw[S4.pend,oJ,Array.toList_modify];refine Runs.app (s:=0) ?_ ko;refine Runs.mod _ ?_ R4;exact λx=>⟨rfl,rfl⟩
   ·have ko:1<=n:=hn1
    have nY:lo+n<=N:=by omega
    refine az (hX ?_);cases hb:((sortPriv% PySem.Builtin.SortState.pending) st3).back? with
    |none =>
     dsimp only;refine az (jn (aP ⟨_,_,rfl,⟨S3.kind,S3.failed,S3.size,S3.all,rfl⟩,?_,nY,by omega⟩));show Runs ((pendingOf st3).push (lo,n,0)).toList 0 (lo+n);rw[S3.pend,oJ];exact R1.app (s:=0) ko
    |some y =>
     obtain⟨s1,n1,p1⟩:=y;dsimp only;refine az (du (dr (I:=λ_ c st'=>∃pd,c=(none,())/\Safe κ g N pd st'/\Runs pd.toList 0 lo) (Q:=λc st'=>∃pd,c=(none,())/\Safe κ g N pd st'/\Runs pd.toList 0 lo) ?_ (λ_ _ z=>z) ⟨pd,rfl,S3,R1⟩) ?_)
     ·rintro _ c dc _ _ ⟨dQ,rfl,S4,R4⟩
      refine az (hX ?_);have lP:(sortPriv% PySem.Builtin.SortState.pending) dc=dQ:=S4.pend
      try dsimp only
      rw[lP]
      by_cases q4:dQ.size > 1
      ·rw[aC q4]
       obtain⟨⟨y1,y2,y3⟩,ey⟩:∃y,dQ[dQ.size - 2]?=some y:=⟨_,tU _ _ (by omega)⟩;rw[ey];dsimp only;refine eW (λ_=>aP ⟨dQ,rfl,S4,R4⟩) (λ_=>?_);refine az (Fj ok S4 R4 hlo (by omega) λqP je S5 R5 _=>?_);refine eW (λe=>by simp at e) λ_=>aP ⟨qP,rfl,S5,R5⟩
      ·rw[aq q4]
       exact aP ⟨dQ,rfl,S4,R4⟩
     ·rintro c dc ⟨dQ,rfl,S4,R4⟩
      dsimp only;refine az (jn (az (jn (aP ⟨_,_,rfl,⟨S4.kind,S4.failed,S4.size,S4.all,rfl⟩,?_,nY,by omega⟩))));show Runs (((pendingOf dc).modify ((pendingOf dc).size - 1) _).push (lo,n,0)).toList 0 (lo+n);rw[S4.pend,oJ,Array.toList_modify];refine Runs.app (s:=0) ?_ ko;refine Runs.mod _ ?_ R4;exact λx=>⟨rfl,rfl⟩
 case post =>
  rintro c st2 ⟨lo,pd,rfl,S2,R2,hlo⟩;dsimp only;refine az (du (dr (I:=λ_ c st'=>∃pd,c=(none,())/\Safe κ g N pd st'/\Runs pd.toList 0 lo) (Q:=λc st'=>∃pd,c=(none,())/\Safe κ g N pd st'/\Runs pd.toList 0 lo) ?_ (λ_ _ z=>z) ⟨pd,rfl,S2,R2⟩) ?_)
  ·rintro _ c dc _ _ ⟨dQ,rfl,S4,R4⟩
   refine az (hX ?_);have lP:(sortPriv% PySem.Builtin.SortState.pending) dc=dQ:=S4.pend
   try dsimp only
   rw[lP];refine eW (λ_=>aP ⟨dQ,rfl,S4,R4⟩) (λq4=>?_);refine az (Fj ok S4 R4 hlo ?_ λqP je S5 R5 _=>?_)
   ·(repeat' split)<;>omega
   ·refine eW (λe=>by simp at e) λ_=>aP ⟨qP,rfl,S5,R5⟩
  ·rintro c dc ⟨dQ,rfl,S4,R4⟩
   exact aP (h _ _ S4)
theorem XD:iL prog w A s oneType' λp=>(∃n t,p.1 = .int n t)/\∃n t,p.2 = .int n t:=by
 rintro⟨x1,x2⟩ ⟨y1,y2⟩ ⟨⟨n,t,rfl⟩,_⟩ ⟨⟨m,u,rfl⟩,_⟩;exact⟨decide (n<m),λQ h=>oneLt_int h⟩
theorem Xz {a:Addr} {vs:List Value} {ns:List Int} {n:Nat} {P:PySem.Fin->Shared->Prop} (ho:s.heap.get? a=some (seqObj "list" vs.toArray n))
  (hI:IntsAre vs ns) (h2:2<=vs.length) (hz:vs.length<=2000)
  (h:∀(out:Array Value) (ns':List Int),IntsAre out.toList ns'->ns'.length=ns.length->P (.done (.ret .none)) {s with heap:=sortedHeap s.heap a vs out}) :
  wpAny (model prog w) A (Builtin.«list.sort» ⟨[.ref a],[]⟩) P E s:=by
 rw[list_sort_plain];have ha:a<s.heap.objs.size:=a9 ho;refine ah (listItems_at ho rfl ?_);refine ah (pB ho rfl ?_);obtain⟨e1,ho1⟩:∃e1,(s.heap.update a (Obj.mapSeq λ_=>#[])).get? a=some (seqObj "list" #[] e1):=⟨_,r0 ho (λ_=>#[])⟩;refine ah (seqEpoch_at ho1 rfl ?_);refine ah (xV ?_);refine ah (pG ?_);refine iQ ?_;have ho6:(((s.heap.update a (Obj.mapSeq λ_=>#[])).push (seqObj "tuple" vs.toArray 0)).push (seqObj "list" #[] 0)).get? a=some (seqObj "list" #[] e1):=
  aU _ (aU _ ho1)
 show wpAny (model prog w) A _ P E {s with heap:=((s.heap.update a (Obj.mapSeq λ_=>#[])).push (seqObj "tuple" vs.toArray 0)).push (seqObj "list" #[] 0)};dsimp only;have hsz:¬ vs.toArray.size<2:=by simp;omega
 rw[aq hsz,aq hsz];obtain⟨v₁,v₂,rest,rfl⟩:∃v₁ v₂ rest,vs=v₁::v₂::rest:=by
  match vs,h2 with
  |v₁::v₂::rest,_=>exact⟨v₁,v₂,rest,rfl⟩
 rw[keyKind_ints hI];refine ah (aK ?_);refine ah (h6 (abH (N:=(v₁::v₂::rest).length) (st:=SortSt.mk' oneType' ((v₁::v₂::rest).toArray.zip (v₁::v₂::rest).toArray) #[] 7 none)
  (Q:=λ_ st'=>∃pd,Safe oneType' (λp=>(∃n t,p.1 = .int n t)/\∃n t,p.2 = .int n t) (v₁::v₂::rest).length pd st') XD
  ⟨rfl,rfl,pairsOf_size _,λp hp=>?_,rfl⟩ λpd st' z=>⟨pd,z⟩) ?_ λ_ _ e=>e)
 ·have hp2:p∈pairsOf (v₁::v₂::rest):=hp
  have hp':p∈(pairsOf (v₁::v₂::rest)).toList:=Array.mem_toList_iff.mpr hp2;rw[pairsOf_toList]at hp';have:=mem_zip_self hp';exact⟨hI.all _ this.2,this.1▸hI.all _ this.2⟩
 ·rintro⟨⟨⟩,st'⟩ s' ⟨rfl,pd,S⟩
  dsimp only;refine ah (seqEpoch_at ho6 rfl ?_);refine ah (pB ho6 rfl ?_ (hsz2:=by refine di (rV ((Fn ..).trans S.size)) ?_;rw[sizeLine_eq];omega));rw[S.failed];simp only[bne_self_eq_false,k0,jH];have hall:=intsAre_map ((arrOf st').map (·.2)).toList (by
   intro v hv;simp only[Array.toList_map,cu]at hv;obtain⟨p,hp,rfl⟩:=hv;exact(S.all p (by simpa using hp)).2)
  refine aK (h _ _ hall ?_);rw[aG,gw,Fn,S.size,hI.length]
theorem Xy {a:Addr} {vs:List Value} {ns:List Int} {n:Nat} {P:PySem.Fin->Shared->Prop} (ho:s.heap.get? a=some (seqObj "list" vs.toArray n))
  (hI:IntsAre vs ns) (hz:vs.length<=2000)
  (h:∀(out:Array Value) (ns':List Int),IntsAre out.toList ns'->ns'.length=ns.length->(ns.length<64->ns'.Perm ns/\ns'.Pairwise (·<=·))->P (.done (.ret .none)) {s with heap:=sortedHeap s.heap a vs out}) :
  wpAny (model prog w) A (Builtin.«list.sort» ⟨[.ref a],[]⟩) P E s:=by
 have hl:=hI.length
 by_cases h64:vs.length<64
 ·exact list_sort_tree ho hI h64 λout ns' x1 x2 x3=>h out ns' x1 x2.length_eq λ_=>⟨x2,x3⟩
 ·exact Xz ho hI (by omega) hz λout ns' x1 x2=>h out ns' x1 x2 λz=>absurd z (by omega)
end
theorem HN:bootBuiltins "set" = some (.type "set"):=by decide +kernel
theorem HF:bootBuiltins "sorted" = some (.builtin "sorted"):=by decide +kernel
noncomputable def lz(P:Program)(w:World)(p:Addr)(ks:List Int):HO:=.ext λh=>d9 P w h p ks
theorem aaF{P:Program}{w:World}{H:Hp}{h:Heap}{p:Addr}{ks:List Int}(hG:d9 P w h p ks):bQ P w H h p (lz P w p ks):=
 ⟨hG,let⟨o,_,_,_,e,_⟩:=hG;⟨o,e⟩,λh1 h2 g k=>g.moved λo e=>k o e⟩
theorem ZX{ks:List Int}{k x:Int}:x∈jP ks k ↔ x∈ks\/x=k:=by
 unfold jP
 split
 ·rename_i h
  exact⟨.inl,λz=>z.elim id λe=>e▸h⟩
 ·simp
theorem Ly(val:Nat->Int){x:Int}:∀i,x∈numsTo val i ↔ ∃j,j<i/\val j=x
 |0=>by simp[numsTo]
 |i+1=>by
  rw[numsTo_succ,ZX,Ly val i]
  constructor
  ·rintro(⟨j,h1,h2⟩|h)
   ·exact⟨j,by omega,h2⟩
   ·exact⟨i,by omega,h.symm⟩
  ·rintro⟨j,h1,h2⟩
   by_cases e:j=i
   ·exact .inr (by rw[<- h2,e])
   ·exact .inl ⟨j,by omega,h2⟩
section
variable {X:Cx} {K:W.Frag}
theorem Inv.TF{pins:List (Addr × Obj)}{σ:St}{H:Hp}{s:Shared}{d':Drawn}(I:Inv X pins σ H s):Inv X pins σ H {s with drawn:=d'}:=
 ⟨I.ok,I.os,I.bare,I.base,I.loc,I.cell,I.free,I.e9,I.pin,I.hok,I.len⟩
noncomputable def Z'(X:Cx)(K:W.Frag):List V->Hp->VK->Prop:=λxs H Q=>∃(l:Addr) (ns:List Int),xs = [.ref l]/\ai K H l (ns.map V.int)/\ns.length<=1000/\∀p ks,H p=none->ks.Nodup->(∀k,k∈ks ↔ k∈ns)->Q (.ref p) (upd H p (lz X.prog X.w p ks))
theorem HS (h:X.K=K) (hr:bK 0 X.A):d5 X (.type "set") (Z' X K):=by
 subst h;intro pins s σ H vs us Q I rv h;obtain⟨l,ns,rfl,hl,hz,q⟩:=h;obtain⟨u,rfl,ru⟩:=rv.one;cases ru;obtain⟨its,r,pl,_⟩:=I.list hl;have hI:=Az r;have hlen:its.length=ns.length:=by rw[<- r.length,aG]
 refine aaC hr.hd pl.isList (by simpa using hI) (by rw[cw,hlen];show ns.length+1<4096;omega) λh' tk hG hk=>?_;have kept:∀b o,s.heap.get? b=some o->h'.get? b=some o:=λb o e=>hk b o (a9 e) e;refine⟨.ref s.heap.objs.size,_,I.laid (o:=lz X.prog X.w s.heap.objs.size _) kept (aY _) (aaF hG),rfl,q _ _ I.fresh ?_ λk=>?_⟩
 ·obtain⟨_,_,_,_,_,_,_,H⟩:=hG
  exact H.nd
 ·rw[Ly,cw,hlen]
  constructor
  ·rintro⟨j,h1,h2⟩
   rw[<- h2,bh,aI h1];exact mL h1
  ·intro hk
   obtain⟨j,h1,h2⟩:=k8 hk;exact⟨j,h1,by rw[bh,aI h1];exact h2⟩
noncomputable def aac(X:Cx):List V->Hp->VK->Prop:=λxs H Q=>∃(a:Addr) (ks:List Int),xs = [.ref a]/\H a=some (lz X.prog X.w a ks)/\ks.length<=1000/\∀(p:Addr) (ms:List Int),H p=none->ms.length=ks.length->(ks.length<64->ms.Perm ks/\ms.Pairwise (·<=·))->Q (.ref p) (upd H p (.lst (ms.map V.int)))
theorem aaQ {h:Heap} {a:Addr} {vs:List Value} {out:Array Value} {n:Nat} (e:h.get? a=some (seqObj "list" vs.toArray n)):(∃c,(sortedHeap h a vs out).get? a=some (seqObj "list" out c))/\∀b o,b≠a->h.get? b=some o->(sortedHeap h a vs out).get? b=some o:=by
 unfold sortedHeap;obtain⟨e1,h1⟩:∃e1,(h.update a (Obj.mapSeq λ_=>(#[]:Array Value))).get? a=some (seqObj "list" #[] e1):=⟨_,r0 e λ_=>#[]⟩;refine⟨⟨_,r0 (aU _ (aU _ h1)) λ_=>out⟩,λb o hb q=>?_⟩;rw[pD _ _ _ _ hb];refine aU _ (aU _ ?_);rw[pD _ _ _ _ hb];exact q
theorem HW (hr:bK 0 X.A):d5 X (.builtin "sorted") (aac X):=by
 intro pins s σ H vs us Q I rv h;obtain⟨a,ks,rfl,ha,hz,q⟩:=h;obtain⟨u,rfl,ru⟩:=rv.one;cases ru;have hG:d9 X.prog X.w s.heap a ks:=(show bQ X.prog X.w H s.heap a (lz X.prog X.w a ks)from I.hok a _ ha).1;refine call_function_entry_kw kind_sorted plain_sorted entry_sorted (args_sorted1 (.ref a)) ?_;unfold Builtin.«sorted»;refine ah (m:=checkCount "sorted" 1 1 _) (aK (ah (Tn (A:=X.A.in1) hr.hd hG (by omega) λvs ns h1 d1 tk hI hp k1 _=>ah (pG ?_ ?_))))
 ·have I1:Inv X pins σ H {s with heap:=h1,drawn:=d1,toks:=tk}:=(I.kept (t':=tk) k1).TF
  have ea:(h1.push {cls:=.type "list", data:=.seq vs.toArray}).get? h1.objs.size=some (seqObj "list" vs.toArray 0):=bJ _ rfl;refine ah (iQ (wpAny_call_entry_kw slot_list_sort ⟨_,ea,rfl⟩ entry_list_sort ?_ (args_list_sort _)));show wpAny (model X.prog X.w) X.A.in1.in1 (Builtin.«list.sort» ⟨[.ref h1.objs.size],[]⟩) _ _ _;have hvl:vs.length<=1000:=by rw[hI.length,hp.length_eq];exact hz
  refine Xy (s:={s with heap:=h1.push {cls:=.type "list", data:=.seq vs.toArray},drawn:=d1,toks:=tk}) (vs:=vs) (n:=0) ea hI (di hvl (by decide)) λout ns' hI' hp' hs'=>?_;obtain⟨⟨c,g1⟩,g2⟩:=aaQ (out:=out) ea;have hol:out.toList.length<=sizeLine:=by rw[hI'.length,hp',<- hI.length];exact gG (jR (by omega))
  have I5:Inv X pins σ (upd H h1.objs.size (.lst (ns'.map V.int))) {s with heap:=sortedHeap (h1.push {cls:=.type "list", data:=.seq vs.toArray}) h1.objs.size vs out,drawn:=d1,toks:=tk}:=by
   refine I1.laid (t':=tk) (λb o e=>?_) (aY _) ⟨by rw[aG,<- hI'.length];exact hol,out.toList,c,Fg hI',by simpa using g1⟩;exact g2 b o (bI (a9 e)) (aU _ e)
  exact⟨_,rfl,aK ⟨_,rfl,.ref h1.objs.size,_,I5,rfl,q _ ns' I1.fresh (hp'.trans hp.length_eq) λz=>⟨(hs' (by rw[hp.length_eq];exact z)).1.trans hp,(hs' (by rw[hp.length_eq];exact z)).2⟩⟩⟩
 ·rw[hI.length,hp.length_eq]
  exact gG (jR (by omega))
end
end L2
namespace My
open PySem PySem.Spec PyProof.Rows L2
structure Fam (F:List Nat):Prop where
 nd:F.Nodup
 meet:∀x∈F,∀y∈F,x&&& y∈F
 top:∃t∈F,∀x∈F,Ev.Sub x t
theorem Fam.lat{F:List Nat}(h:Fam F)(hl:F.length<=24):Ev.fy F:=⟨h.nd,hl,h.meet,h.top⟩
theorem R7(x y m:Nat):(x&&& m)&&& (y&&& m)=(x&&& y)&&& m:=by
 apply Gr
 intro i;simp only[GF];cases x.testBit i<;>cases y.testBit i<;>cases m.testBit i<;>rfl
theorem R8(x y m:Nat):(x&&& m)&&& y=(x&&& y)&&& m:=by
 apply Gr
 intro i;simp only[GF];cases x.testBit i<;>cases y.testBit i<;>cases m.testBit i<;>rfl
theorem Fam.more{F G:List Nat}(h:Fam F)(m:Nat)(nd:G.Nodup)(hG:∀z,z∈G ↔ z∈F\/∃x∈F,z=x&&& m):Fam G:=by
 obtain⟨t,ht,htop⟩:=h.top;refine⟨nd,λx hx y hy=>?_,t,(hG t).mpr (.inl ht),λx hx=>?_⟩
 ·rw[hG]at hx hy ⊢
  rcases hx with hx|⟨a,ha,rfl⟩<;>rcases hy with hy|⟨b,hb,rfl⟩
  ·exact .inl (h.meet x hx y hy)
  ·exact .inr ⟨x&&& b,h.meet x hx b hb,by rw[pe]⟩
  ·exact .inr ⟨a&&& y,h.meet a ha y hy,R8 a y m⟩
  ·exact .inr ⟨a&&& b,h.meet a ha b hb,R7 a b m⟩
 ·rw[hG]at hx
  rcases hx with hx|⟨a,ha,rfl⟩
  ·exact htop x hx
  ·exact(Ev.Sub.and_left a m).trans (htop a ha)
theorem X_{ms:List Int}(h:∀k∈ms,0<=k):∃G:List Nat,ms=G.map λx:Nat=>(x:Int):=by
 refine⟨ms.map Int.toNat,?_⟩;rw[d6];have:ms=ms.map id:=(List.map_id ms).symm
 conv=>lhs;rw[this]
 exact gZ λk hk=>(Int.toNat_of_nonneg (h k hk)).symm
theorem Bv:∀{l1 l2:List Int},l1.Nodup->(∀x∈l1,x∈l2)->l1.length<=l2.length
 | [],_,_,_=>cW _
 |x::r,l2,nd,h=>by
  have nd':=fS.mp nd;have h1:=h x cC;have h2:=Bv (l1:=r) (l2:=l2.erase x) nd'.2 (λy hy=>(List.mem_erase_of_ne (λ(e:y=x)=>nd'.1 (e▸hy))).mpr (h y (bT _ hy)));rw[List.length_erase_of_mem h1]at h2;have h3:=rT h1;rw[fz];omega
noncomputable def ig(G:List Nat)(m:Nat):List Int:=(G++G.map λx=>x&&& m).map λx:Nat=>(x:Int)
theorem sU(G:List Nat)(m:Nat):(ig G m).length=2*G.length:=by simp[ig];omega
theorem Ij(G:List Nat)(m:Nat):G.map nV++(List.range (G.map nV).length).map (λj=>nV (G.getD j 0&&& m))=(ig G m).map V.int:=by
 unfold ig;rw[d6,iJ]
 congr 1
 rw[d6,aG];apply j4
 ·simp
 ·intro i h1 h2
  simp only[aG,dh]at h1;simp[bh,aI h1]
theorem Fam.grown{G:List Nat}(h:Fam G){m:Nat}{ks ms:List Int}(nd:ks.Nodup)(hk:∀k,k∈ks ↔ k∈ig G m)(hp:ms.Perm ks):∃G':List Nat,ms.map V.int=G'.map nV/\Fam G'/\G'.length=ms.length/\∀x∈G',x∈G\/∃y∈G,x=y&&& m:=by
 have hm:∀k,k∈ms ↔ k∈ig G m:=λk=>hp.mem_iff.trans (hk k);obtain⟨G',rfl⟩:=X_ (ms:=ms) λk hk'=>by
  obtain⟨x,_,rfl⟩:=cu.mp ((hm k).mp hk');omega
 have nd':G'.Nodup:=by
  have:=hp.nodup_iff.mpr nd;exact List.Pairwise.imp (λhne e=>hne (by rw[e])) (jk.mp this)
 have hG:∀z,z∈G' ↔ z∈G\/∃x∈G,z=x&&& m:=λz=>by
  have:=hm (z:Int);unfold ig at this;have inj:∀l:List Nat,(z:Int)∈l.map (λx:Nat=>(x:Int)) ↔ z∈l:=λl=>by
   rw[cu];exact⟨λ⟨x,h1,h2⟩=>by rw[<- FH.mp h2];exact h1,λh=>⟨z,h,rfl⟩⟩
  rw[inj,inj,iK,cu]at this;rw[this];exact or_congr Iff.rfl ⟨λ⟨x,h1,h2⟩=>⟨x,h1,h2.symm⟩,λ⟨x,h1,h2⟩=>⟨x,h1,h2.symm⟩⟩
 exact⟨G',by rw[d6];rfl,h.more m nd' hG,by simp,λx hx=>(hG x).mp hx⟩
theorem Same.none{H H':Hp}{a:Addr}(s:Same H H')(h:H' a = .none):H a = .none:=by
 cases e:H a with
 |none=>rfl
 |some o=>rw[s a o e]at h;cases h
theorem i_{M:List Nat}{a:Nat}(h:a<M.length):(M.map nV)[a]?=some (nV (M.getD a 0)):=by
 rw[cT,aI h,bh,aI h];rfl
section
variable {P:Program} {w:World} {K:W.Frag} {mg:Str->Option Value} {base:Heap} {f:Addr} {fd:FuncData}
abbrev vD:Stmt:=top 53
theorem O2:aZ ["_law_numbers","_law_wide","_law_most","_law_found","_law_number","_law_mask","_law_grown"] ["_law_numbers","_law_wide","_law_most"] (aE vD):=⟨rfl,rfl,rfl,by decide +kernel,rfl,by decide +kernel,by decide +kernel⟩
noncomputable def wg(K:W.Frag):Sp:=λvs H Q _=>∃(l wd most:Nat) (ns:List Int),vs = [.ref l,.int wd,.int most]/\ai K H l (ns.map V.int)/\(∀x∈ns,0<=x)/\wd<=8/\1<=most/\most<=24 /\
 ∀L F H',Same H H'->H L=none->H' L=some (.lst (F.map nV))->Fam F->F.length<=most->(∀x∈F,x<2 ^ wd)->Q (.ref L) H'
theorem YW (F:aV K "_law_masks" "_law_masks" vD f fd) (T:Txt mg) (nQ:mg "set" = none):aN P w K mg base aS 1 f fd ["_law_numbers","_law_wide","_law_most"] (wg K):=by
 refine F.ok O2 (λvs H Q E h=>?_) (λcdv A outer s H vs Q E hr h=>?_)
 ·obtain⟨l,wd,most,ns,rfl,_⟩:=h
  rfl
 ·obtain⟨l,wd,most,ns,rfl,hl,hns,um,hm1,hm2,kk⟩:=h
  have nd:=O2.nd;have hr0:=hr.mono (cW 0);refine⟨_,(au (aQ (i:=3) nd rfl (Or.inl rfl) (dY (ae (aB qN (aB iz ak (pv 1)) ak) ag)))
   (au (cn b_ rfl (eU (K:=K) rfl (pv 0)) (aW (i:=4) nd rfl (Or.inl rfl))
   (au (aQ (i:=5) nd rfl (Or.inr rfl) (aB cR (pv 4) (aB iz ak (pv 1))))
   (au (aQ (i:=6) nd rfl (Or.inl rfl) (cA (HW hr0) rfl T.sorted HF (ae (jd (HS (K:=K) rfl hr0) rfl nQ HN (ae (aB jK (pv 3) (cS (own:=["_law_one"]) (fr:=[("_law_mask", 5)]) rfl (bX (aE vD) ["_law_numbers","_law_wide","_law_most","_law_found","_law_number","_law_mask","_law_grown"] rfl rfl (by decide +kernel)) (eU (K:=K) rfl (pv 3)) (λ_ _ _ _=>⟨(aW (i:=0) (by decide +kernel:(["_law_one","_law_mask"]:List Str).Nodup) rfl (Or.inl rfl)),da,(aB kC (pv 0) (pv 1))⟩))) ag)) ag)))
   (ax (bU (bV uQ (cA (dw (K:=K) rfl) rfl T.len dF (ae (pv 6) ag)) (pv 2) (bN _)) (ax (aQ (i:=3) nd rfl (Or.inl rfl) (pv 6))) cq)))))
   (ax (aX (pv 3))))),?_⟩
  have ew:((1:Int)*2 ^ ((wd:Int)).toNat)=((2 ^ wd:Nat):Int):=by rw[bu,mH];norm_cast
  have hp0:0<2 ^ wd:=xF wd;have cp:rO 1 (wd:Int):=⟨by omega,by omega,by decide⟩;refine⟨_,rfl,_,_,rfl,rfl,cp,_,_,rfl,rfl,by show 1<=sizeLine;decide,λL hL=>?_⟩;have e1:((1:Int)*2 ^ ((wd:Int)).toNat) - 1=((2 ^ wd - 1:Nat):Int):=by rw[ew];omega
  have eL:HO.lst [V.int ((1:Int)*2 ^ ((wd:Int)).toNat - 1)] = .lst ([2 ^ wd - 1].map nV):=by rw[e1];rfl
  refine⟨_,rfl,l,rfl,⟨_,(Same.put hL).seq hl⟩,iS (K:=K) (a:=l) (xs:=ns.map V.int) (λi σ H2=>∃(v4 v5 v6:Option V) (L2:Addr) (G:List Nat),σ = [some (.ref l),some (.int wd),some (.int most),some (.ref L2),v4,v5,v6]/\Same H H2/\H L2=none/\H2 L2=some (.lst (G.map nV))/\Fam G/\G.length<=most/\∀x∈G,x<2 ^ wd)
   ⟨none,none,none,L,[2 ^ wd - 1],rfl,Same.put hL,hL,aA.trans (congrArg some eL),⟨by simp,by simp,_,j6.mpr rfl,by simp[Ev.Sub]⟩,hm1,by simp;omega⟩ (λi σ H2 _ ⟨_,_,_,_,_,_,s2,_⟩=>s2.seq hl) ?_ ?_⟩
  ·rintro i x σ H2 hx ⟨v4,v5,v6,L2,G,rfl,s2,hn2,hL2,hG,zV,lJ⟩
   obtain⟨z,hz,rfl⟩:=cu.mp (cV hx);have hz0:=hns z hz;obtain⟨m,hm⟩:∃m:Nat,z % ((1:Int)*2 ^ ((wd:Int)).toNat)=(m:Int):=⟨(z % ((1:Int)*2 ^ ((wd:Int)).toNat)).toNat,(Int.toNat_of_nonneg (oR _ (by rw[ew];omega))).symm⟩;refine⟨_,rfl,_,rfl,_,_,rfl,rfl,cp,_,_,rfl,rfl,by rw[ew];omega,?_⟩;dsimp only;rw[hm];refine⟨_,rfl,_,rfl,L2,rfl,⟨_,ai.of hL2⟩,λD hD=>fE (λj=>nV (G.getD j 0&&& m)) (src_list (ai.of hL2)) hD (cH (by rw[aG];omega)) (λj H3 Kt hj hs kt=>?_) (λH3 hs3 hl3=>?_)⟩
   ·rw[aG]at hj
    refine⟨_,rfl,_,rfl,_,_,by rw[bh,i_ hj];rfl,rfl,?_⟩;dsimp only;rw[lB];exact kt _ (Same.refl _)
   ·have hLD:D≠L2:=λe=>by rw[e,hL2]at hD;cases hD
    refine⟨L2,D,_,_,rfl,rfl,hs3 _ _ hL2,hl3,gG (jR (by simp;omega)),λp hp=>?_⟩;rw[Ij];have s4:=Same.put (o:=.lst ((ig G m).map V.int)) hp;refine⟨p,ig G m,rfl,ai.of aA,by rw[sU];omega,λq ks hq hnd hks=>?_⟩;have hkl:ks.length<=2*G.length:=by
     rw[<- sU G m];exact Bv hnd λk hk=>(hks k).mp hk
    refine⟨q,ks,rfl,aA,by omega,λr ms hr _ hms=>?_⟩;obtain⟨hmp,_⟩:=hms (by omega);obtain⟨G',eG,hG',zU,Vc⟩:=hG.grown hnd hks hmp;rw[eG];have s5:=Same.put (o:=lz P w q ks) hq;have s6:=Same.put (o:=.lst (G'.map nV)) hr;have sA:=((s2.trans hs3).trans s4).trans (s5.trans s6);have hr0:H r=none:=Same.none (((s2.trans hs3).trans s4).trans s5) hr;refine⟨_,rfl,r,_,rfl,.inl (ai.of aA),_,rfl,_,_,rfl,rfl,_,rfl,bM (λh=>?_) (λh=>?_)⟩
    ·refine⟨_,rfl,_,_,_,r,G',rfl,sA,hr0,aA,hG',?_,λx hx=>?_⟩
     ·have:=oo h
      rw[aG]at this;omega
     ·rcases Vc x hx with h1|⟨y,hy,rfl⟩
      ·exact lJ x h1
      ·exact rW Nat.and_le_left (lJ y hy)
    ·exact⟨_,_,_,L2,G,rfl,sA,hn2,(hs3.trans (s4.trans (s5.trans s6))) _ _ hL2,hG,zV,lJ⟩
  ·rintro σ H2 ⟨v4,v5,v6,L2,G,rfl,s2,hn2,hL2,hG,zV,lJ⟩
   exact⟨_,rfl,kk L2 G H2 s2 hn2 hL2 hG zV lJ⟩
end
noncomputable def d_(p:Nat->Bool):Nat->Nat
 |0=>0
 |j+1=>if p j=true then d_ p j ||| 2 ^ j else d_ p j
theorem sE(p:Nat->Bool):∀j t,(d_ p j).testBit t=(decide (t<j)&&p t)
 |0,t=>by simp[d_]
 |j+1,t=>by
  unfold d_
  by_cases h:p j=true
  ·rw[aC h,Nat.testBit_or,sE p j t,Nat.testBit_two_pow]
   by_cases e:j=t
   ·subst e;simp[h]
   ·have:(t<j+1) ↔ t<j:=by omega
    simp[e,this]
  ·rw[aq h,sE p j t]
   by_cases e:t=j
   ·subst e
    have:p t=false:=by simpa using h
    simp[this]
   ·have:(t<j+1) ↔ t<j:=by omega
    simp[this]
theorem Ss(p:Nat->Bool)(j:Nat):d_ p j<2 ^ j:=by
 apply Nat.lt_pow_two_of_testBit
 intro i hi;rw[sE];have:¬ i<j:=by omega
 simp[this]
structure gJ (n:Nat) (R:Nat->Nat->Bool) (us:List Nat):Prop where
 len:us.length=n
 bit:∀a b,a<n->b<n->(us.getD a 0).testBit b=R a b
 lt:∀a,a<n->us.getD a 0<2 ^ n
theorem gJ.of(n:Nat)(R:Nat->Nat->Bool):gJ n R ((List.range n).map λa=>d_ (R a) n):=by
 have g:∀a,a<n->((List.range n).map λa=>d_ (R a) n).getD a 0=d_ (R a) n:=λa ha=>by
  rw[bh,cT,ji ha];rfl
 refine⟨by simp,λa b ha hb=>?_,λa ha=>?_⟩
 ·rw[g a ha,sE];simp[hb]
 ·rw[g a ha];exact Ss _ _
theorem yh(x b:Nat):decide (V.int (Builtin.bitAnd ((x:Int) / 2 ^ (0+(b:Int)).toNat) 1)=V.int 1)=x.testBit b:=by
 have e1:((x:Int) / 2 ^ (0+(b:Int)).toNat)=((x / 2 ^ b:Nat):Int):=by
  rw[dg,bu];push_cast;rfl
 rw[e1,show(1:Int)=((1:Nat):Int)from rfl,lB,Nat.and_one_is_mod,Rv]
 congr 1
 apply propext
 constructor
 ·intro h
  have:((x / 2 ^ b % 2:Nat):Int)=((1:Nat):Int):=by injection h
  omega
 ·intro h
  rw[h]
theorem Sr(x b:Nat):decide (V.int (Builtin.bitAnd ((x:Int) / 2 ^ ((b:Int)).toNat) 1)=V.int 1)=x.testBit b:=by
 rw[<- yh x b,dg]
theorem eK{ns:List Int}{i:Nat}(h:i<ns.length):(ns.map V.int)[i]?=some (.int (ns.getD i 0)):=by
 rw[cT,aI h,bh,aI h];rfl
theorem f6(x:Int)(k:Nat)(hk:0<k):∃r:Nat,r<k/\x % (k:Int)=(r:Int):=
 ⟨(x % (k:Int)).toNat,by have h1:=oR x (show(k:Int)≠0 by omega);have h2:=w6 x (show(0:Int)<k by omega);omega,by have h1:=oR x (show(k:Int)≠0 by omega);omega⟩
theorem uv{α:Type}(xs:List α)(r:Nat)(y:α):(xs.take r++y::xs.drop r).Perm (y::xs):=by
 have:=List.perm_middle (a:=y) (l₁:=xs.take r) (l₂:=xs.drop r);rw[Ro]at this;exact this
section
variable {P:Program} {w:World} {K:W.Frag} {mg:Str->Option Value} {base:Heap} {f:Addr} {fd:FuncData}
abbrev Dm:Stmt:=top 57
theorem O8:aZ ["_law_family_here","_law_numbers","_law_turn","_law_k","_law_found","_law_one","_law_bits"] ["_law_family_here","_law_numbers"] (aE Dm):=⟨rfl,rfl,rfl,by decide +kernel,rfl,by decide +kernel,by decide +kernel⟩
noncomputable def El(K:W.Frag):Sp:=λvs H Q _=>∃(u d:Nat) (F:List Nat) (ns:List Int),vs = [.ref u,.ref d]/\ai K H u (F.map nV)/\ai K H d (ns.map V.int)/\F.length<=ns.length/\F.length<=24 /\
 ∀L us M H',Same H H'->H L=none->H' L=some (.lst (us.map nV))->M.Perm F->gJ M.length (Ev.a8 M) us->Q (.ref L) H'
theorem Y9 (F:aV K "_law_ups" "_law_ups" Dm f fd) (T:Txt mg):aN P w K mg base aS 1 f fd ["_law_family_here","_law_numbers"] (El K):=by
 refine F.ok O8 (λvs H Q E h=>?_) (λcdv A outer s H vs Q E hr h=>?_)
 ·obtain⟨u,d,F,ns,rfl,_⟩:=h
  rfl
 ·obtain⟨u,d,F,ns,rfl,hu,hd,hl,hn,kk⟩:=h
  have nd:=O8.nd;refine⟨_,(au (aQ (i:=2) nd rfl (Or.inl rfl) (dY ag))
   (au (cn b_ rfl (bY rfl T.range (ae (cA (dw (K:=K) rfl) rfl T.len dF (ae (pv 0) ag)) ag)) (aW (i:=3) nd rfl (Or.inl rfl))
   (ax (cG (fM (K:=K) rfl gH xI GZ Bq (pv 2) (ae (aB cR (ay (bE (K:=K) rfl) (pv 1) (pv 3) (λ_ _=>rfl)) (aB cY (pv 3) ak)) (ae (ay (bE (K:=K) rfl) (pv 0) (pv 3) (λ_ _=>rfl)) ag))))))
   (au (aQ (i:=4) nd rfl (Or.inl rfl) (dY ag))
   (au (cn b_ rfl (eU (K:=K) rfl (pv 2)) (aW (i:=5) nd rfl (Or.inl rfl))
   (au (aQ (i:=6) nd rfl (Or.inl rfl) ak)
   (au (cn b_ rfl (bY rfl T.range (ae (cA (dw (K:=K) rfl) rfl T.len dF (ae (pv 2) ag)) ag)) (aW (i:=3) nd rfl (Or.inl rfl))
   (ax (bU (bV fh (aB kC (ay (bE (K:=K) rfl) (pv 2) (pv 3) (λ_ _=>rfl)) (pv 5)) (pv 5) (bN _)) (ax (aQ (i:=6) nd rfl (Or.inl rfl) (aB Bz (pv 6) (aB iz ak (pv 3))))) cq)))
   (ax (cG (fM (K:=K) rfl gH mS pC lV (pv 4) (ae (pv 6) ag)))))))
   (ax (aX (pv 4))))))),?_⟩
  have en:(((F.map nV).length:Int)).toNat=F.length:=by rw[bu,aG]
  refine⟨by show 0<=sizeLine;decide,λL hL=>?_⟩;refine⟨_,rfl,u,_,rfl,.inl ((Same.put hL).seq hu),_,rfl,by rw[aG];exact(a_ (by omega)).1,by rw[aG];exact(a_ (by omega)).2,eu (lo:=0) (n:=(((F.map nV).length:Int)).toNat) (λi σ H2=>∃(v3:Option V) (G:List Nat),σ = [some (.ref u),some (.ref d),some (.ref L),v3,none,none,none]/\Same H H2/\H2 L=some (.lst (G.map nV))/\G.Perm (F.take i)) ⟨none,[],rfl,Same.put hL,aA,by simp⟩ ?_ ?_⟩
  ·rintro i σ H2 hi ⟨v3,G,rfl,s2,hl2,hG⟩
   rw[en]at hi;obtain⟨r,hr,er⟩:=f6 (ns.getD i 0) (i+1) (by omega);have Ua:ns.getD i 0 % (0+(i:Int)+1)=(r:Int):=by rw[<- er];push_cast;rw[dg]
   have zU:G.length=i:=by rw[hG.length_eq,j5];omega
   refine⟨_,rfl,.inl ⟨rfl,_,ai.of hl2⟩,_,rfl,_,rfl,d,_,_,_,rfl,rfl,s2.seq hd,at0 (eK (i:=i) (by omega)),_,rfl,_,_,rfl,rfl,_,_,rfl,rfl,by omega,_,rfl,_,rfl,u,_,_,_,rfl,rfl,s2.seq hu,at0 (i_ hi),L,_,r,_,rfl,by dsimp only;rw[Ua],hl2,by rw[aG];omega,jR (by rw[aG];omega),?_⟩;refine⟨_,G.take r++F.getD i 0::G.drop r,rfl,λb o e=>?_,by rw[aA,iJ,cE,FZ,xk],?_⟩
   ·rw[aJ (bO e hL)]
    exact s2 _ _ e
   ·rw[Rp hi]
    refine(uv G r _).trans ?_;rw[bh,aI hi];refine List.Perm.trans (List.Perm.cons _ hG) ?_;exact(Gf _ _).symm
  ·rintro σ H2 ⟨v3,M,rfl,s2,hl2,hM⟩
   rw[en,mN]at hM;have hMl:M.length<=24:=by rw[hM.length_eq];exact hn
   have em:(((M.map nV).length:Int)).toNat=M.length:=by rw[bu,aG]
   refine⟨by show 0<=sizeLine;decide,λL2 hL2=>?_⟩;refine⟨_,rfl,L,rfl,⟨_,(Same.put hL2).seq (ai.of hl2)⟩,iS (K:=K) (a:=L) (xs:=M.map nV) (λi σ H3=>∃(v3 v5 v6:Option V),σ = [some (.ref u),some (.ref d),some (.ref L),v3,some (.ref L2),v5,v6]/\Same H2 H3/\H3 L2=some (.lst (((List.range i).map λa=>d_ (Ev.a8 M a) M.length).map nV))) ⟨_,none,none,rfl,Same.put hL2,aA⟩ (λi σ H3 _ ⟨_,_,_,_,s3,_⟩=>s3.seq (ai.of hl2)) ?_ ?_⟩
   ·rintro i x σ H3 hx ⟨v3,v5,v6,rfl,s3,hl3⟩
    have hi:i<M.length:=by have:=(bD.mp hx).1;rwa [aG]at this
    have ex:x=nV (M.getD i 0):=by rw[i_ hi]at hx;exact(dW hx).symm
    subst ex;have eM:=s3.seq (ai.of (K:=K) hl2);refine⟨_,rfl,L,_,rfl,.inl eM,_,rfl,by rw[aG];exact(a_ (by omega)).1,by rw[aG];exact(a_ (by omega)).2,eu (lo:=0) (n:=(((M.map nV).length:Int)).toNat) (λj σ H4=>H4=H3/\∃v3:Option V,σ = [some (.ref u),some (.ref d),some (.ref L),v3,some (.ref L2),some (nV (M.getD i 0)),some (nV (d_ (Ev.a8 M i) j))]) ⟨rfl,v3,rfl⟩ ?_ ?_⟩
    ·rintro j σ H4 hj ⟨rfl,v3,rfl⟩
     rw[em]at hj;refine⟨_,rfl,_,rfl,L,_,_,_,rfl,rfl,eM,at0 (i_ hj),_,rfl,_,_,rfl,rfl,_,rfl,rfl,_,rfl,?_⟩;have ea:decide (V.int (Builtin.bitAnd ((M.getD j 0:Nat):Int) ((M.getD i 0:Nat):Int))=nV (M.getD i 0))=Ev.a8 M i j:=by
      rw[lB,Ev.a8,Gj]
      congr 1
      apply propext
      exact⟨λh=>FH.mp (V.int.inj h),λh=>by rw[show M.getD i 0&&& M.getD j 0=M.getD i 0 from h]⟩
     refine bM (λh=>?_) (λh=>?_)
     ·have hle:Ev.a8 M i j=true:=ea▸h
      have eo:Builtin.bitOr ((d_ (Ev.a8 M i) j:Nat):Int) (1*2 ^ ((0:Int)+(j:Int)).toNat)=((d_ (Ev.a8 M i) (j+1):Nat):Int):=by
       rw[show d_ (Ev.a8 M i) (j+1)=d_ (Ev.a8 M i) j ||| 2 ^ j by show(if _ then _ else _)=_;rw[aC hle],dg,bu,mH,show(2:Int) ^ j=((2 ^ j:Nat):Int)by norm_cast,BG]
      refine⟨_,rfl,_,rfl,_,_,rfl,rfl,⟨by omega,by omega,by decide⟩,_,_,rfl,rfl,rfl,some (.int (0+(j:Int))),?_⟩;dsimp only;rw[eo];rfl
     ·have hle:¬ Ev.a8 M i j=true:=λz=>by rw[ea,z]at h;exact h rfl
      refine⟨rfl,some (.int (0+(j:Int))),?_⟩;rw[show d_ (Ev.a8 M i) (j+1)=d_ (Ev.a8 M i) j by show(if _ then _ else _)=_;rw[aq hle]];rfl
    ·rintro σ H4 ⟨rfl,v3,rfl⟩
     rw[em];refine⟨_,rfl,.inl ⟨rfl,_,ai.of hl3⟩,_,rfl,L2,_,_,rfl,rfl,hl3,jR (by simp;omega),?_⟩;refine⟨_,_,_,rfl,λb o e=>?_,?_⟩
     ·rw[aJ (bO e hL2)]
      exact s3 _ _ e
     ·rw[aA,o7,iJ,iJ];rfl
   ·rintro σ H3 ⟨v3,v5,v6,rfl,s3,hl3⟩
    rw[aG]at hl3;refine⟨_,rfl,kk L2 _ M H3 (s2.trans s3) (Same.none s2 hL2) hl3 hM (gJ.of _ _)⟩
end
theorem Sn(x b:Nat):decide (V.int (Builtin.bitAnd ((x:Int) / 2 ^ ((b:Int)).toNat) 1)=V.int 0) = !x.testBit b:=by
 have e1:((x:Int) / 2 ^ ((b:Int)).toNat)=((x / 2 ^ b:Nat):Int):=by
  rw[bu];push_cast;rfl
 rw[e1,show(1:Int)=((1:Nat):Int)from rfl,lB,Nat.and_one_is_mod,Rv];have h2:x / 2 ^ b % 2=0\/x / 2 ^ b % 2=1:=by omega
 rcases h2 with h2|h2<;>rw[h2]<;>rfl
theorem gJ.len'{n:Nat}{R:Nat->Nat->Bool}{us:List Nat}(h:gJ n R us):(((us.map nV).length:Int)).toNat=n:=by rw[bu,aG,h.len]
theorem gJ.get{n:Nat}{R:Nat->Nat->Bool}{us:List Nat}(h:gJ n R us){a:Nat}(ha:a<n):(us.map nV)[a]?=some (nV (us.getD a 0)):=i_ (by rw[h.len];exact ha)
noncomputable def gR(n:Nat)(R:Nat->Nat->Bool)(a b:Nat):Bool:=!decide (a=b)&&R a b&&(((List.range n).filter λc=>R a c&&R c b).length==2)
section
variable {P:Program} {w:World} {K:W.Frag} {mg:Str->Option Value} {base:Heap} {f:Addr} {fd:FuncData}
abbrev vE:Stmt:=top 59
theorem O5:aZ ["_law_ups_here","_law_found","_law_a"] ["_law_ups_here"] (aE vE):=⟨rfl,rfl,rfl,by decide +kernel,rfl,by decide +kernel,by decide +kernel⟩
noncomputable def wy(K:W.Frag):Sp:=λvs H Q _=>∃(u n:Nat) (R:Nat->Nat->Bool) (us:List Nat),vs = [.ref u]/\ai K H u (us.map nV)/\gJ n R us/\n<=24 /\
 ∀l ws H',Same H H'->H l=none->H' l=some (.lst ws)->ws.length<=576->Paired (ck H') (bw n R) ws->Q (.ref l) H'
theorem Y0 (F:aV K "_law_pairs" "_law_pairs" vE f fd) (T:Txt mg):aN P w K mg base aS 1 f fd ["_law_ups_here"] (wy K):=by
 refine F.ok O5 (λvs H Q E h=>?_) (λcdv A outer s H vs Q E hr h=>?_)
 ·obtain⟨u,n,R,us,rfl,_⟩:=h
  rfl
 ·obtain⟨u,n,R,us,rfl,hu,hU,hn,kk⟩:=h
  have nd:=O5.nd;have en:=hU.len';have b1:-(2 ^ 62)<=((us.map nV).length:Int)/\((us.map nV).length:Int)<2 ^ 62:=by rw[aG,hU.len];exact a_ (by omega)
  refine⟨_,(au (aQ (i:=1) nd rfl (Or.inl rfl) (dY ag))
   (au (cn b_ rfl (bY rfl T.range (ae (cA (dw (K:=K) rfl) rfl T.len dF (ae (pv 0) ag)) ag)) (aW (i:=2) nd rfl (Or.inr rfl))
   (ax (aQ (i:=1) nd rfl (Or.inl rfl) (aB jK (pv 1) (cS (own:=["_law_b"]) (fr:=[("_law_a", 2),("_law_ups_here", 0)]) rfl (bX (aE vE) ["_law_ups_here","_law_found","_law_a"] rfl rfl (by decide +kernel)) (bY rfl T.range (ae (cA (dw (K:=K) rfl) rfl T.len dF (ae (pv 0) ag)) ag)) (λ_ _ _ _=>⟨(aW (i:=0) (by decide +kernel:(["_law_b","_law_a","_law_ups_here"]:List Str).Nodup) rfl (Or.inl rfl)),(ox (PW.pt (mn (bV ja (pv 1) (pv 0) (bN _)) (mq (bV fh (aB kC (aB uS (ay (bE (K:=K) rfl) (pv 2) (pv 1) (λ_ _=>rfl)) (pv 0)) ak) ak (bN _)))))),(eT (ae (pv 1) (ae (pv 0) ag)))⟩))))))
   (ax (aX (pv 1))))),?_⟩
  refine⟨by show 0<=sizeLine;decide,λL0 hL0=>?_⟩;refine⟨_,rfl,u,_,rfl,.inl ((Same.put hL0).seq hu),_,rfl,b1.1,b1.2,eu (lo:=0) (n:=(((us.map nV).length:Int)).toNat) (λi σ H2=>∃(v2:Option V) (l:Addr) (ws:List V),σ = [some (.ref u),some (.ref l),v2]/\Same H H2/\H l=none/\H2 l=some (.lst ws)/\ws.length<=24*i /\
   Paired (ck H2) ((List.range i).flatMap λl=>((List.range n).filter λh=>!decide (l=h)&&R l h).map λh=>(l,h)) ws) ⟨none,L0,[],rfl,Same.put hL0,hL0,aA,by simp,.nil⟩ ?_ ?_⟩
  ·rintro i σ H2 hi ⟨v2,l,ws,rfl,s2,hl0,hl,hlen,hp⟩
   rw[en]at hi;refine⟨_,rfl,_,rfl,u,_,rfl,.inl (s2.seq hu),_,rfl,b1.1,b1.2,λD hD=>?_⟩;refine qe (λj=>!decide (i=j)&&R i j) (λj v H=>∃t,v = .ref t/\t≠D/\H t=some (.tup [.int i,.int (j:Int)])) src_range hD (by rw[en];exact cH hn) (λj v H H' s ⟨b,e,hb,q⟩=>⟨b,e,hb,s _ _ hb q⟩) (λj H3 Kt Kf hj hs hy hkt hkf=>?_) (λH3 ys hs hl3 hp3=>?_)
   ·rw[en]at hj
    obtain⟨zs,hz⟩:=hy;refine⟨_,rfl,_,rfl,rfl,_,rfl,?_⟩;have ed:(!decide (V.int (0+(i:Int))=V.int (0+(j:Int)))) = !decide (i=j):=by
     congr 1
     rw[dg];exact yI
    rw[ed];refine bM (λh=>?_) (λh=>?_)
    ·refine⟨_,rfl,_,rfl,u,_,_,_,rfl,rfl,hs.seq (s2.seq hu),at0 (hU.get hi),_,rfl,_,_,rfl,rfl,by omega,_,_,rfl,rfl,rfl,_,rfl,?_⟩
     rw[yh,hU.bit i j hi hj];refine bM (λh'=>?_) (λh'=>?_)
     ·refine⟨_,rfl,_,rfl,by show 2<=sizeLine;decide,λt ht=>?_⟩
      refine hkt _ _ (by rw[h,h',dU]) (Same.put ht) ⟨t,rfl,(λe=>by rw[e,hz]at ht;cases ht),?_⟩;rw[aA,dg,dg]
     ·exact hkf _ (by rw[h,dU];simpa using h') (Same.refl _)
    ·refine cz ?_
     have h2:(!decide (i=j))=false:=by simpa using h
     exact hkf _ (by rw[h2,gX]) (Same.refl _)
   ·rw[en]at hp3
    have Aj:ys.length<=n:=by
     have h1:=cK hp3;have h2:=iI (λj=>!decide (i=j)&&R i j) (List.range n);rw[dh]at h2;omega
    refine⟨l,D,ws,ys,rfl,rfl,hs _ _ hl,hl3,by have:=@d4 100000 (by omega);omega,λq hq=>?_⟩;refine⟨_,q,ws++ys,rfl,(s2.trans hs).trans (Same.put hq),Same.none (s2.trans hs) hq,aA,by rw[cU];omega,?_⟩;rw[kJ];refine c9.same (Same.put hq) (iA (c9.same hs hp) (jN ?_));exact Paired.dB hp3 λj v ⟨t,e,_,q⟩=>⟨t,e,q⟩
  ·rintro σ H2 ⟨v2,l,ws,rfl,s2,hl0,hl,hlen,hp⟩
   rw[en]at hp hlen;exact⟨_,rfl,kk l ws H2 s2 hl0 hl (by omega) hp⟩
abbrev vC:Stmt:=top 60
theorem OJ:aZ ["_law_ups_here","_law_a","_law_b"] ["_law_ups_here","_law_a","_law_b"] (aE vC):=⟨rfl,rfl,rfl,by decide +kernel,rfl,by decide +kernel,by decide +kernel⟩
noncomputable def DY(K:W.Frag):Sp:=λvs H Q _=>∃(u a b n:Nat) (R:Nat->Nat->Bool) (us:List Nat),vs = [.ref u,.int a,.int b]/\ai K H u (us.map nV)/\gJ n R us/\n<=24/\a<n/\b<n/\∀H',Same H H'->Q (.bl (gR n R a b)) H'
theorem YG (F:aV K "_law_is_step" "_law_is_step" vC f fd) (T:Txt mg):aN P w K mg base aS 1 f fd ["_law_ups_here","_law_a","_law_b"] (DY K):=by
 refine F.ok OJ (λvs H Q E h=>?_) (λcdv A outer s H vs Q E hr h=>?_)
 ·obtain⟨u,a,b,n,R,us,rfl,_⟩:=h
  rfl
 ·obtain⟨u,a,b,n,R,us,rfl,hu,hU,hn,ha,hb,kk⟩:=h
  have nd:=OJ.nd;have en:=hU.len';have b1:-(2 ^ 62)<=((us.map nV).length:Int)/\((us.map nV).length:Int)<2 ^ 62:=by rw[aG,hU.len];exact a_ (by omega)
  refine⟨_,(au (bU (PW.pt (mv (bV fh (pv 1) (pv 2) (bN _)) (mw (bV fh (aB kC (aB uS (ay (bE (K:=K) rfl) (pv 0) (pv 1) (λ_ _=>rfl)) (pv 2)) ak) ak (bN _))))) (ax (aX eS)) cq)
   (ax (aX (qQ fh (cA (dw (K:=K) rfl) rfl T.len dF (ae (cS (own:=["_law_c"]) (fr:=[("_law_ups_here", 0),("_law_a", 1),("_law_b", 2)]) rfl (bX (aE vC) ["_law_ups_here","_law_a","_law_b"] rfl rfl (by decide +kernel)) (bY rfl T.range (ae (cA (dw (K:=K) rfl) rfl T.len dF (ae (pv 0) ag)) ag)) (λ_ _ _ _=>⟨(aW (i:=0) (by decide +kernel:(["_law_c","_law_ups_here","_law_a","_law_b"]:List Str).Nodup) rfl (Or.inl rfl)),(ox (PW.pt (mn (bV fh (aB kC (aB uS (ay (bE (K:=K) rfl) (pv 1) (pv 2) (λ_ _=>rfl)) (pv 0)) ak) ak (bN _)) (mq (bV fh (aB kC (aB uS (ay (bE (K:=K) rfl) (pv 1) (pv 0) (λ_ _=>rfl)) (pv 3)) ak) ak (bN _)))))),(pv 0)⟩)) ag)) ak (bN _))))),?_⟩
  refine⟨_,rfl,_,rfl,rfl,_,rfl,bM (λh=>?_) (λh=>?_)⟩
  ·have e:a=b:=by have:=V.int.inj (oo h);omega
   refine gQ ?_;have:=kk H (Same.refl _);rw[gR,eh e]at this;exact this
  ·have e:¬ a=b:=λe=>h (by rw[e];exact eh rfl)
   refine⟨_,rfl,_,rfl,u,_,_,_,rfl,rfl,hu,aM (hU.get ha),_,rfl,_,_,rfl,rfl,by omega,_,_,rfl,rfl,rfl,_,rfl,?_⟩;rw[Sn,hU.bit a b ha hb];refine bM (λh2=>?_) (λh2=>?_)
   ·have h3:R a b=false:=by simpa using h2
    have:=kk H (Same.refl _);rw[gR,h3,Bool.and_false,gX]at this;exact this
   ·have h3:R a b=true:=by simpa using h2
    refine⟨_,rfl,u,_,rfl,.inl hu,_,rfl,b1.1,b1.2,λD hD=>sS (λc=>R a c&&R c b) nV src_range hD (by rw[en];exact cH hn) (λj H3 Kt Kf hj hs hkt hkf=>?_) (λH3 hs3 hl3=>?_)⟩
    ·rw[en]at hj
     refine⟨_,rfl,_,rfl,u,_,_,_,rfl,rfl,hs.seq hu,aM (hU.get ha),_,rfl,_,_,rfl,rfl,by omega,_,_,rfl,rfl,rfl,_,rfl,?_⟩;rw[yh,hU.bit a j ha hj];refine bM (λh4=>?_) (λh4=>?_)
     ·refine⟨_,rfl,_,rfl,u,_,_,_,rfl,rfl,hs.seq hu,at0 (hU.get hj),_,rfl,_,_,rfl,rfl,by omega,_,_,rfl,rfl,rfl,_,rfl,?_⟩
      rw[Sr,hU.bit j b hj hb];refine bM (λh5=>?_) (λh5=>?_)
      ·refine⟨_,rfl,?_⟩
       rw[dg];exact hkt _ (by rw[h4,h5];rfl) (Same.refl _)
      ·exact hkf _ (by rw[h4,dU];simpa using h5) (Same.refl _)
     ·have h5:R a j=false:=by simpa using h4
      exact cz (hkf _ (by rw[h5,gX]) (Same.refl _))
    ·refine⟨D,_,rfl,.inl (ai.of hl3),rfl,?_⟩
     have:=kk H3 hs3;rw[gR,fH e,h3,Bool.not_false,dU,dU]at this;rw[aG,en];have e2:decide (V.int ((((List.range n).filter λc=>R a c&&R c b).length:Nat):Int)=V.int 2)=(((List.range n).filter λc=>R a c&&R c b).length==2):=by
      rw[eX,qf,ic];exact⟨λh=>by have:=V.int.inj h;omega,λh=>by rw[h];rfl⟩
     rw[e2];exact this
end
theorem oB{t u:TS}{D:Ends}{σ:L2.St}{H:Hp}(C:L2.St->Hp->Prop)(main:∀D':Ends,D'.rt=D.rt->(∀σ' H',C σ' H'->D'.nx σ' H')->t D' σ H)(rest:∀σ' H',C σ' H'->u D σ' H'):bG t u D σ H:=
 main {D with nx:=λσ' H'=>u D σ' H'} rfl rest
section
variable {P:Program} {w:World} {K:W.Frag} {mg:Str->Option Value} {base:Heap} {f:Addr} {fd:FuncData}
abbrev Dk:Stmt:=top 54
theorem O6:aZ ["_law_number","_law_found"] ["_law_number"] (aE Dk):=⟨rfl,rfl,rfl,by decide +kernel,rfl,by decide +kernel,by decide +kernel⟩
noncomputable def Ef:Sp:=λvs H Q _=>∃n:Nat,vs = [.int n]/\∀i:Int,Q (.int i) H
theorem Y1 (F:aV K "_law_parity" "_law_parity" Dk f fd) (T:Txt mg):aN P w K mg base aS 1 f fd ["_law_number"] Ef:=by
 refine F.ok O6 (λvs H Q E h=>?_) (λcdv A outer s H vs Q E hr h=>?_)
 ·obtain⟨n,rfl,_⟩:=h
  rfl
 ·obtain⟨n,rfl,kk⟩:=h
  have nd:=O6.nd;refine⟨_,(au (aQ (i:=1) nd rfl (Or.inl rfl) ak)
   (au (ZR b_ (bV uP (pv 0) ak (bN _))
   (au (aQ (i:=1) nd rfl (Or.inl rfl) (aB cR (aB cY (pv 1) (pv 0)) ak))
   (ax (aQ (i:=0) nd rfl (Or.inl rfl) (aB qM (pv 0) ak)))))
   (ax (aX (pv 1))))),?_⟩
  refine⟨λm σ H2=>H2=H/\∃i:Int,σ = [some (.int (m:Int)),some (.int i)],⟨n,rfl,0,rfl⟩,?_⟩;rintro m σ H2 ⟨rfl,i,rfl⟩;refine⟨_,rfl,_,_,rfl,rfl,_,rfl,bM (λh=>?_) (λh=>?_)⟩
  ·have hm:0<m:=by have:=oo h;omega
   refine⟨_,λσ' H' h=>h,?_⟩;refine⟨_,rfl,_,rfl,_,_,rfl,rfl,_,_,rfl,rfl,(by show(0:Int)<2;decide),_,rfl,_,_,rfl,rfl,⟨by decide,by decide⟩,m / 2,by omega,rfl,(i+(m:Int)) % 2,?_⟩;rw[FG];rfl
  ·exact⟨_,rfl,kk i⟩
abbrev Dl:Stmt:=top 55
theorem O7:aZ ["_law_wide","_law_found","_law_sign","_law_plane","_law_row"] ["_law_wide"] (aE Dl):=⟨rfl,rfl,rfl,by decide +kernel,rfl,by decide +kernel,by decide +kernel⟩
noncomputable def Eg(K:W.Frag):Sp:=λvs H Q _=>∃wd:Nat,vs = [.int wd]/\wd<=3 /\
 ∀L F H',Same H H'->H L=none->H' L=some (.lst (F.map nV))->Fam F->F.length<=24->(∀x∈F,x<256)->Q (.ref L) H'
theorem Y2 (F:aV K "_law_planes" "_law_planes" Dl f fd) (T:Txt mg) (yz:ao P w K mg base "_law_parity" ["_law_number"] 1 Ef) (ng:ao P w K mg base "_law_masks" ["_law_numbers","_law_wide","_law_most"] 1 (wg K)):aN P w K mg base aS 2 f fd ["_law_wide"] (Eg K):=by
 refine F.ok O7 (λvs H Q E h=>?_) (λcdv A outer s H vs Q E hr h=>?_)
 ·obtain⟨wd,rfl,_⟩:=h
  rfl
 ·obtain⟨wd,rfl,um,kk⟩:=h
  have nd:=O7.nd;refine⟨_,(au (aQ (i:=1) nd rfl (Or.inl rfl) (dY ag))
   (au (cn b_ rfl (MP rfl T.range (ae ak (ae (aB iz ak (pv 0)) ag))) (aW (i:=2) nd rfl (Or.inl rfl))
   (au (aQ (i:=3) nd rfl (Or.inl rfl) ak)
   (au (cn b_ rfl (bY rfl T.range (ae (aB iz ak (pv 0)) ag)) (aW (i:=4) nd rfl (Or.inl rfl))
   (ax (bU (bV fh (aH yz hr rfl (ae (aB kC (pv 4) (pv 2)) ag)) ak (bN _)) (ax (aQ (i:=3) nd rfl (Or.inl rfl) (aB Bz (pv 3) (aB iz ak (pv 4))))) cq)))
   (ax (cG (fM (K:=K) rfl gH mS pC lV (pv 1) (ae (pv 3) ag)))))))
   (ax (aX (aH ng hr rfl (ae (pv 1) (ae (aB iz ak (pv 0)) (ae ak ag (aF nofun)) (aF nofun)) (aF nofun))))))),?_⟩
  have hp1:2 ^ wd<=8:=rZ (n:=2) (by decide) um;have hp0:0<2 ^ wd:=xF wd;have ew:((1:Int)*2 ^ ((wd:Int)).toNat)=((2 ^ wd:Nat):Int):=by rw[bu,mH];norm_cast
  have cp:rO 1 (wd:Int):=⟨by omega,by omega,by decide⟩;refine⟨by show 0<=sizeLine;decide,λL hL=>?_⟩;have Ui:((1:Int)*2 ^ ((wd:Int)).toNat - 1).toNat=2 ^ wd - 1:=by rw[ew];omega
  have Uh:((1:Int)*2 ^ ((wd:Int)).toNat).toNat=2 ^ wd:=by rw[ew];omega
  refine⟨_,rfl,_,_,rfl,rfl,cp,_,_,rfl,⟨by decide,by decide,by rw[ew];omega,by rw[ew];omega⟩,eu (lo:=1) (n:=((1:Int)*2 ^ ((wd:Int)).toNat - 1).toNat) (λi σ H2=>∃(v2 v3 v4:Option V) (xs:List Nat),σ = [some (.int wd),some (.ref L),v2,v3,v4]/\Same H H2/\H2 L=some (.lst (xs.map nV))/\xs.length=i) ⟨none,none,none,[],rfl,Same.put hL,aA,rfl⟩ ?_ ?_⟩
  ·rintro i σ H2 hi ⟨v2,v3,v4,xs,rfl,s2,hl2,hx⟩
   rw[Ui]at hi;have es:(1:Int)+(i:Int)=((1+i:Nat):Int):=by omega
   refine⟨_,rfl,_,_,rfl,rfl,cp,_,rfl,by rw[ew];omega,by rw[ew];omega,eu (lo:=0) (n:=((1:Int)*2 ^ ((wd:Int)).toNat).toNat) (λj σ H3=>H3=H2/\∃(x:Nat) (v4:Option V),σ = [some (.int wd),some (.ref L),some (.int (1+(i:Int))),some (nV x),v4]) ⟨rfl,0,v4,rfl⟩ ?_ ?_⟩
   ·rintro j σ H3 hj ⟨rfl,x,v4,rfl⟩
    rw[Uh]at hj;have ej:(0:Int)+(j:Int)=(j:Int):=by omega
    have ea:Builtin.bitAnd (0+(j:Int)) (1+(i:Int))=((j&&& (1+i):Nat):Int):=by rw[es,ej,lB]
    refine⟨_,rfl,_,rfl,_,_,rfl,rfl,j&&& (1+i),by rw[<- ea];rfl,λy=>⟨rfl,_,rfl,bM (λh=>?_) (λh=>?_)⟩⟩
    ·have eo:Builtin.bitOr ((x:Nat):Int) (1*2 ^ ((0:Int)+(j:Int)).toNat)=((x ||| 2 ^ j:Nat):Int):=by
      rw[ej,bu,mH,show(2:Int) ^ j=((2 ^ j:Nat):Int)by norm_cast,BG]
     refine⟨_,rfl,_,rfl,_,_,rfl,rfl,⟨by omega,by omega,by decide⟩,_,_,rfl,rfl,rfl,x ||| 2 ^ j,some (.int (0+(j:Int))),?_⟩;dsimp only;rw[eo];rfl
    ·exact⟨rfl,x,_,rfl⟩
   ·rintro σ H3 ⟨rfl,x,v4,rfl⟩
    refine⟨_,rfl,.inl ⟨rfl,_,ai.of hl2⟩,_,rfl,L,_,_,rfl,rfl,hl2,jR (by rw[aG];omega),?_⟩;refine⟨_,_,_,xs++[x],rfl,λb o e=>?_,by rw[aA,iJ];rfl,by simp[hx]⟩;rw[aJ (bO e hL)];exact s2 _ _ e
  ·rintro σ H2 ⟨v2,v3,v4,xs,rfl,s2,hl2,hx⟩
   refine⟨_,rfl,_,rfl,_,_,rfl,rfl,cp,L,2 ^ wd,24,xs.map λx:Nat=>(x:Int),by dsimp only;rw[ew];rfl,ai.of (by rw[d6];exact hl2),by simp,hp1,by decide,by decide,λL2 G H3 s3 ko hl3 hG zU lJ=>?_⟩;have h8:2 ^ 2 ^ wd<=256:=rZ (n:=2) (by decide) hp1;exact kk L2 G H3 (s2.trans s3) (Same.none s2 ko) hl3 hG zU λx hx=>dE (lJ x hx) h8
end
theorem Ms{α β:Type}{G:α->β->Prop}:∀{l:List α} {m:List β} (k:Nat),Paired G l m->Paired G (l.drop k) (m.drop k)
 |_,_,0,h=>h
 |_,_,_+1,.nil=>.nil
 |_,_,k+1,.cons _ t=>Ms k t
theorem BK{α β:Type}{G:α->β->Prop}:∀{l:List α} {m:List β} (k:Nat),Paired G l m->Paired G (l.take k) (m.take k)
 |_,_,0,_=>.nil
 |_,_,_+1,.nil=>.nil
 |_,_,k+1,.cons r t=>.cons r (BK k t)
theorem iZ{n:Nat}{R:Nat->Nat->Bool}{p:Nat × Nat}:p∈bw n R ↔ p.1<n/\p.2<n/\p.1≠p.2/\R p.1 p.2=true:=by
 unfold bw;rw[mM]
 constructor
 ·rintro⟨l,hl,h⟩
  obtain⟨k,hk,rfl⟩:=cu.mp h;obtain⟨h1,h2⟩:=d7.mp hk;rw[bH]at h2;exact⟨by simpa using hl,by simpa using h1,by simpa using h2.1,h2.2⟩
 ·rintro⟨h1,h2,h3,h4⟩
  exact⟨p.1,by simpa using h1,cu.mpr ⟨p.2,d7.mpr ⟨by simpa using h2,by rw[h4];simp[h3]⟩,rfl⟩⟩
structure rQ (n:Nat) (R:Nat->Nat->Bool) (ps:List (Nat × Nat)):Prop where
 lt:∀p∈ps,p.1<n/\p.2<n
 le:∀p∈ps,R p.1 p.2=true
 all:∀a b,a<n->b<n->gR n R a b=true->(a,b)∈ps
theorem BM(n:Nat)(R:Nat->Nat->Bool)(hn:n<=24):(bw n R).length<=24*24:=by
 have:∀k,((List.range k).flatMap λl=>((List.range n).filter λh=>!decide (l=h)&&R l h).map λh=>(l,h)).length<=24*k:=by
  intro k
  induction k with
  |zero=>simp
  |succ k ih =>
   rw[kJ,cU,aG];have h2:=iI (λh=>!decide (k=h)&&R k h) (List.range n);rw[dh]at h2;omega
 have h:=this n;unfold bw;omega
noncomputable def Fx(H:Hp)(n:Nat)(R:Nat->Nat->Bool)(L lp:Addr)(wp:List V)(i:Nat)(H2:Hp):Prop:=∃(ws:List V) (qs:List (Nat × Nat)),Same H H2/\H2 L=some (.lst ws)/\H2 lp=some (.lst wp)/\ws.length<=i /\
   Paired (ck H2) (bw n R) wp/\Paired (ck H2) qs ws/\(∀q∈qs,q∈bw n R)/\∀j q,j<i->(bw n R)[j]?=some q->gR n R q.1 q.2=true->q∈qs
section
variable {P:Program} {w:World} {K:W.Frag} {mg:Str->Option Value} {base:Heap} {f:Addr} {fd:FuncData}
abbrev Dh:Stmt:=top 61
theorem OD:aZ ["_law_ups_here","_law_numbers","_law_found","_law_more","_law_k","_law_number","_law_a","_law_b"] ["_law_ups_here","_law_numbers"] (aE Dh):=⟨rfl,rfl,rfl,by decide +kernel,rfl,by decide +kernel,by decide +kernel⟩
noncomputable def DS(K:W.Frag):Sp:=λvs H Q _=>∃(u d n:Nat) (R:Nat->Nat->Bool) (us:List Nat) (ns:List Int),vs = [.ref u,.ref d]/\ai K H u (us.map nV)/\ai K H d (ns.map V.int)/\gJ n R us/\0<n/\n<=24/\0<ns.length/\ns.length<=1000/\R 0 0=true /\
 ∀l ws ps H',Same H H'->H l=none->H' l=some (.lst ws)->ws.length<=600->Paired (ck H') ps ws->rQ n R ps->Q (.ref l) H'
theorem Yy (F:aV K "_law_handed" "_law_handed" Dh f fd) (T:Txt mg) (lE:ao P w K mg base "_law_pairs" ["_law_ups_here"] 1 (wy K)) (yw:ao P w K mg base "_law_is_step" ["_law_ups_here","_law_a","_law_b"] 1 (DY K)) :
  aN P w K mg base aS 2 f fd ["_law_ups_here","_law_numbers"] (DS K):=by
 refine F.ok OD (λvs H Q E h=>?_) (λcdv A outer s H vs Q E hr h=>?_)
 ·obtain⟨u,d,n,R,us,ns,rfl,_⟩:=h
  rfl
 ·obtain⟨u,d,n,R,us,ns,rfl,hu,hd,hU,hpos,hn,V5,abY,Wi,kk⟩:=h
  have nd:=OD.nd;refine⟨_,(au (aQ (i:=2) nd rfl (Or.inl rfl) (dY ag))
   (au (aQ (i:=3) nd rfl (Or.inl rfl) ak)
   (au (cn b_ rfl (uV (K:=K) true rfl rfl T.enumerate (ae (aH lE hr rfl (ae (pv 0) ag)) ag)) (qT (K:=K) rfl rfl (fN (aW (i:=4) nd rfl (Or.inl rfl)) (fN (ou (K:=K) (i:=6) (j:=7) rfl rfl nd rfl rfl rfl rfl) ow)))
   (au (aQ (i:=5) nd rfl (Or.inl rfl) (aB cY (ay (bE (K:=K) rfl) (pv 1) (aB cR (pv 4) (cA (dw (K:=K) rfl) rfl T.len dF (ae (pv 1) ag))) (λ_ _=>rfl)) (aB fj ak (pv 4))))
   (ax (bU (dM (aH yw hr rfl (ae (pv 0) (ae (pv 6) (ae (pv 7) ag (aF nofun)) (aF nofun)) (aF nofun)))) (ax (cG (fM (K:=K) rfl gH xI GZ Bq (pv 2) (ae (aB cR (aB qM (pv 5) ak) (aB cY (cA (dw (K:=K) rfl) rfl T.len dF (ae (pv 2) ag)) ak)) (ae (eT (ae (pv 6) (ae (pv 7) ag))) ag))))) (ax (bU (PW.pt (mn (bV fh (aB cR (pv 5) ak) ak (bN _)) (mq (bV uR (pv 3) ak (bN _))))) (au (cG (fM (K:=K) rfl gH xI GZ Bq (pv 2) (ae (aB cR (aB qM (pv 5) ak) (aB cY (cA (dw (K:=K) rfl) rfl T.len dF (ae (pv 2) ag)) ak)) (ae (eT (ae (pv 6) (ae (pv 7) ag))) ag))))
   (ax (aQ (i:=3) nd rfl (Or.inl rfl) (aB cY (pv 3) ak)))) cq))))))
   (au (bU (bV fh (aB cR (ay (bE (K:=K) rfl) (pv 1) ak (λ_ _=>rfl)) ak) ak (bN _)) (ax (aQ (i:=2) nd rfl (Or.inl rfl) (aB jK (pv 2) (qR (rD (K:=K) rfl) (pv 2) BW (mj ak))))) cq)
   (au (bU (bV fh (aB cR (ay (bE (K:=K) rfl) (pv 1) ak (λ_ _=>rfl)) ak) ak (bN _)) (ax (cG (fM (K:=K) rfl gH mS pC lV (pv 2) (ae (eT (ae ak (ae ak ag))) ag)))) cq)
   (ax (aX (pv 2)))))))),?_⟩
  refine⟨by show 0<=sizeLine;decide,λL hL=>?_⟩;have sL:=Same.put hL (o:=.lst ([]:List V));dsimp only[bj];show bG _ _ _ [some (.ref u),some (.ref d),some (.ref L),some (.int 0),none,none,none,none] _;refine⟨_,rfl,u,n,R,us,rfl,sL.seq hu,hU,hn,λlp wp H1 s1 JQ hlp hwp hpp=>?_⟩;have iD:=sL.trans s1;have hL1:H1 L=some (.lst []):=s1 _ _ aA;have hne:lp≠L:=λe=>by rw[e,aA]at JQ;cases JQ
  refine⟨lp,wp,rfl,ai.of hlp,zN (K:=K) (c:=true) (l:=lp) (xs:=wp) (λi σ H2=>∃(v4 v5 v6 v7:Option V) (m:Int) (ws:List V) (qs:List (Nat × Nat)),σ = [some (.ref u),some (.ref d),some (.ref L),some (.int m),v4,v5,v6,v7]/\Same H H2/\H2 L=some (.lst ws)/\H2 lp=some (.lst wp)/\ws.length<=i /\
   Paired (ck H2) (bw n R) wp/\Paired (ck H2) qs ws/\(∀q∈qs,q∈bw n R)/\∀j q,j<i->(bw n R)[j]?=some q->gR n R q.1 q.2=true->q∈qs)
   ⟨none,none,none,none,0,[],[],rfl,iD,hL1,hlp,cW _,hpp,.nil,(λq h=>nomatch h),λj q hj=>by omega⟩ (λi σ H2 ⟨_,_,_,_,_,_,_,_,_,_,h,_⟩=>ai.of h) ?_ ?_⟩
  ·rintro i x σ H2 Tt hx zZ ⟨v4,v5,v6,v7,m,ws,qs,rfl,s2,hl2,Ai,hwl,jE,hpq,nZ,hst⟩
   have hi:i<wp.length:=(bD.mp hx).1;obtain⟨q,hq,t,rfl,Ws⟩:=eR jE hx;have sT:=Same.put zZ (o:=.tup [V.int (i:Int),.ref t]);refine⟨Tt,_,rfl,av.of aA,rfl,_,_,rfl,_,_,rfl,t,_,rfl,av.of (sT _ _ Ws),rfl,_,_,rfl,_,_,rfl,rfl,rfl,?_⟩;dsimp only[bj];show bG _ _ _ [some (.ref u),some (.ref d),some (.ref L),some (.int m),some (.int (i:Int)),v5,some (.int (q.1:Int)),some (.int (q.2:Int))] _;obtain⟨hq1,hq2,uk,Aq⟩:=iZ.mp (cV hq);obtain⟨r,hr',er⟩:=f6 (i:Int) ns.length V5;have kM:=s2.trans sT;refine⟨_,rfl,_,rfl,_,rfl,d,_,rfl,.inl (kM.seq hd),_,_,rfl,rfl,by rw[aG];omega,d,_,_,_,rfl,rfl,kM.seq hd,by rw[aG,er];exact aM (eK hr'),_,rfl,_,_,rfl,rfl,?_⟩;refine⟨.inl ⟨by decide,by decide⟩,_,_,rfl,rfl,?_⟩;dsimp only[bj];generalize hz:ns.getD r 0+7*(i:Int)=z;show Qh _ _ _ _ [some (.ref u),some (.ref d),some (.ref L),some (.int m),some (.int (i:Int)),some (.int z),some (.int (q.1:Int)),some (.int (q.2:Int))] _;have key:∀(H3:Hp) (N:Hp->Prop),Same (upd H2 Tt (.tup [V.int (i:Int),.ref t])) H3->(∀H4,Fx H n R L lp wp (i+1) H4->N H4) ->
     Ex K "list" Ng (kT 2) (jS (mB (rI (λ_ j=>0<j) λi j=>V.int (i % j)) (mB (rI Ft λi j=>V.int (i / j)) (kT 5) (tC (V.int 3))) (mB (iC λi j=>V.int (i+j)) (Ey (Nj K) (jS (kT 2) kR)) (tC (V.int 1)))) (jS (Qp (jS (kT 6) (jS (kT 7) kR))) kR))
      [some (.ref u),some (.ref d),some (.ref L),some (.int m),some (.int (i:Int)),some (.int z),some (.int (q.1:Int)),some (.int (q.2:Int))] H3 λ_ H'=>N H':=by
    intro H3 N s3 hN;have sA:=sT.trans s3;have hl3:=sA _ _ hl2;obtain⟨k,hk,ek⟩:=f6 (z / 3) (ws.length+1) (by omega);refine⟨_,rfl,.inl ⟨rfl,_,ai.of hl3⟩,_,rfl,_,_,rfl,rfl,⟨by decide,by decide⟩,_,rfl,L,_,rfl,.inl (ai.of hl3),_,_,rfl,rfl,_,_,rfl,rfl,by omega,_,rfl,_,rfl,by show 2<=sizeLine;decide,λy hy=>?_⟩;have sY:=Same.put hy (o:=.tup [V.int (q.1:Int),.int (q.2:Int)]);refine⟨L,ws,k,.ref y,rfl,?_,sY _ _ hl3,by omega,d4 (by have:=cK jE;have:(bw n R).length<=24*24:=BM n R hn;omega),?_⟩
    ·dsimp only
     rw[show z / 3 % ((ws.length:Int)+1)=(k:Int)by rw[<- ek];push_cast;rfl]
    ·have sZ:=sA.trans sY
     have JL:=sY _ _ hl3;refine hN _ ⟨ws.take k++.ref y::ws.drop k,qs.take k++q::qs.drop k,λb o e=>?_,aA,?_,?_,kE JL (c9.same sZ jE),kE JL ?_,λp hp=>?_,λj p hj hp hsp=>?_⟩
     ·rw[aJ (bO e hL)]
      exact sZ _ _ (s2 _ _ e)
     ·rw[aJ hne]
      exact sZ _ _ Ai
     ·rw[(uv ws k _).length_eq,fz];omega
     ·have JW:=c9.same sZ hpq
      exact iA (BK k JW) (.cons ⟨y,rfl,aA⟩ (Ms k JW))
     ·rcases bC.mp ((uv qs k q).mem_iff.mp hp)with rfl|hp
      ·exact cV hq
      ·exact nZ p hp
     ·refine(uv qs k q).mem_iff.mpr ?_
      by_cases e:j=i
      ·subst e
       rw[hq]at hp;cases hp;exact cC
      ·exact bT _ (hst j p (by omega) hp hsp)
   have stay:∀H3,Same (upd H2 Tt (.tup [V.int (i:Int),.ref t])) H3->gR n R q.1 q.2=false->Fx H n R L lp wp (i+1) H3:=λH3 s3 Ak=>by
    have sA:=sT.trans s3;refine⟨ws,qs,s2.trans sA,sA _ _ hl2,sA _ _ Ai,by omega,c9.same sA jE,c9.same sA hpq,nZ,λj p hj hp hsp=>?_⟩
    by_cases e:j=i
    ·subst e
     rw[hq]at hp;cases hp;rw[Ak]at hsp;cases hsp
    ·exact hst j p (by omega) hp hsp
   refine⟨_,rfl,_,rfl,_,rfl,u,q.1,q.2,n,R,us,rfl,kM.seq hu,hU,hn,hq1,hq2,λH3 s3=>⟨_,rfl,bM (λh=>?_) (λh=>?_)⟩⟩
   ·refine key H3 _ s3 λH4 hI=>?_
    obtain⟨ws',oz,hI⟩:=hI;exact⟨_,_,_,_,m,ws',oz,rfl,hI⟩
   ·have Ak:gR n R q.1 q.2=false:=by simpa using h
    obtain⟨ws',oz,hI⟩:=stay H3 s3 Ak;refine⟨_,rfl,_,_,rfl,rfl,(by show(0:Int)<3;decide),rfl,_,rfl,bM (λh2=>?_) (λh2=>?_)⟩
    ·refine⟨_,rfl,_,_,rfl,rfl,_,rfl,bM (λh3=>?_) (λh3=>?_)⟩
     ·refine key H3 _ s3 λH4 hI=>?_
      obtain⟨ws',oz,hI⟩:=hI;exact⟨_,rfl,_,_,rfl,rfl,_,_,_,_,m+1,ws',oz,rfl,hI⟩
     ·exact⟨_,_,_,_,m,ws',oz,rfl,hI⟩
    ·exact cz ⟨_,_,_,_,m,ws',oz,rfl,hI⟩
  ·rintro σ H2 ⟨v4,v5,v6,v7,m,ws,qs,rfl,s2,hl2,Ai,hwl,jE,hpq,nZ,hst⟩
   have Wz:ws.length<=576:=by
    have h1:=cK jE;have h2:=BM n R hn;omega
   have hand:rQ n R qs:=⟨λp hp=>⟨(iZ.mp (nZ p hp)).1,(iZ.mp (nZ p hp)).2.1⟩,λp hp=>(iZ.mp (nZ p hp)).2.2.2,λa b ha hb hs=>by
    have hm:(a,b)∈bw n R:=by
     unfold gR at hs;rw[bH,bH]at hs;exact iZ.mpr ⟨ha,hb,by simpa using hs.1.1,hs.1.2⟩
    obtain⟨j,hj,e⟩:=k8 hm;exact hst j (a,b) (by rw[<- cK jE];exact hj) (by rw[aI hj,e]) hs⟩
   dsimp only;show bG _ _ _ [some (.ref u),some (.ref d),some (.ref L),some (.int m),v4,v5,v6,v7] _;refine oB (λσ H3=>∃(L3:Addr) (mF:List V) (qY:List (Nat × Nat)),σ = [some (.ref u),some (.ref d),some (.ref L3),some (.int m),v4,v5,v6,v7]/\Same H H3/\H L3=none/\H3 L3=some (.lst mF)/\mF.length<=577/\Paired (ck H3) qY mF/\rQ n R qY) (λD' hD' next=>?_) ?_
   ·refine⟨_,rfl,d,_,0,_,rfl,rfl,s2.seq hd,aM (eK (i:=0) (by omega)),_,_,rfl,rfl,(by show(0:Int)<4;decide),rfl,_,rfl,bM (λh=>?_) (λh=>next _ _ ⟨L,ws,qs,rfl,s2,hL,hl2,by omega,hpq,hand⟩)⟩
    refine⟨_,rfl,_,rfl,_,rfl,L,_,rfl,ai.of hl2,λp1 hp1=>?_⟩;have e1:fX ws none (some 1)=ws.take 1:=by
     unfold fX;rw[HT.NT,show(1:Int)=((1:Nat):Int)from rfl,HT.vf,List.drop_zero,xE]
     by_cases h:1<=ws.length
     ·rw[xD h]
     ·rw[Gs (by omega),o9 (by omega),o9 (by omega)]
    rw[e1];have t1:=Same.put hp1 (o:=.lst (ws.take 1));refine⟨L,p1,_,_,rfl,rfl,t1 _ _ hl2,aA,by rw[j5];exact gG (d4 (by omega)),λp2 hp2=>?_⟩;have t2:=Same.put hp2 (o:=.lst (ws++ws.take 1));refine next _ _ ⟨p2,ws++ws.take 1,qs++qs.take 1,rfl,s2.trans (t1.trans t2),Same.none (s2.trans t1) hp2,aA,by rw[cU,j5];omega,c9.same (t1.trans t2) (iA hpq (BK 1 hpq)),?_⟩;have mem:∀p,p∈qs++qs.take 1->p∈qs:=λp hp=>(iK.mp hp).elim id List.mem_of_mem_take;exact⟨λp hp=>hand.lt p (mem p hp),λp hp=>hand.le p (mem p hp),λa b ha hb hs=>xn _ (hand.all a b ha hb hs)⟩
   ·rintro σ H3 ⟨L3,mF,qY,rfl,s3,eM,hl3,hw3,hp3,ug⟩
    show bG _ _ _ [some (.ref u),some (.ref d),some (.ref L3),some (.int m),v4,v5,v6,v7] _;refine⟨_,rfl,d,_,0,_,rfl,rfl,s3.seq hd,aM (eK (i:=0) (by omega)),_,_,rfl,rfl,(by show(0:Int)<4;decide),rfl,_,rfl,bM (λh=>?_) (λh=>?_)⟩
    ·refine⟨_,rfl,.inl ⟨rfl,_,ai.of hl3⟩,by show 2<=sizeLine;decide,λy hy=>?_⟩
     have sY:=Same.put hy (o:=.tup [V.int 0,.int 0]);refine⟨L3,mF,_,rfl,rfl,sY _ _ hl3,d4 (by omega),_,rfl,kk L3 (mF++[.ref y]) (qY++[(0,0)]) _ (λb o e=>?_) eM aA (by rw[cU];simp;omega) (kE (sY _ _ hl3) (iA (c9.same sY hp3) (.cons ⟨y,rfl,aA⟩ .nil))) ?_⟩
     ·rw[aJ (bO e eM)]
      exact sY _ _ (s3 _ _ e)
     ·refine⟨λp hp=>?_,λp hp=>?_,λa b ha hb hs=>xn _ (ug.all a b ha hb hs)⟩
      ·rcases iK.mp hp with hp|hp
       ·exact ug.lt p hp
       ·simp at hp;subst hp;exact⟨hpos,hpos⟩
      ·rcases iK.mp hp with hp|hp
       ·exact ug.le p hp
       ·simp at hp;subst hp;exact Wi
    ·exact⟨_,rfl,kk L3 mF qY H3 s3 eM hl3 (by omega) hp3 ug⟩
end
theorem abn{l:List Nat}{a b:Nat}(nd:l.Nodup)(hab:a≠b)(ha:a∈l)(hb:b∈l)(h:∀c∈l,c=a\/c=b):l.length=2:=by
 have h1:l.length<=2:=by
  have:l.length<=[a,b].length:=by
   have:=List.Nodup.length_le_of_subset (l₁:=l) (l₂:=[a,b]);exact nd.length_le_of_subset λc hc=>by rcases h c hc with rfl|rfl<;>simp
  simpa using this
 have h2:2<=l.length:=by
  have Ya:[a,b].Nodup:=by simp[hab]
  have:[a,b].length<=l.length:=Ya.length_le_of_subset λc hc=>by
   rcases bC.mp hc with rfl|hc
   ·exact ha
   ·simp at hc;subst hc;exact hb
  simpa using this
 omega
theorem aaV{M:List Nat}{a b:Nat}(ha:a<M.length)(hb:b<M.length)(h:Ev.stepM M a b):gR M.length (Ev.a8 M) a b=true:=by
 unfold gR;rw[h.2.1,fH h.1,Bool.not_false,dU,dU,ic];refine abn (rU.filter _) h.1 ?_ ?_ λc hc=>?_
 ·exact d7.mpr ⟨by simpa using ha,by rw[Ev.lT,h.2.1];rfl⟩
 ·exact d7.mpr ⟨by simpa using hb,by rw[Ev.lT,h.2.1];rfl⟩
 ·obtain⟨h1,h2⟩:=d7.mp hc
  rw[bH]at h2;exact h.2.2 c (by simpa using h1) h2.1 h2.2
theorem Good.congr{n:Nat}{R R':Nat->Nat->Bool}(G:Good n R)(h:∀a b,a<n->b<n->R' a b=R a b):Good n R':=by
 refine⟨λa ha=>by rw[h a a ha ha];exact G.refl a ha,λa b ha hb h1 h2=>G.anti a b ha hb (by rw[<- h a b ha hb];exact h1) (by rw[<- h b a hb ha];exact h2),λa b ha hb=>?_,λa b ha hb=>?_⟩
 ·obtain⟨c,hc,hx⟩:=G.join a b ha hb
  exact⟨c,hc,λx hx'=>by rw[h c x hc hx',h a x ha hx',h b x hb hx'];exact hx x hx'⟩
 ·obtain⟨c,hc,hx⟩:=G.meet a b ha hb
  exact⟨c,hc,λx hx'=>by rw[h x c hx' hc,h x a hx' ha,h x b hx' hb];exact hx x hx'⟩
theorem Jl{M:List Nat}(hM:Ev.fy M):Good M.length (Ev.a8 M):=by
 refine⟨λa ha=>Ev.lT _ _,λa b ha hb h1 h2=>Ev.Xv hM.nd ha hb h1 h2,λa b ha hb=>?_,λa b ha hb=>?_⟩
 ·obtain⟨c,hc,h⟩:=hM.Xh ha hb
  exact⟨c,hc,λx hx=>h x hx⟩
 ·obtain⟨c,hc,_,h⟩:=hM.XT ha hb
  exact⟨c,hc,λx hx=>h x⟩
theorem sQ{M:List Nat}(hM:Ev.fy M){ps:List (Nat × Nat)}(hand:rQ M.length (Ev.a8 M) ps){R:Nat->Nat->Bool}(hC:Ev.jY M.length ps R):∀a b,a<M.length->b<M.length->R a b=Ev.a8 M a b:=
 hC.T' hM.nd hand.le λa b ha hb h=>hand.all a b ha hb (aaV ha hb h)
theorem sP{n:Nat}{R R':Nat->Nat->Bool}(G:Good n R){ps:List (Nat × Nat)}(h1:∀p∈ps,R p.1 p.2=true)(h2:∀a b,a<n->b<n->a≠b->R a b=true->(a,b)∈ps)(hC:Ev.jY n ps R'):∀a b,a<n->b<n->R' a b=R a b:=by
 intro a b ha hb;rw[eX]
 constructor
 ·exact hC.least R G.refl h1 (λa b c ha hb hc=>G.trans ha hb hc) a b ha hb
 ·intro h
  by_cases e:a=b
  ·subst e;exact hC.refl a ha
  ·exact hC.has _ (h2 a b ha hb e h)
theorem Good.flip{n:Nat}{R:Nat->Nat->Bool}(G:Good n R):Good n λa b=>R b a:=
 ⟨G.refl,λa b ha hb h1 h2=>G.anti a b ha hb h2 h1,G.meet,G.join⟩
noncomputable def cJ(C:Addr)(H:Hp)(p n:Nat)(R:Nat->Nat->Bool):Prop:=∃R',cN C H p n R'/\∀a b,a<n->b<n->R' a b=R a b
theorem cJ.same{C:Addr}{H H':Hp}{p n:Nat}{R:Nat->Nat->Bool}(s:Same H H')(h:cJ C H p n R):cJ C H' p n R:=by
 obtain⟨R',a,b⟩:=h;exact⟨R',a.same s,b⟩
theorem bA.cg{n:Nat}{R R':Nat->Nat->Bool}{a b c:Nat}(ha:a<n)(hb:b<n)(h:∀a b,a<n->b<n->R' a b=R a b)(hj:bA n R a b c):bA n R' a b c:=⟨hj.1,λx hx=>by rw[h c x hj.1 hx,h a x ha hx,h b x hb hx];exact hj.2 x hx⟩
theorem bB.cg{n:Nat}{R R':Nat->Nat->Bool}{a b c:Nat}(ha:a<n)(hb:b<n)(h:∀a b,a<n->b<n->R' a b=R a b)(hj:bB n R a b c):bB n R' a b c:=⟨hj.1,λx hx=>by rw[h x c hx hj.1,h x a hx ha,h x b hx hb];exact hj.2 x hx⟩
structure fx (P:Program) (w:World) (K:W.Frag) (mg:Str->Option Value) (base:Heap) (C:Addr) (m:Str) (ps:List Str) (k:Nat) (sp:Sp):Prop where
 ex:∃(f:Addr) (fd:FuncData),aN P w K mg base aS k f fd ps sp/\Meth K C m f/\Binds K fd ps []
section
variable {X:Cx} {C:Addr} {m:Str} {ps:List Str} {k k':Nat} {sp:Sp} {e o:Expr} {es:List Expr} {ta:TE} {t:TA} {apos pos:Pos} {pl:Sem Bool}
theorem kF(c:fx X.prog X.w X.K X.mg X.base C m ps k sp)(cl:Cls X.K C)(hr:bK k' X.A)(he:PE X o ta)(ha:PA X (e::es) t)(hk:k<=k':=by decide)
  (hst:starEach (e::es) X.env=(false,eval e X.env)::starEach es X.env:=by rfl) (hpl:(backTo pos (starEach es X.env)).any (·.1)=false:=by rfl)
  (ht:eval (.Call (.Attribute o m apos) (e::es) [] pos) X.env=(do
   let ov <- eval o X.env
   standAt apos.atName
   let(f,first) <- holding [ov] (getMethod ov m pl)
   callWith pos f first (backTo pos (starEach (e::es) X.env)) (backToKw pos (keywordEach [] X.env))):=by rfl):PE X (.Call (.Attribute o m apos) (e::es) [] pos) (wG C m sp [] E0 ta t):=by
 obtain⟨f,fd,F,M,b⟩:=c.ex;exact Zv he cl M F (hr.mono hk) b .nil ot ha hst hpl ht
theorem kG(c:fx X.prog X.w X.K X.mg X.base C m ps k sp)(cl:Cls X.K C)(hr:bK k' X.A)(he:PE X o ta)(hk:k<=k':=by decide)
  (ht:eval (.Call (.Attribute o m apos) [] [] pos) X.env=(do
   let ov <- eval o X.env
   standAt apos.atName
   let(f,first) <- holding [ov] (getMethod ov m pl)
   callWith pos f first (backTo pos (starEach [] X.env)) (backToKw pos (keywordEach [] X.env))):=by rfl):PE X (.Call (.Attribute o m apos) [] [] pos) (wG C m sp [] E0 ta kR):=by
 obtain⟨f,fd,F,M,b⟩:=c.ex;exact Zw he cl M F (hr.mono hk) b .nil ot ht
end
structure MethAt (K:W.Frag) (C:Addr) (m qual:Str) (st:Stmt):Prop where
 ex:∃(f:Addr) (fd:FuncData),aV K m qual st f fd/\Meth K C m f
theorem MethAt.mk'{K:W.Frag}{m qual:Str}{st:Stmt}{C f:Addr}{oc:Value}{od an:Option Addr}{osl:Array (Option Value)}{kV doc pm cdv ct:Value}(a:W.findIn K (.ref C) m=some (some (.ref f)))(i:W.isFn K (.ref f)=true)
  (l:K.lookup f=some ⟨oc,od,.func (W.fnOf m qual (ik st) (fZ st) (aE st) .none kV doc pm an cdv ct),osl⟩) (c:W.codeIn K cdv qual=true) (k:W.keepIn K (.ref f)=true):MethAt K C m qual st:=
 ⟨f,_,zP l c k,⟨a,i,k⟩⟩
theorem MethAt.cal{P:Program}{w:World}{K:W.Frag}{mg:Str->Option Value}{base:Heap}{m qual:Str}{st:Stmt}{C:Addr}{ps:List Str}{k:Nat}{sp:Sp}(A:MethAt K C m qual st)
  (hb:∀(kV doc pm:Value) (an:Option Addr) (cdv ct:Value) (us:List Value),us.length=ps.length->bindArgs (W.fnOf m qual (ik st) (fZ st) (aE st) .none kV doc pm an cdv ct) ⟨us,[]⟩=pure (ps.zip us))
  (ok:∀{f:Addr} {fd:FuncData},aV K m qual st f fd->aN P w K mg base aS k f fd ps sp):fx P w K mg base C m ps k sp:=by
 obtain⟨f,fd,F,M⟩:=A.ex;exact⟨f,fd,ok F,M,F.binds hb⟩
section
variable {P:Program} {w:World} {K:W.Frag} {mg:Str->Option Value} {base:Heap} {f:Addr} {fd:FuncData}
abbrev CG:Stmt:=inClass (top 25) 1
theorem NX:aZ ["self","a","b"] ["self","a","b"] (aE CG):=⟨rfl,rfl,rfl,by decide +kernel,rfl,by decide +kernel,by decide +kernel⟩
noncomputable def wc(C:Addr):Sp:=λvs H Q _=>∃(p n a b:Nat) (R:Nat->Nat->Bool),vs = [.ref p,.int a,.int b]/\cN C H p n R/\a<n/\b<n/\∀H',Same H H'->Q (.bl (R a b)) H'
theorem YL {C:Addr} (F:aV K "at_most" "Order.at_most" CG f fd) (T:Txt mg) (TC:cD K C) (dv:ao P w K mg base "need_thing" ["count","number"] 3 kQ):aN P w K mg base aS 4 f fd ["self","a","b"] (wc C):=by
 refine F.ok NX (λvs H Q E h=>?_) (λcdv A outer s H vs Q E hr h=>?_)
 ·obtain⟨p,n,a,b,R,rfl,_⟩:=h
  rfl
 ·obtain⟨p,n,a,b,R,rfl,hO,ha,hb,kk⟩:=h
  have nd:=NX.nd;obtain⟨dx,vp,vr,vj,vm,o1,_,o3,_,_⟩:=hO;obtain⟨ra,us,rb,rfl,q1,q2,q3⟩:=o3.get ha;refine⟨_,(au (cG (aH dv hr rfl (ae (bq (K:=K) rfl (pv 0) rfl) (ae (pv 1) ag))))
   (au (cG (aH dv hr rfl (ae (bq (K:=K) rfl (pv 0) rfl) (ae (pv 2) ag))))
   (ax (aX (ay (aO (K:=K) rfl) (ay (aO (K:=K) rfl) (bq (K:=K) rfl (pv 0) rfl) (pv 1) (λ_ _=>rfl)) (pv 2) (λ_ _=>rfl)))))),?_⟩
  refine⟨_,rfl,p,C,dx,_,_,rfl,o1,TC.cl,TC.nC,cX _ _ _ _ _,_,rfl,⟨n,a,rfl,by omega,by omega⟩,λv1 H1 s1 _=>?_⟩;refine⟨_,rfl,p,C,dx,_,_,rfl,s1 _ _ o1,TC.cl,TC.nC,cX _ _ _ _ _,_,rfl,⟨n,b,rfl,by omega,by omega⟩,λv2 H2 s2 _=>?_⟩;have bS:=s1.trans s2;exact⟨_,rfl,p,C,dx,_,_,rfl,bS _ _ o1,TC.cl,TC.nR,jy _ _ _ _ _,_,rfl,ra,us,_,.ref rb,rfl,rfl,av.of (bS _ _ q1),aM q2,_,rfl,rb,_,_,.bl (R a b),rfl,rfl,av.of (bS _ _ q3),aM (dC hb),kk _ bS⟩
abbrev CK:Stmt:=inClass (top 25) 2
theorem N3:aZ ["self","a","b"] ["self","a","b"] (aE CK):=⟨rfl,rfl,rfl,by decide +kernel,rfl,by decide +kernel,by decide +kernel⟩
noncomputable def Eb(C:Addr):Sp:=λvs H Q _=>∃(p n a b c:Nat) (R:Nat->Nat->Bool),vs = [.ref p,.int a,.int b]/\cN C H p n R/\Good n R/\a<n/\b<n/\bA n R a b c/\∀H',Same H H'->Q (.int c) H'
theorem YQ {C:Addr} (F:aV K "join" "Order.join" CK f fd) (T:Txt mg) (TC:cD K C) (dv:ao P w K mg base "need_thing" ["count","number"] 3 kQ):aN P w K mg base aS 4 f fd ["self","a","b"] (Eb C):=by
 refine F.ok N3 (λvs H Q E h=>?_) (λcdv A outer s H vs Q E hr h=>?_)
 ·obtain⟨p,n,a,b,c,R,rfl,_⟩:=h
  rfl
 ·obtain⟨p,n,a,b,c,R,rfl,hO,G,ha,hb,hc,kk⟩:=h
  have nd:=N3.nd;obtain⟨dx,vp,vr,vj,vm,o1,_,_,o3,_⟩:=hO;obtain⟨ra,us,rb,rfl,q1,q2,q3⟩:=o3.get ha;refine⟨_,(au (cG (aH dv hr rfl (ae (bq (K:=K) rfl (pv 0) rfl) (ae (pv 1) ag))))
   (au (cG (aH dv hr rfl (ae (bq (K:=K) rfl (pv 0) rfl) (ae (pv 2) ag))))
   (ax (aX (ay (aO (K:=K) rfl) (ay (aO (K:=K) rfl) (bq (K:=K) rfl (pv 0) rfl) (pv 1) (λ_ _=>rfl)) (pv 2) (λ_ _=>rfl)))))),?_⟩
  refine⟨_,rfl,p,C,dx,_,_,rfl,o1,TC.cl,TC.nC,cX _ _ _ _ _,_,rfl,⟨n,a,rfl,by omega,by omega⟩,λv1 H1 s1 _=>?_⟩;refine⟨_,rfl,p,C,dx,_,_,rfl,s1 _ _ o1,TC.cl,TC.nC,cX _ _ _ _ _,_,rfl,⟨n,b,rfl,by omega,by omega⟩,λv2 H2 s2 _=>?_⟩;have bS:=s1.trans s2;have e:eI n R a b = .int c:=gO G.dis hc.1 hc.2;exact⟨_,rfl,p,C,dx,_,_,rfl,bS _ _ o1,TC.cl,TC.nJ,qg _ _ _ _ _,_,rfl,ra,us,_,.ref rb,rfl,rfl,av.of (bS _ _ q1),aM q2,_,rfl,rb,_,_,.int c,rfl,rfl,av.of (bS _ _ q3),aM (by rw[dC hb,e]),kk _ bS⟩
abbrev CP:Stmt:=inClass (top 25) 3
theorem N5:aZ ["self","a","b"] ["self","a","b"] (aE CP):=⟨rfl,rfl,rfl,by decide +kernel,rfl,by decide +kernel,by decide +kernel⟩
noncomputable def Ed(C:Addr):Sp:=λvs H Q _=>∃(p n a b c:Nat) (R:Nat->Nat->Bool),vs = [.ref p,.int a,.int b]/\cN C H p n R/\Good n R/\a<n/\b<n/\bB n R a b c/\∀H',Same H H'->Q (.int c) H'
theorem YT {C:Addr} (F:aV K "meet" "Order.meet" CP f fd) (T:Txt mg) (TC:cD K C) (dv:ao P w K mg base "need_thing" ["count","number"] 3 kQ):aN P w K mg base aS 4 f fd ["self","a","b"] (Ed C):=by
 refine F.ok N5 (λvs H Q E h=>?_) (λcdv A outer s H vs Q E hr h=>?_)
 ·obtain⟨p,n,a,b,c,R,rfl,_⟩:=h
  rfl
 ·obtain⟨p,n,a,b,c,R,rfl,hO,G,ha,hb,hc,kk⟩:=h
  have nd:=N5.nd;obtain⟨dx,vp,vr,vj,vm,o1,_,_,_,o3⟩:=hO;obtain⟨ra,us,rb,rfl,q1,q2,q3⟩:=o3.get ha;refine⟨_,(au (cG (aH dv hr rfl (ae (bq (K:=K) rfl (pv 0) rfl) (ae (pv 1) ag))))
   (au (cG (aH dv hr rfl (ae (bq (K:=K) rfl (pv 0) rfl) (ae (pv 2) ag))))
   (ax (aX (ay (aO (K:=K) rfl) (ay (aO (K:=K) rfl) (bq (K:=K) rfl (pv 0) rfl) (pv 1) (λ_ _=>rfl)) (pv 2) (λ_ _=>rfl)))))),?_⟩
  refine⟨_,rfl,p,C,dx,_,_,rfl,o1,TC.cl,TC.nC,cX _ _ _ _ _,_,rfl,⟨n,a,rfl,by omega,by omega⟩,λv1 H1 s1 _=>?_⟩;refine⟨_,rfl,p,C,dx,_,_,rfl,s1 _ _ o1,TC.cl,TC.nC,cX _ _ _ _ _,_,rfl,⟨n,b,rfl,by omega,by omega⟩,λv2 H2 s2 _=>?_⟩;have bS:=s1.trans s2;have e:eI n (λa b=>R b a) a b = .int c:=gO G.ki hc.1 hc.2;exact⟨_,rfl,p,C,dx,_,_,rfl,bS _ _ o1,TC.cl,TC.nM,qh _ _ _ _ _,_,rfl,ra,us,_,.ref rb,rfl,rfl,av.of (bS _ _ q1),aM q2,_,rfl,rb,_,_,.int c,rfl,rfl,av.of (bS _ _ q3),aM (by rw[dC hb,e]),kk _ bS⟩
abbrev CN:Stmt:=inClass (top 25) 4
theorem N4:aZ ["self","found","thing"] ["self"] (aE CN):=⟨rfl,rfl,rfl,by decide +kernel,rfl,by decide +kernel,by decide +kernel⟩
noncomputable def Ec(C:Addr):Sp:=λvs H Q _=>∃(p n:Nat) (R:Nat->Nat->Bool),vs = [.ref p]/\cN C H p n R/\Good n R/\0<n/\n<=24/\∀c H',Same H H'->c<n->(∀x,x<n->R c x=true)->Q (.int (c:Nat)) H'
theorem YS {C:Addr} (F:aV K "lowest" "Order.lowest" CN f fd) (T:Txt mg) (TC:cD K C):aN P w K mg base aS 1 f fd ["self"] (Ec C):=by
 refine F.ok N4 (λvs H Q E h=>?_) (λcdv A outer s H vs Q E hr h=>?_)
 ·obtain⟨p,n,R,rfl,_⟩:=h
  rfl
 ·obtain⟨p,n,R,rfl,hO,G,h0,hn,kk⟩:=h
  have nd:=N4.nd;have en:((n:Int)).toNat=n:=bu n;obtain⟨dx,vp,vr,vj,vm,o1,_,_,_,o3⟩:=hO;refine⟨_,(au (aQ (i:=1) nd rfl (Or.inl rfl) ak)
   (au (cn b_ rfl (bY rfl T.range (ae (bq (K:=K) rfl (pv 0) rfl) ag)) (aW (i:=2) nd rfl (Or.inl rfl))
   (ax (aQ (i:=1) nd rfl (Or.inl rfl) (ay (aO (K:=K) rfl) (ay (aO (K:=K) rfl) (bq (K:=K) rfl (pv 0) rfl) (pv 1) (λ_ _=>rfl)) (pv 2) (λ_ _=>rfl)))))
   (ax (aX (pv 1))))),?_⟩
  refine⟨_,rfl,p,C,dx,_,_,rfl,o1,TC.cl,TC.nC,cX _ _ _ _ _,_,rfl,(a_ (by omega)).1,(a_ (by omega)).2,eu (lo:=0) (n:=((n:Int)).toNat) (λi σ H2=>∃(v2:Option V) (c:Nat),σ = [some (.ref p),some (.int c),v2]/\Same H H2/\c<n/\∀x,x<i->R c x=true)
   ⟨none,0,rfl,Same.refl _,h0,λx hx=>by omega⟩ ?_ ?_⟩
  ·rintro i σ H2 hi ⟨v2,c,rfl,s2,hc,hall⟩
   rw[en]at hi;obtain⟨ra,us,rb,rfl,q1,q2,q3⟩:=(o3.same s2).get hc;obtain⟨d,hd,hm⟩:=G.meet c i hc hi;have hM:bB n R c i d:=⟨hd,hm⟩;have e:eI n (λa b=>R b a) c i = .int d:=gO G.ki hd hm;refine⟨_,rfl,p,C,dx,_,_,rfl,s2 _ _ o1,TC.cl,TC.nM,qh _ _ _ _ _,_,rfl,ra,us,_,.ref rb,rfl,rfl,av.of q1,aM q2,_,rfl,rb,_,_,.int d,rfl,rfl,av.of q3,at0 (by rw[dC hi,e]),?_⟩;refine⟨_,d,rfl,s2,hd,λx hx=>?_⟩;have dn:=hM.dn G hc hi
   by_cases e:x=i
   ·subst e;exact dn.2
   ·exact G.trans hd hc (by omega) dn.1 (hall x (by omega))
  ·rintro σ H2 ⟨v2,c,rfl,s2,hc,hall⟩
   rw[en]at hall;exact⟨_,rfl,kk c _ s2 hc hall⟩
abbrev CJ:Stmt:=inClass (top 25) 5
theorem NZ:aZ ["self","found","thing"] ["self"] (aE CJ):=⟨rfl,rfl,rfl,by decide +kernel,rfl,by decide +kernel,by decide +kernel⟩
noncomputable def Ea(C:Addr):Sp:=λvs H Q _=>∃(p n:Nat) (R:Nat->Nat->Bool),vs = [.ref p]/\cN C H p n R/\Good n R/\0<n/\n<=24/\∀c H',Same H H'->c<n->(∀x,x<n->R x c=true)->Q (.int (c:Nat)) H'
theorem YM {C:Addr} (F:aV K "highest" "Order.highest" CJ f fd) (T:Txt mg) (TC:cD K C):aN P w K mg base aS 1 f fd ["self"] (Ea C):=by
 refine F.ok NZ (λvs H Q E h=>?_) (λcdv A outer s H vs Q E hr h=>?_)
 ·obtain⟨p,n,R,rfl,_⟩:=h
  rfl
 ·obtain⟨p,n,R,rfl,hO,G,h0,hn,kk⟩:=h
  have nd:=NZ.nd;have en:((n:Int)).toNat=n:=bu n;obtain⟨dx,vp,vr,vj,vm,o1,_,_,o3,_⟩:=hO;refine⟨_,(au (aQ (i:=1) nd rfl (Or.inl rfl) ak)
   (au (cn b_ rfl (bY rfl T.range (ae (bq (K:=K) rfl (pv 0) rfl) ag)) (aW (i:=2) nd rfl (Or.inl rfl))
   (ax (aQ (i:=1) nd rfl (Or.inl rfl) (ay (aO (K:=K) rfl) (ay (aO (K:=K) rfl) (bq (K:=K) rfl (pv 0) rfl) (pv 1) (λ_ _=>rfl)) (pv 2) (λ_ _=>rfl)))))
   (ax (aX (pv 1))))),?_⟩
  refine⟨_,rfl,p,C,dx,_,_,rfl,o1,TC.cl,TC.nC,cX _ _ _ _ _,_,rfl,(a_ (by omega)).1,(a_ (by omega)).2,eu (lo:=0) (n:=((n:Int)).toNat) (λi σ H2=>∃(v2:Option V) (c:Nat),σ = [some (.ref p),some (.int c),v2]/\Same H H2/\c<n/\∀x,x<i->R x c=true)
   ⟨none,0,rfl,Same.refl _,h0,λx hx=>by omega⟩ ?_ ?_⟩
  ·rintro i σ H2 hi ⟨v2,c,rfl,s2,hc,hall⟩
   rw[en]at hi;obtain⟨ra,us,rb,rfl,q1,q2,q3⟩:=(o3.same s2).get hc;obtain⟨d,hd,hm⟩:=G.join c i hc hi;have hM:bA n R c i d:=⟨hd,hm⟩;have e:eI n R c i = .int d:=gO G.dis hd hm;refine⟨_,rfl,p,C,dx,_,_,rfl,s2 _ _ o1,TC.cl,TC.nJ,qg _ _ _ _ _,_,rfl,ra,us,_,.ref rb,rfl,rfl,av.of q1,aM q2,_,rfl,rb,_,_,.int d,rfl,rfl,av.of q3,at0 (by rw[dC hi,e]),?_⟩;refine⟨_,d,rfl,s2,hd,λx hx=>?_⟩;have up:=hM.up G hc hi
   by_cases e:x=i
   ·subst e;exact up.2
   ·exact G.trans (by omega) hc hd (hall x (by omega)) up.1
  ·rintro σ H2 ⟨v2,c,rfl,s2,hc,hall⟩
   rw[en]at hall;exact⟨_,rfl,kk c _ s2 hc hall⟩
end
noncomputable def aR(n:Nat)(R:Nat->Nat->Bool)(a b:Nat):List Nat:=(List.range n).filter λc=>R a c&&R c b
theorem fK{n:Nat}{R:Nat->Nat->Bool}{a b c:Nat}:c∈aR n R a b ↔ c<n/\R a c=true/\R c b=true:=by
 unfold aR;rw[d7,bH,cM]
theorem yi(n:Nat)(R:Nat->Nat->Bool)(a b:Nat):(aR n R a b).length<=n:=by
 have:=iI (λc=>R a c&&R c b) (List.range n);rw[dh]at this;exact this
structure JM (n:Nat) (R:Nat->Nat->Bool) (J M:Nat->Nat->Nat):Prop where
 j:∀a b,a<n->b<n->bA n R a b (J a b)
 m:∀a b,a<n->b<n->bB n R a b (M a b)
theorem Good.jm{n:Nat}{R:Nat->Nat->Bool}(G:Good n R):∃J M,JM n R J M:=by
 classical
 refine⟨λa b=>if h:a<n/\b<n then Classical.choose (G.join a b h.1 h.2)else 0,λa b=>if h:a<n/\b<n then Classical.choose (G.meet a b h.1 h.2)else 0,λa b ha hb=>?_,λa b ha hb=>?_⟩
 ·rw[dif_pos ⟨ha,hb⟩]
  exact wW (G.join a b ha hb)
 ·rw[dif_pos ⟨ha,hb⟩]
  exact wW (G.meet a b ha hb)
section
variable {P:Program} {w:World} {K:W.Frag} {mg:Str->Option Value} {base:Heap} {f:Addr} {fd:FuncData}
abbrev vh:Stmt:=top 28
theorem N6:aZ ["order","a","b"] ["order","a","b"] (aE vh):=⟨rfl,rfl,rfl,by decide +kernel,rfl,by decide +kernel,by decide +kernel⟩
noncomputable def Dy(C:Addr):Sp:=λvs H Q _=>∃(p n a b:Nat) (R:Nat->Nat->Bool),vs = [.ref p,.int a,.int b]/\cJ C H p n R/\n<=24/\a<n/\b<n/\R a b=true/\∀L H',Same H H'->H L=none->H' L=some (.lst ((aR n R a b).map nV))->Q (.ref L) H'
theorem Yn {C:Addr} (F:aV K "between" "between" vh f fd) (T:Txt mg) (TC:cD K C) (mZ:fx P w K mg base C "at_most" ["self","a","b"] 4 (wc C)):aN P w K mg base aS 5 f fd ["order","a","b"] (Dy C):=by
 refine F.ok N6 (λvs H Q E h=>?_) (λcdv A outer s H vs Q E hr h=>?_)
 ·obtain⟨p,n,a,b,R,rfl,_⟩:=h
  rfl
 ·obtain⟨p,n,a,b,R,rfl,⟨R',hO,hR⟩,hn,ha,hb,hab,kk⟩:=h
  have nd:=N6.nd;obtain⟨dx,vp,vr,vj,vm,o1,_,o3,_⟩:=id hO;have nA:(dH n vp vr vj vm).lookup ("at_most" : Str)=none:=nG _ _ _ _ _ (by decide +kernel) (by decide +kernel) (by decide +kernel) (by decide +kernel) (by decide +kernel);obtain⟨ra,us,rb,rfl,q1,q2,q3⟩:=o3.get ha;have en:((n:Int)).toNat=n:=bu n;refine⟨_,(au (bU (iB (dM (kF mZ TC.cl hr (pv 0) (ae (pv 1) (ae (pv 2) ag))))) (ax qW) cq)
   (ax (aX (cS (own:=["thing"]) (fr:=[("order", 0),("a", 1),("b", 2)]) rfl (bX (aE vh) ["order","a","b"] rfl rfl (by decide +kernel)) (bY rfl T.range (ae (bq (K:=K) rfl (pv 0) rfl) ag)) (λ_ _ _ _=>⟨(aW (i:=0) (by decide +kernel:(["thing","order","a","b"]:List Str).Nodup) rfl (Or.inl rfl)),(ox (PW.pt (mn (dM (ay (aO (K:=K) rfl) (ay (aO (K:=K) rfl) (bq (K:=K) rfl (pv 1) rfl) (pv 2) (λ_ _=>rfl)) (pv 0) (λ_ _=>rfl))) (mq (dM (ay (aO (K:=K) rfl) (ay (aO (K:=K) rfl) (bq (K:=K) rfl (pv 1) rfl) (pv 0) (λ_ _=>rfl)) (pv 3) (λ_ _=>rfl))))))),(pv 0)⟩))))),?_⟩
  refine⟨_,rfl,p,dx,_,rfl,o1,nA,_,rfl,_,rfl,p,n,a,b,R',rfl,hO,ha,hb,λH1 s1=>⟨_,rfl,?_⟩⟩;rw[hR a b ha hb,hab];refine cz ?_;refine⟨_,rfl,p,C,dx,_,_,rfl,s1 _ _ o1,TC.cl,TC.nC,cX _ _ _ _ _,_,rfl,(a_ (by omega)).1,(a_ (by omega)).2,λD hD=>sS (λc=>R a c&&R c b) nV src_range hD (by rw[en];exact cH hn) (λj H3 Kt Kf hj hs hkt hkf=>?_) (λH3 hs3 hl3=>?_)⟩
  ·rw[en]at hj
   have s3:=s1.trans hs;obtain⟨ra',us',Nq,e',jQ,oy,qX⟩:=o3.get hj;cases e';refine⟨_,rfl,p,C,dx,_,_,rfl,s3 _ _ o1,TC.cl,TC.nR,jy _ _ _ _ _,_,rfl,ra,us,_,.ref rb,rfl,rfl,av.of (s3 _ _ q1),aM q2,_,rfl,rb,_,_,.bl (R' a j),rfl,rfl,av.of (s3 _ _ q3),at0 (dC hj),_,rfl,?_⟩;rw[hR a j ha hj];refine bM (λh=>?_) (λh=>?_)
   ·refine⟨_,rfl,p,C,dx,_,_,rfl,s3 _ _ o1,TC.cl,TC.nR,jy _ _ _ _ _,_,rfl,ra,us',_,.ref Nq,rfl,rfl,av.of (s3 _ _ jQ),at0 oy,_,rfl,Nq,_,_,.bl (R' j b),rfl,rfl,av.of (s3 _ _ qX),aM (dC hb),_,rfl,?_⟩
    rw[hR j b hj hb];refine bM (λh2=>?_) (λh2=>?_)
    ·refine⟨_,rfl,?_⟩
     rw[dg];exact hkt _ (by rw[h,h2];rfl) (Same.refl _)
    ·exact hkf _ (by rw[h,dU];simpa using h2) (Same.refl _)
   ·have h5:R a j=false:=by simpa using h
    exact cz (hkf _ (by rw[h5,gX]) (Same.refl _))
  ·rw[en]at hl3
   exact kk D H3 (s1.trans hs3) (Same.none s1 hD) hl3
end
section
variable {n:Nat} {R:Nat->Nat->Bool} {J N:Nat->Nat->Nat} {a b c x y d:Nat}
theorem ZC{l m:List Nat}(h:l.Perm m):l.sum=m.sum:=by
 induction h with
 |nil=>rfl
 |cons x _ ih=>rw[fT,fT,ih]
 |swap x y l=>rw[fT,fT,fT,fT];omega
 |trans _ _ i1 i2=>exact i1.trans i2
end
end My
namespace L2
open PySem PySem.Spec PyProof.Rows
theorem Mod.ext{K:W.Frag}{mg:Str->Option Value}{base base':Heap}(M:Mod K mg base)(h:∀b o,base.get? b=some o->base'.get? b=some o):Mod K mg base':=
 ⟨M.kx.keeps h,M.glob.keeps h,let⟨mb,h1,h2⟩:=M.blt;⟨mb,h1.keeps h,h2⟩,M.nolimit.keeps h⟩
theorem frames_at{h base:Heap}:∀{l:List Env},h.FunFrames base l->∀b∈frs l,∃o,h.get? b=some o/\base.get? b=none
 | [],_,b,hb=>by simp[frs]at hb
 |env::rest,⟨_,⟨L,o,e1,e2,e3,_⟩,r⟩,b,hb=>by
  unfold frs at hb;rw[mK,e1]at hb
  rcases bC.mp hb with rfl|hb
  ·exact⟨o,e3,e2⟩
  ·exact frames_at r b hb
theorem Jh{h base base':Heap}:∀{l:List Env},h.FunFrames base l->(∀b∈frs l,base'.get? b=none)->h.FunFrames base' l
 | [],_,_=>trivial
 |env::rest,⟨k,⟨L,o,e1,e2,e3,e4⟩,r⟩,hb=>by
  have e5:frs (env::rest)=L::frs rest:=by unfold frs;rw[mK,e1]
  exact⟨k,⟨L,o,e1,hb L (by rw[e5];exact cC),e3,e4⟩,Jh r λb h'=>hb b (by rw[e5];exact bT _ h')⟩
section
variable {X:Cx} {pins:List (Addr × Obj)} {σ:St} {H:Hp} {s:Shared}
theorem Inv.grow(I:Inv X pins σ H s)(hfn:∀x,X.fn x=true):∃base':Heap,(∀b o,X.base.get? b=some o->base'.get? b=some o)/\(∀x cc v,X.env.cells.lookup x=some cc->s.heap.IsCell cc v->base'.IsCell cc v)/\gC X.prog X.w X.K X.mg base' X.A X.stack s H:=by
 classical
 let Hs:Hp:=λb=>if(∃o,X.base.get? b=some o)\/∃x,X.env.cells.lookup x=some b then none else some (.own b)
 have h1:∀b,Hs b=none->(∃o,X.base.get? b=some o)\/∃x,X.env.cells.lookup x=some b:=λb e=>by
  show(∃o,X.base.get? b=some o)\/∃x,X.env.cells.lookup x=some b
  by_cases h:(∃o,X.base.get? b=some o)\/∃x,X.env.cells.lookup x=some b
  ·exact h
  ·have:Hs b=some (.own b):=aq h
   rw[this]at e;cases e
 have h2:∀b,((∃o,X.base.get? b=some o)\/∃x,X.env.cells.lookup x=some b)->Hs b=none:=λb h=>aC h;have keep:∀b o,X.base.get? b=some o->(fI s.heap Hs).get? b=some o:=λb o e=>Ae (I.bk b o e) (h2 b (.inl ⟨o,e⟩));refine⟨fI s.heap Hs,keep,λx cc v e ⟨o,e1,e2⟩=>⟨o,Ae e1 (h2 cc (.inr ⟨x,e⟩)),e2⟩,?_⟩;have bs:∀b o,(fI s.heap Hs).get? b=some o->s.heap.get? b=some o/\H b=none:=λb o e=>by
  obtain⟨e1,e2⟩:=Bw e;refine⟨e1,?_⟩
  rcases h1 b e2 with⟨o',q⟩|⟨x,q⟩
  ·exact(I.bs b o' q).2
  ·exact I.e9 x b q
 refine⟨I.ok.frames,I.ok.mod.ext keep,bs,rV (JD _ _),?_,I.Es,I.hok,I.bare⟩;refine Jh I.stack λb hb=>?_;cases q:(fI s.heap Hs).get? b with
 |none=>rfl
 |some o =>
  exfalso
  obtain⟨e1,e2⟩:=Bw q;obtain⟨_,_,nb⟩:=frames_at I.stack b hb
  rcases h1 b e2 with⟨o',z⟩|⟨x,z⟩
  ·rw[nb]at z;cases z
  ·have lo:=I.ok.cab x b (hfn x) z
   have old:∀b∈X.fs,b<X.s₀.heap.objs.size:=λb hb=>by
    obtain⟨o,e,_⟩:=frames_at I.ok.eJ b hb;exact a9 e
   have Tg:=I.cell x b z
   rcases I.ok.stk with e|⟨e,ef⟩
   ·rw[e]at hb
    exact absurd (old b hb) (Nat.not_lt.mpr lo)
   ·rw[e]at hb
    have e5:frs (X.env::X.outer)=X.env.locals::frs X.outer:=by unfold frs;rw[mK,ef]
    rw[e5]at hb
    rcases bC.mp hb with rfl|hb
    ·obtain⟨m,⟨o1,es,ep,g1,g2,_⟩,_⟩:=I.loc
     obtain⟨v,o2,g3,g4⟩:=Tg;rw[g1]at g3;cases g3;rw[g2]at g4;cases g4
    ·exact absurd (old b hb) (Nat.not_lt.mpr lo)
end
structure rS (P:Program) (w:World) (K:W.Frag) (mg:Str->Option Value) (base:Heap) (k:Nat) (p:Addr) (m:Nat) (sp:Sp):Prop where
 run:∀(A:Around) (outer:List Env) (s:Shared) (H:Hp) (us:List Value) (vs:List V) (Q:VK),bK k A->gC P w K mg base A outer s H->Vals vs us->vs.length=m->sp vs H Q E0 ->
  codeAny (model P w) A (.call (.ref p) ⟨us,[]⟩) (λr s'=>∃u,r = .ok (.ret u)/\CE outer P w H s Q u s') s
noncomputable def j3(H:Hp)(p:Addr):Prop:=∃qual params body scope cl,eE H p qual params body scope cl
theorem j3.same{H H':Hp}{p:Addr}(h:j3 H p)(s:Same H H'):j3 H' p:=let⟨a,b,c,d,e,L⟩:=h;⟨a,b,c,d,e,L.same s⟩
theorem j3.fn{P:Program}{w:World}{H:Hp}{h:Heap}{p:Addr}(L:j3 H p)(ok:b9 P w H h):W.FnAt p h:=by
 obtain⟨a,b,c,d,e,L⟩:=L;obtain⟨c',pm,ctv,e1,_⟩:=L.get ok;exact⟨_,_,_,_,e1⟩
noncomputable def aaZ(i:Nat)(p:Addr)(m:Nat)(sp:Sp)(t:TA):TE:=λσ H Q=>∃v,σ[i]?=some (some v)/\v = .ref p/\j3 H p/\t σ H λvs H1=>j3 H1 p/\vs.length=m/\sp vs H1 Q E0
section
variable {X:Cx} {x:Str} {k k' m:Nat} {p:Addr} {sp:Sp} {i:Nat} {e:Expr} {es:List Expr} {t:TA} {p0 pos:Pos}
theorem Zk(L:rS X.prog X.w X.K X.mg X.base k p m sp)(hr:bK k' X.A)(hv:PE X (.Name x p0) (kT i))(ha:PA X (e::es) t)(hk:k<=k':=by decide)
  (he:starEach (e::es) X.env=(false,eval e X.env)::starEach es X.env:=by rfl) (hpl:(backTo pos (starEach es X.env)).any (·.1)=false:=by rfl):PE X (.Call (.Name x p0) (e::es) [] pos) (aaZ i p m sp t):=by
 intro pins s σ H Q I h;obtain⟨v,e1,rfl,hF,h⟩:=h;refine lh (aL (hv pins s σ H (λv H1=>v = .ref p/\H1=H) I ⟨_,e1,rfl,rfl⟩) λu s0 ⟨v,H0,I0,rv,ev,eH⟩=>?_);subst ev eH;obtain rfl:u = .ref p:=rv;refine W.callWith_F (hF.fn I0.hok) (aL (ha pos pins s0 σ _ _ I0 h) λus s1 ⟨vs,H1,I1,r,U7,hl,q⟩=>⟨U7.fn I1.hok,?_⟩) he hpl;refine pF (hZ (L.run X.A X.stack s1 H1 us vs Q (hr.mono hk) I1.env0 r hl q) λr s' ⟨u,e,hq⟩=>?_);subst e;exact I1.after hq
end
theorem mJ.move{h h' base:Heap}{H H':Hp}{scope:Scope}{cl:List (Str × Addr)}{fr:List Str}{zs:St}(L:mJ h H scope cl fr zs)(hb:∀x cc v,cl.lookup x=some cc->h.IsCell cc v->base.IsCell cc v)(bs:∀b o,base.get? b=some o->h'.get? b=some o/\H' b=none):mJ h' H' scope cl fr zs where
 cell:=λx cc e=>by
  obtain⟨⟨v,z⟩,_⟩:=L.cell x cc e;obtain⟨o,e1,e2⟩:=hb x cc v e z;exact⟨⟨v,o,(bs cc o e1).1,e2⟩,(bs cc o e1).2⟩
 inj:=L.inj
 has:=L.has
 len:=L.len
 val:=λi x v e1 e2=>by
  obtain⟨cc,u,e3,e4,e5⟩:=L.val i x v e1 e2;obtain⟨o,e6,e7⟩:=hb x cc _ e3 e4;exact⟨cc,u,e3,⟨o,(bs cc o e6).1,e7⟩,e5⟩
structure FN (X:Cx) (qual:Str) (ps:List Str) (params:Arguments) (body:Expr) (scope:Scope) (fr:List (Str × Nat)) (k:Nat) (tb:TE):Prop where
 blk:fw X scope fr
 sc:oW ps (fr.map (·.1)) scope
 bind:∀(cl:List (Str × Addr)) (pm cd ctv:Value) (us:List Value),us.length=ps.length->bindArgs (W.kla_fn "<lambda>" qual params body scope cl pm cd ctv) ⟨us,[]⟩=pure (ps.zip us)
 run:∀(base:Heap) (A:Around) (outer:List Env) (s:Shared) (H:Hp) (p c:Addr) (cl:List (Str × Addr)),bK k A->PE (nz X.prog X.w X.K X.mg base (ps++fr.map (·.1)) qual scope p (.ref c) cl A outer s H) body tb
structure oM (P:Program) (w:World) (K:W.Frag) (mg:Str->Option Value) (x:Str) (ps:List Str) (k kl m:Nat) (kP:Addr->Sp->Sp):Prop where
 ex:∃(f:Addr) (fd:FuncData),(∀(base:Heap) (p:Addr) (kO:Sp),rS P w K mg base kl p m kO->aN P w K mg base aS k f fd ps (kP p kO))/\mg x=some (.ref f)/\W.keepIn K (.ref f)=true/\Binds K fd ps []
noncomputable def Qb(kP:Addr->Sp->Sp)(qual:Str)(params:Arguments)(body:Expr)(scope:Scope)(cl:List (Str × Addr))(fr:List (Str × Nat))(tb:TE)(t:TA):TE:=λσ H Q=>t σ H λvs H1=>∃p,eE H1 p qual params body scope cl /\
 kP p (λws H' Q' _=>eE H' p qual params body scope cl/\tb (ws.map some++lamσ fr σ) H' Q') vs H1 Q E0
section
variable {X:Cx} {x qual:Str} {k k' kl m:Nat} {kP:Addr->Sp->Sp} {ps qs:List Str} {params:Arguments} {body:Expr} {scope:Scope} {fr:List (Str × Nat)} {tb:TE} {e:Expr} {es:List Expr} {t:TA} {p0 pos:Pos}
theorem Zm (c:oM X.prog X.w X.K X.mg x ps k kl m kP) (hr:bK k' X.A) (hg:Gl X x) (B:FN X qual qs params body scope fr kl tb) (hfn:∀x,X.fn x=true) (hx:Passes aS X E0) (hm:qs.length=m) (ha:PA X (e::es) t) (hk:k<=k':=by decide) (hdb:(x==("__debug__" : Str))=false:=by decide)
  (he:starEach (e::es) X.env=(false,eval e X.env)::starEach es X.env:=by rfl) (hpl:(backTo pos (starEach es X.env)).any (·.1)=false:=by rfl) :
  PE X (.Call (.Name x p0) (e::es) [] pos) (Qb kP qual params body scope (cj X.env.cells scope.names []) fr tb t):=by
 obtain⟨f,fd,F,hmg,kp,b⟩:=c.ex;intro pins s σ H Q I h;refine lh (uA I hg hmg ?_ hdb);refine W.callWith_K (h₀:=X.base) I.ok.mod.kx kp (aL (ha pos pins s σ H _ I h) λus s1 ⟨vs,H1,I1,r,p,L,q⟩=>⟨I1.cF,?_⟩) he hpl;obtain⟨base',_,hc,e0⟩:=I1.grow hfn;have cells:=KQ B.blk I1;have LO:rS X.prog X.w X.K X.mg base' kl p m (λws H' Q' _=>eE H' p qual params body scope (cj X.env.cells scope.names [])/\tb (ws.map some++lamσ fr σ) H' Q'):=by
  refine⟨λA outer s2 H2 us vs Q' As e2 r hl ⟨L2,hq⟩=>?_⟩;obtain⟨c,pm,ctv,ho,hcd⟩:=L2.get e2.hok;exact KR B.sc As.depth As.hd e2 ho hcd (B.bind _ _ _ _ _ (by rw[<- r.length,hl,hm])) (hl.trans hm.symm) r (cells.move (λx cc v e z=>hc x cc v (B.blk.sub I1.ok e) z) e2.bs) (B.run base' A outer s2 H2 p c _ As) hq
 have FF:=F base' p _ LO;have hl:us.length=ps.length:=by rw[<- r.length];exact FF.len _ _ _ _ q
 have hb:=b s1 us I1.cF (by rw[oZ];exact hl);rw[oZ]at hb;refine pF (hZ (FF.run X.A X.stack s1 H1 ⟨us,[]⟩ us vs Q E0 (hr.mono hk) e0 hb r q) λr s' hq=>?_);cases r with
 |error e=>exact hx pins σ H1 s1 e s' I1 hq
 |ok fl =>
  cases fl with
  |ret u=>exact I1.after hq
  |next=>exact False.elim hq
  |brk=>exact False.elim hq
  |cont=>exact False.elim hq
theorem MF {e:Expr} {t1:TE} {cc Pt:Addr} {iw:Pos} (c:oM X.prog X.w X.K X.mg x ps k kl m kP) (T:TabAt X.base X.mg cc Pt) (hcode:X.env.code = .ref cc) (hr:bK k' X.A) (hg:Gl X x) (B:FN X (X.env.qual ++ "<lambda>") qs params body scope fr kl tb) (hfn:∀x,X.fn x=true) (hx:Passes aS X E0) (hm:qs.length=m) (h1:PE X e t1) (hk:k<=k':=by decide) (hdb:(x==("__debug__" : Str))=false:=by decide)
  (hdef:defaultsOf params X.env=([],[]):=by rfl) (he:starEach [e,.Lambda params body scope iw] X.env = [(false,eval e X.env),(false,eval (.Lambda params body scope iw) X.env)]:=by rfl) :
  PE X (.Call (.Name x p0) [e,.Lambda params body scope iw] [] pos) (Qb kP (X.env.qual ++ "<lambda>") params body scope (cj X.env.cells scope.names []) fr tb (jS t1 (jS (Qj Pt iw (X.env.qual ++ "<lambda>") params body scope (cj X.env.cells scope.names [])) kR))):=by
 have he2:starEach [Expr.Lambda params body scope iw] X.env = [(false,eval (.Lambda params body scope iw) X.env)]:=rfl;exact Zm c hr hg B hfn hx hm (ae h1 (ae (MJ T hcode (λok y hy hk=>ok.has _ (B.blk.free y hy hk)) hdef) ag he2) he) hk hdb he (by rw[he2];rfl)
end
end L2
namespace My
open PySem PySem.Spec PyProof.Rows L2
theorem aaS{K:W.Frag}{c:Bool}{a:Addr}{xs:List V}{ρ:L2.St}{H1:Hp}(h:Sq c K H1 a xs):gI (Ite K c a) (nO K 2 (jB (bj 0) (jB (bj 1) qj))) (none::none::ρ) H1 xs.length (λi=>some (.int (i:Int))::some (xs.getD i .non)::ρ) where
 go:=λi H hi hs=>⟨xs,xs[i],hs.sq h,aI hi⟩
 stop:=λH hs=>⟨xs,hs.sq h,rfl⟩
 step:=λi H v H' Kk hi hs hy hk=>by
  obtain⟨T,x,rfl,hT,rfl,hx⟩:=hy;have e1:=hx xs (hs.sq h);have e3:xs.getD i .non=x:=by rw[bh,e1];rfl
  refine⟨T,[.int (i:Int),x],rfl,.inl (.inl aA),rfl,.int (i:Int),[x],rfl,x,[],rfl,rfl,?_⟩;have:=hk (upd H T (.tup [.int (i:Int),x])) (Same.put hT);rw[e3]at this;exact⟨Wk.set (Wk.set (Wk.refl _) rfl) rfl,this⟩
noncomputable def mW(n:Nat)(R:Nat->Nat->Bool)(k:Nat):List (Nat × Nat):=(List.range k).flatMap λl=>((List.range n).filter λh=>R l h).map λh=>(l,h)
theorem uB{n k:Nat}{R:Nat->Nat->Bool}{p:Nat × Nat}:p∈mW n R k ↔ p.1<k/\p.2<n/\R p.1 p.2=true:=by
 unfold mW;rw[mM]
 constructor
 ·rintro⟨l,hl,h⟩
  obtain⟨j,hj,rfl⟩:=cu.mp h;obtain⟨h1,h2⟩:=d7.mp hj;exact⟨by simpa using hl,by simpa using h1,h2⟩
 ·rintro⟨h1,h2,h3⟩
  exact⟨p.1,by simpa using h1,cu.mpr ⟨p.2,d7.mpr ⟨by simpa using h2,h3⟩,rfl⟩⟩
noncomputable def fF(R:Nat->Nat->Bool)(l:List Nat)(i j:Nat):Bool:=R (l.getD i 0) (l.getD j 0)
theorem Good.cut{n:Nat}{R:Nat->Nat->Bool}(G:Good n R){a b:Nat}(ha:a<n)(hb:b<n):Good (aR n R a b).length (fF R (aR n R a b)):=by
 have nd:(aR n R a b).Nodup:=rU.filter _;have g:∀i,i<(aR n R a b).length->(aR n R a b).getD i 0<n/\R a ((aR n R a b).getD i 0)=true/\R ((aR n R a b).getD i 0) b=true:=λi hi=>fK.mp (Ev.getD_mem hi);refine⟨λi hi=>G.refl _ (g i hi).1,λi j hi hj h1 h2=>Ev.getD_inj nd hi hj (G.anti _ _ (g i hi).1 (g j hj).1 h1 h2),λi j hi hj=>?_,λi j hi hj=>?_⟩
 ·obtain⟨c,hc,h⟩:=G.join _ _ (g i hi).1 (g j hj).1
  have hJ:bA n R ((aR n R a b).getD i 0) ((aR n R a b).getD j 0) c:=⟨hc,h⟩;have up:=hJ.up G (g i hi).1 (g j hj).1;obtain⟨k,hk,e⟩:=Ev.nS (fK.mpr ⟨hc,G.trans ha (g i hi).1 hc (g i hi).2.1 up.1,by rw[h b hb,(g i hi).2.2,(g j hj).2.2];rfl⟩);exact⟨k,hk,λx hx=>by unfold fF;rw[e];exact h _ (g x hx).1⟩
 ·obtain⟨c,hc,h⟩:=G.meet _ _ (g i hi).1 (g j hj).1
  have hM:bB n R ((aR n R a b).getD i 0) ((aR n R a b).getD j 0) c:=⟨hc,h⟩;have dn:=hM.dn G (g i hi).1 (g j hj).1;obtain⟨k,hk,e⟩:=Ev.nS (fK.mpr ⟨hc,by rw[h a ha,(g i hi).2.1,(g j hj).2.1];rfl,G.trans hc (g i hi).1 hb dn.1 (g i hi).2.2⟩);exact⟨k,hk,λx hx=>by unfold fF;rw[e];exact h _ (g x hx).1⟩
section
variable {P:Program} {w:World} {K:W.Frag} {mg:Str->Option Value} {base:Heap} {f:Addr} {fd:FuncData}
abbrev vF:Stmt:=top 26
theorem Pj:aZ ["things","is_at_most","pairs","low","one"] ["things","is_at_most"] (aE vF):=⟨rfl,rfl,rfl,by decide +kernel,rfl,by decide +kernel,by decide +kernel⟩
noncomputable def wu(K:W.Frag)(C p:Addr)(kO:Sp):Sp:=λvs H Q _=>∃(l:Nat) (xs:List V) (R:Nat->Nat->Bool),vs = [.ref l,.ref p]/\ai K H l xs/\1<=xs.length/\xs.length<=24/\j3 H p/\Good xs.length R /\
 (∀i j x y H' Q',xs[i]?=some x->xs[j]?=some y->Same H H'->(∀Fv,Same H' Fv->Q' (.bl (R i j)) Fv)->kO [x,y] H' Q' E0)/\∀z H',Same H H'->cJ C H' z xs.length R->Q (.ref z) H'
theorem Y_ {C p:Addr} {kO:Sp} (F:aV K "order_by" "order_by" vF f fd) (T:Txt mg) (ie:k6 P w K mg base C "Order" ["self","count","pairs"] 5 (oC K C)) (LO:rS P w K mg base 1 p 2 kO):aN P w K mg base aS 7 f fd ["things","is_at_most"] (wu K C p kO):=by
 refine F.ok Pj (λvs H Q E h=>?_) (λcdv A outer s H vs Q E hr h=>?_)
 ·obtain⟨l,xs,R,rfl,_⟩:=h
  rfl
 ·obtain⟨l,xs,R,rfl,hl,h1,hn,hF,G,hL,kk⟩:=h
  have nd:=Pj.nd;refine⟨_,(au (aQ (i:=2) nd rfl (Or.inl rfl) (dY ag))
   (au (cn b_ rfl (uV (K:=K) true rfl rfl T.enumerate (ae (pv 0) ag)) (qT (K:=K) rfl rfl (fN (aW (i:=3) nd rfl (Or.inr rfl)) (fN (aW (i:=4) nd rfl (Or.inr rfl)) ow)))
   (ax (cG (fM (K:=K) rfl gH r9 xM uF (pv 2) (ae (cS (own:=["high","other"]) (fr:=[("low", 3),("is_at_most", 1),("one", 4)]) rfl (bX (aE vF) ["things","is_at_most","pairs","low","one"] rfl rfl (by decide +kernel)) (uV (K:=K) true rfl rfl T.enumerate (ae (pv 0) ag)) (λ_ _ _ _=>⟨(ou (K:=K) (i:=0) (j:=1) rfl rfl (by decide +kernel:(["high","other","low","is_at_most","one"]:List Str).Nodup) rfl rfl rfl rfl),(ox (dM (Zk LO hr (pv 3) (ae (pv 4) (ae (pv 1) ag))))),(eT (ae (pv 2) (ae (pv 0) ag)))⟩)) ag)))))
   (ax (aX (uT ie hr rfl (ae (cA (dw (K:=K) rfl) rfl T.len dF (ae (pv 0) ag)) (ae (pv 2) ag))))))),?_⟩
  refine⟨by show 0<=sizeLine;decide,λL Jn=>?_⟩;have sL:=Same.put Jn (o:=.lst ([]:List V));dsimp only[bj];show bG _ _ _ [some (.ref l),some (.ref p),some (.ref L),none,none] _;refine⟨_,rfl,l,xs,rfl,sL.sq (c:=true) hl,zN (K:=K) (c:=true) (l:=l) (xs:=xs) (λi σ H2=>∃(v3 v4:Option V) (ws:List V),σ = [some (.ref l),some (.ref p),some (.ref L),v3,v4]/\Same H H2/\H2 L=some (.lst ws)/\ws.length<=24*i/\Paired (ck H2) (mW xs.length R i) ws)
   ⟨none,none,[],rfl,sL,aA,cW _,.nil⟩ (λi σ H2 ⟨_,_,_,_,s2,_⟩=>s2.sq (c:=true) hl) ?_ ?_⟩
  ·rintro i x σ H2 Tt hx zZ ⟨v3,v4,ws,rfl,s2,hL2,hwl,kr⟩
   have hi:i<xs.length:=(bD.mp hx).1;have sT:=Same.put zZ (o:=.tup [V.int (i:Int),x]);refine⟨Tt,_,rfl,av.of aA,rfl,_,_,rfl,_,_,rfl,rfl,?_⟩;dsimp only[bj];show Qf _ _ [some (.ref l),some (.ref p),some (.ref L),some (.int (i:Int)),some x] _;have kM:=s2.trans sT;have zW:=sT _ _ hL2;refine⟨_,rfl,.inl ⟨rfl,_,ai.of zW⟩,_,rfl,l,xs,rfl,kM.sq (c:=true) hl,λD hD=>?_⟩;refine qe (λj=>R i j) (λj v H=>∃t,v = .ref t/\t≠D/\H t=some (.tup [.int (i:Int),.int (j:Int)])) (aaS (c:=true) (kM.sq (c:=true) hl)) hD (cH hn) (λj v H H' s ⟨b,e,hb,q⟩=>⟨b,e,hb,s _ _ hb q⟩) (λj H3 Kt Kf hj hs hy hkt hkf=>?_) (λH3 ys hs hl3 hp3=>?_)
   ·obtain⟨zs,hz⟩:=hy
    have dm:=kM.trans hs;have ey:xs.getD j .non=xs[j]:=by rw[bh,aI hj];rfl
    refine⟨_,rfl,rfl,hF.same dm,_,rfl,_,rfl,hF.same dm,rfl,?_⟩;rw[ey];refine hL i j x xs[j] H3 _ hx (aI hj) dm λH4 s4=>⟨_,rfl,bM (λh=>?_) (λh=>?_)⟩
    ·refine⟨_,rfl,_,rfl,by show 2<=sizeLine;decide,λt ht=>?_⟩
     exact hkt _ _ h (s4.trans (Same.put ht)) ⟨t,rfl,(λe=>by rw[e,s4 _ _ hz]at ht;cases ht),aA⟩
    ·exact hkf _ (by simpa using h) s4
   ·have Aj:ys.length<=xs.length:=by
     have h1:=cK hp3;have h2:=iI (λj=>R i j) (List.range xs.length);rw[dh]at h2;omega
    have eM:=hs _ _ zW;have hDL:D≠L:=λe=>by rw[e,zW]at hD;cases hD
    refine⟨L,D,ws,ys,rfl,rfl,eM,hl3,by have:=@d4 100000 (by omega);omega,?_⟩;refine⟨_,_,ws++ys,rfl,λb o e=>?_,aA,by rw[cU];omega,?_⟩
    ·rw[aJ (bO e Jn)]
     exact hs _ _ (kM _ _ e)
    ·unfold mW
     rw[kJ];refine kE eM (iA (c9.same (sT.trans hs) kr) (jN ?_));exact Paired.dB hp3 λj v ⟨t,e,_,q⟩=>⟨t,e,q⟩
  ·rintro σ H2 ⟨v3,v4,ws,rfl,s2,hL2,hwl,kr⟩
   refine⟨_,rfl,l,xs,rfl,.inl (s2.seq hl),_,rfl,λx dx hx hdx hne=>?_⟩;have s4:Same H2 (upd (upd H2 dx (.own x)) x (.ins C dx [])):=λb o e=>by
    rw[aJ (bO e hx),aJ (bO e hdx)];exact e
   have le:∀p∈mW xs.length R xs.length,R p.1 p.2=true:=λp hp=>(uB.mp hp).2.2;have al:∀a b,a<xs.length->b<xs.length->a≠b->R a b=true->(a,b)∈mW xs.length R xs.length:=λa b ha hb _ h=>uB.mpr ⟨ha,hb,h⟩;refine⟨x,dx,xs.length,L,_,rfl,aA,⟨ws,ai.of (s4 _ _ hL2),c9.same s4 kr⟩,h1,hn,λp hp=>⟨(uB.mp hp).1,(uB.mp hp).2.1⟩,λR2 hC=>G.congr (sP G le al hC),λH5 R2 fr hC zX=>⟨rfl,?_⟩⟩;have s5:Same H2 H5:=λb o e=>fr b o (s4 _ _ e) (bO e hx);exact kk x H5 (s2.trans s5) ⟨R2,zX,sP G le al hC⟩
abbrev vk:Stmt:=top 29
theorem N9:aZ ["order","a","b"] ["order","a","b"] (aE vk):=⟨rfl,rfl,rfl,by decide +kernel,rfl,by decide +kernel,by decide +kernel⟩
abbrev nu:Pos:=⟨134,42,134,84⟩
abbrev ny:Str:=("cut" : Str) ++ ".<locals>." ++ "<lambda>"
noncomputable def vQ(C Pt:Addr):Sp:=λvs H Q _=>∃(p n a b:Nat) (R:Nat->Nat->Bool),vs = [.ref p,.int a,.int b]/\cJ C H p n R/\Good n R/\n<=24/\a<n/\b<n/\R a b=true/\H Pt=some (.lam nu ny) /\
 ∀z H',Same H H'->cJ C H' z (aR n R a b).length (fF R (aR n R a b))->Q (.ref z) H'
theorem Yq {C c Pt:Addr} (F:aV K "cut" "cut" vk f fd) (hc:fd.code = .ref c) (tb:TabAt base mg c Pt) (T:Txt mg) (TC:cD K C) (yk:ao P w K mg base "between" ["order","a","b"] 5 (Dy C)) (ni:oM P w K mg "order_by" ["things","is_at_most"] 7 1 2 (wu K C)):aN P w K mg base aS 8 f fd ["order","a","b"] (vQ C Pt):=by
 refine F.Bx hc N9 (λvs H Q E h=>?_) (λA outer s H vs Q E hr h=>?_)
 ·obtain⟨p,n,a,b,R,rfl,_⟩:=h
  rfl
 ·obtain⟨p,n,a,b,R,rfl,hOf,G,hn,ha,hb,hab,hP,kk⟩:=h
  have nd:=N9.nd;refine⟨_,(ax (aX (MF (qs:=["one","other"]) (fr:=[("order", 0)]) ni tb rfl hr rfl ⟨bX (aE vk) ["order","a","b"] rfl rfl (by decide +kernel),⟨rfl,rfl,rfl,by decide +kernel,by decide +kernel,by decide +kernel,by decide +kernel⟩,λ_ _ _ _ us hl=>match us,hl with | [_,_],_=>rfl,λ_ _ _ _ _ _ _ _ _=>ay (aO (K:=K) rfl) (ay (aO (K:=K) rfl) (bq (K:=K) rfl (pv 2) rfl) (pv 0) (λ_ _=>rfl)) (pv 1) (λ_ _=>rfl)⟩ (λ_=>rfl) ot rfl (aH yk hr rfl (ae (pv 0) (ae (pv 1) (ae (pv 2) ag (aF nofun)) (aF nofun)) (aF nofun)))))),?_⟩;obtain⟨R',hO,hR⟩:=id hOf;refine⟨_,rfl,_,rfl,_,rfl,p,n,a,b,R,rfl,hOf,hn,ha,hb,hab,λlb H1 s1 V2 hlb=>?_⟩;refine⟨s1 _ _ hP,λq H2 s2 hq lK=>?_⟩;have bS:=s1.trans s2;have hmem:a∈aR n R a b:=fK.mpr ⟨ha,G.refl a ha,hab⟩;have hpos:1<=(aR n R a b).length:=rT hmem;have hle:=yi n R a b;refine⟨q,lK,lb,(aR n R a b).map nV,fF R (aR n R a b),rfl,ai.of (s2 _ _ hlb),by rw[aG];exact hpos,by rw[aG];omega,⟨_,_,_,_,_,lK⟩,by rw[aG];exact G.cut ha hb,λi j x y H' Q' hx hy s' hQ=>⟨lK.same s',?_⟩,λz H' s' qo=>kk z H' (bS.trans s') (by rw[aG]at qo;exact qo)⟩;have hi:i<(aR n R a b).length:=by have:=(bD.mp hx).1;rwa [aG]at this
  have hj:j<(aR n R a b).length:=by have:=(bD.mp hy).1;rwa [aG]at this
  rw[i_ hi]at hx;rw[i_ hj]at hy;cases hx;cases hy;have gi:=(fK.mp (Ev.getD_mem hi)).1;have gj:=(fK.mp (Ev.getD_mem hj)).1;obtain⟨dx,vp,vr,vj,vm,o1,_,o3,_⟩:=id (hO.bx (bS.trans s'));obtain⟨ra,us,rb,rfl,q1,q2,q3⟩:=o3.get gi;refine⟨_,rfl,p,C,dx,_,_,rfl,o1,TC.cl,TC.nR,jy _ _ _ _ _,_,rfl,ra,us,_,.ref rb,rfl,rfl,av.of q1,aM q2,_,rfl,rb,_,_,.bl (R' ((aR n R a b).getD i 0) ((aR n R a b).getD j 0)),rfl,rfl,av.of q3,aM (dC gj),?_⟩;rw[hR _ _ gi gj];exact hQ _ (Same.refl _)
end
noncomputable def kH(n m:Nat):List (Nat × Nat):=(List.range n).flatMap λa=>(List.range m).map λc=>(a,c)
theorem uY(n m:Nat):(kH n m).length=n*m:=by
 unfold kH
 induction n with
 |zero=>simp
 |succ n ih=>rw[kJ,cU,ih,aG,dh,j7]
theorem M6(n m:Nat):∀i,i<n*m->(kH n m)[i]?=some (i / m,i % m):=by
 induction n with
 |zero=>intro i hi;simp at hi
 |succ n ih =>
  intro i hi;have hm:0<m:=rY λz=>by subst z;simp at hi
  unfold kH;rw[kJ];show(kH n m++(List.range m).map λc=>(n,c))[i]?=_
  by_cases h:i<n*m
  ·rw[jh (by rw[uY];exact h)]
   exact ih i h
  ·rw[iH (by rw[uY];omega),uY]
   have h2:i - n*m<m:=by rw[j7]at hi;omega
   rw[cT,ji h2];have e1:i / m=n:=by
    apply Nat.div_eq_of_lt_le
    ·omega
    ·exact hi
   have e2:i % m=i - n*m:=by rw[Nat.mod_def,e1,g9]
   rw[e1,e2];rfl
noncomputable def bf(R1 R2:Nat->Nat->Bool)(m i j:Nat):Bool:=R1 (i / m) (j / m)&&R2 (i % m) (j % m)
theorem Good.prod{n m:Nat}{R1 R2:Nat->Nat->Bool}(G1:Good n R1)(G2:Good m R2):Good (n*m) (bf R1 R2 m):=by
 have hm:∀i,i<n*m->0<m:=λi hi=>rY λz=>by subst z;simp at hi
 have hd:∀i,i<n*m->i / m<n/\i % m<m:=λi hi=>⟨xx (by rw[g9];exact hi),pk _ (hm i hi)⟩;have mk:∀a c,a<n->c<m->a*m+c<n*m/\(a*m+c) / m=a/\(a*m+c) % m=c:=λa c ha hc=>by
  refine⟨?_,?_,?_⟩
  ·have:(a+1)*m<=n*m:=GD m ha
   rw[j7]at this;omega
  ·rw[xv,Rq _ _ (by omega),Gq hc,pz]
  ·rw[xv,Rr,Gv hc]
 refine⟨λi hi=>?_,λi j hi hj h1 h2=>?_,λi j hi hj=>?_,λi j hi hj=>?_⟩
 ·unfold bf
  rw[G1.refl _ (hd i hi).1,G2.refl _ (hd i hi).2];rfl
 ·unfold bf at h1 h2
  rw[bH]at h1 h2;have e1:=G1.anti _ _ (hd i hi).1 (hd j hj).1 h1.1 h2.1;have e2:=G2.anti _ _ (hd i hi).2 (hd j hj).2 h1.2 h2.2;rw[<- Gm i m,<- Gm j m,e1,e2]
 ·obtain⟨a,ha,h1⟩:=G1.join _ _ (hd i hi).1 (hd j hj).1
  obtain⟨c,hc,h2⟩:=G2.join _ _ (hd i hi).2 (hd j hj).2;obtain⟨k1,k2,k3⟩:=mk a c ha hc;refine⟨a*m+c,k1,λx hx=>?_⟩;unfold bf;rw[k2,k3,h1 _ (hd x hx).1,h2 _ (hd x hx).2];cases R1 (i / m) (x / m)<;>cases R1 (j / m) (x / m)<;>cases R2 (i % m) (x % m)<;>cases R2 (j % m) (x % m)<;>rfl
 ·obtain⟨a,ha,h1⟩:=G1.meet _ _ (hd i hi).1 (hd j hj).1
  obtain⟨c,hc,h2⟩:=G2.meet _ _ (hd i hi).2 (hd j hj).2;obtain⟨k1,k2,k3⟩:=mk a c ha hc;refine⟨a*m+c,k1,λx hx=>?_⟩;unfold bf;rw[k2,k3,h1 _ (hd x hx).1,h2 _ (hd x hx).2];cases R1 (x / m) (i / m)<;>cases R1 (x / m) (j / m)<;>cases R2 (x % m) (i % m)<;>cases R2 (x % m) (j % m)<;>rfl
section
variable {P:Program} {w:World} {K:W.Frag} {mg:Str->Option Value} {base:Heap} {f:Addr} {fd:FuncData}
abbrev vN:Stmt:=top 30
theorem Px:aZ ["one","other","told","thing"] ["one","other"] (aE vN):=⟨rfl,rfl,rfl,by decide +kernel,rfl,by decide +kernel,by decide +kernel⟩
noncomputable def Ej(C:Addr):Sp:=λvs H Q _=>∃(p q n m:Nat) (R1 R2:Nat->Nat->Bool),vs = [.ref p,.ref q]/\cJ C H p n R1/\cJ C H q m R2/\n<=24/\m<=24/\∀L us H',Same H H'->H L=none->H' L=some (.lst us)->Paired (ck H') (kH n m) us->Q (.ref L) H'
theorem Y7 {C:Addr} (F:aV K "two_things" "two_things" vN f fd) (T:Txt mg) (TC:cD K C):aN P w K mg base aS 1 f fd ["one","other"] (Ej C):=by
 refine F.ok Px (λvs H Q E h=>?_) (λcdv A outer s H vs Q E hr h=>?_)
 ·obtain⟨p,q,n,m,R1,R2,rfl,_⟩:=h
  rfl
 ·obtain⟨p,q,n,m,R1,R2,rfl,⟨pJ,eN,_⟩,⟨lu,dA,_⟩,hn,hm,kk⟩:=h
  have nd:=Px.nd;obtain⟨dx,vp,vr,vj,vm,o1,_⟩:=id eN;obtain⟨dy,yp,yr,yj,ym,o2,_⟩:=id dA;have en:((n:Int)).toNat=n:=bu n;have em:((m:Int)).toNat=m:=bu m;refine⟨_,(au (aQ (i:=2) nd rfl (Or.inl rfl) (dY ag))
   (au (cn b_ rfl (bY rfl T.range (ae (bq (K:=K) rfl (pv 0) rfl) ag)) (aW (i:=3) nd rfl (Or.inr rfl))
   (ax (cG (fM (K:=K) rfl gH r9 xM uF (pv 2) (ae (cS (own:=["beside"]) (fr:=[("thing", 3)]) rfl (bX (aE vN) ["one","other","told","thing"] rfl rfl (by decide +kernel)) (bY rfl T.range (ae (bq (K:=K) rfl (pv 1) rfl) ag)) (λ_ _ _ _=>⟨(aW (i:=0) (by decide +kernel:(["beside","thing"]:List Str).Nodup) rfl (Or.inl rfl)),da,(eT (ae (pv 1) (ae (pv 0) ag)))⟩)) ag)))))
   (ax (aX (pv 2))))),?_⟩
  refine⟨by show 0<=sizeLine;decide,λL hL=>?_⟩;have sL:=Same.put hL (o:=.lst ([]:List V));refine⟨_,rfl,p,C,dx,_,_,rfl,sL _ _ o1,TC.cl,TC.nC,cX _ _ _ _ _,_,rfl,(a_ (by omega)).1,(a_ (by omega)).2,eu (lo:=0) (n:=((n:Int)).toNat) (λi σ H2=>∃(v3:Option V) (ws:List V),σ = [some (.ref p),some (.ref q),some (.ref L),v3]/\Same H H2/\H2 L=some (.lst ws)/\ws.length=i*m/\Paired (ck H2) (kH i m) ws) ⟨none,[],rfl,sL,aA,by simp,.nil⟩ ?_ ?_⟩
  ·rintro i σ H2 hi ⟨v3,ws,rfl,s2,hL2,hwl,kr⟩
   rw[en]at hi;refine⟨_,rfl,.inl ⟨rfl,_,ai.of hL2⟩,_,rfl,q,C,dy,_,_,rfl,s2 _ _ o2,TC.cl,TC.nC,cX _ _ _ _ _,_,rfl,(a_ (by omega)).1,(a_ (by omega)).2,λD hD=>?_⟩;refine kh (λj v H=>∃t,v = .ref t/\t≠D/\H t=some (.tup [.int (i:Int),.int (j:Int)])) src_range hD (by rw[em];exact cH hm) (λj v H H' s ⟨b,e,hb,q⟩=>⟨b,e,hb,s _ _ hb q⟩) (λj H3 Kt hj hs hy hk=>?_) (λH3 ys hs hl3 hp3=>?_)
   ·obtain⟨zs,hz⟩:=hy
    refine⟨_,rfl,_,rfl,by show 2<=sizeLine;decide,λt ht=>?_⟩;refine hk _ _ (Same.put ht) ⟨t,rfl,(λe=>by rw[e,hz]at ht;cases ht),?_⟩;rw[aA,dg,dg]
   ·rw[em]at hp3
    have hyl:=cK hp3;rw[dh]at hyl;have eM:=hs _ _ hL2;have hnm:i*m<=24*24:=Gw (by omega) hm;refine⟨L,D,ws,ys,rfl,rfl,eM,hl3,by have:=@d4 100000 (by omega);omega,?_⟩;refine⟨_,ws++ys,rfl,λb o e=>?_,aA,by rw[cU,hwl,j7];omega,?_⟩
    ·rw[aJ (bO e hL)]
     exact hs _ _ (s2 _ _ e)
    ·unfold kH
     rw[kJ];refine kE eM (iA (c9.same hs kr) (jN ?_));exact Paired.dB hp3 λj v ⟨t,e,_,q⟩=>⟨t,e,q⟩
  ·rintro σ H2 ⟨v3,ws,rfl,s2,hL2,hwl,kr⟩
   rw[en]at kr;exact⟨_,rfl,kk L ws H2 s2 hL hL2 kr⟩
abbrev vJ:Stmt:=top 31
theorem Pp:aZ ["one","other"] ["one","other"] (aE vJ):=⟨rfl,rfl,rfl,by decide +kernel,rfl,by decide +kernel,by decide +kernel⟩
abbrev rB:Pos:=⟨142,44,142,121⟩
abbrev rC:Str:=("side_by_side" : Str) ++ ".<locals>." ++ "<lambda>"
noncomputable def wC(C Pt:Addr):Sp:=λvs H Q _=>∃(p q n m:Nat) (R1 R2:Nat->Nat->Bool),vs = [.ref p,.ref q]/\cJ C H p n R1/\cJ C H q m R2/\Good n R1/\Good m R2/\0<n/\0<m/\n*m<=24/\H Pt=some (.lam rB rC)/\∀z H',Same H H'->cJ C H' z (n*m) (bf R1 R2 m)->Q (.ref z) H'
theorem Y3 {C c Pt:Addr} (F:aV K "side_by_side" "side_by_side" vJ f fd) (hc:fd.code = .ref c) (tb:TabAt base mg c Pt) (T:Txt mg) (TC:cD K C) (kg:ao P w K mg base "need_count" ["count"] 2 rG) (yD:ao P w K mg base "two_things" ["one","other"] 1 (Ej C)) (ni:oM P w K mg "order_by" ["things","is_at_most"] 7 1 2 (wu K C)):aN P w K mg base aS 8 f fd ["one","other"] (wC C Pt):=by
 refine F.Bx hc Pp (λvs H Q E h=>?_) (λA outer s H vs Q E hr h=>?_)
 ·obtain⟨p,q,n,m,R1,R2,rfl,_⟩:=h
  rfl
 ·obtain⟨p,q,n,m,R1,R2,rfl,h1,h2,G1,G2,hn0,hm0,hnm,hP,kk⟩:=h
  have nd:=Pp.nd;have hpos:1<=n*m:=Nat.mul_pos hn0 hm0;have hn:n<=24:=by
   have:n*1<=n*m:=Nat.mul_le_mul_left n hm0;omega
  have hm:m<=24:=by
   have:1*m<=n*m:=GD m hn0;omega
  obtain⟨pJ,eN,km⟩:=id h1;obtain⟨lu,dA,f9⟩:=id h2;obtain⟨dx,vp,vr,vj,vm,o1,_⟩:=id eN;obtain⟨dy,yp,yr,yj,ym,o2,_⟩:=id dA;refine⟨_,(au (cG (aH kg hr rfl (ae (aB fj (bq (K:=K) rfl (pv 0) rfl) (bq (K:=K) rfl (pv 1) rfl)) ag)))
   (ax (aX (MF (qs:=["low","high"]) (fr:=[("one", 0),("other", 1)]) ni tb rfl hr rfl ⟨bX (aE vJ) ["one","other"] rfl rfl (by decide +kernel),⟨rfl,rfl,rfl,by decide +kernel,by decide +kernel,by decide +kernel,by decide +kernel⟩,λ_ _ _ _ us hl=>match us,hl with | [_,_],_=>rfl,λ_ _ _ _ _ _ _ _ _=>mh (ay (aO (K:=K) rfl) (ay (aO (K:=K) rfl) (bq (K:=K) rfl (pv 2) rfl) (ay (aO (K:=K) rfl) (pv 0) ak (λ_ _=>rfl)) (λ_ _=>rfl)) (ay (aO (K:=K) rfl) (pv 1) ak (λ_ _=>rfl)) (λ_ _=>rfl)) (jO (ay (aO (K:=K) rfl) (ay (aO (K:=K) rfl) (bq (K:=K) rfl (pv 3) rfl) (ay (aO (K:=K) rfl) (pv 0) ak (λ_ _=>rfl)) (λ_ _=>rfl)) (ay (aO (K:=K) rfl) (pv 1) ak (λ_ _=>rfl)) (λ_ _=>rfl)))⟩ (λ_=>rfl) ot rfl (aH yD hr rfl (ae (pv 0) (ae (pv 1) ag))))))),?_⟩
  refine⟨_,rfl,p,C,dx,_,_,rfl,o1,TC.cl,TC.nC,cX _ _ _ _ _,_,rfl,q,C,dy,_,_,rfl,o2,TC.cl,TC.nC,cX _ _ _ _ _,_,_,rfl,rfl,.inl ⟨by omega,by omega⟩,⟨((n*m:Nat):Int),by dsimp only;rw[<- Int.natCast_mul];rfl,by omega,by omega⟩,λv H1 s1 hv=>?_⟩;refine⟨_,rfl,_,rfl,p,q,n,m,R1,R2,rfl,h1.same s1,h2.same s1,hn,hm,λlb us H2 s2 V2 hlb Ap=>?_⟩;have bS:=s1.trans s2;refine⟨bS _ _ hP,λr H3 s3 hr3 lK=>?_⟩;have dm:=bS.trans s3;have iq:=cK Ap;rw[uY]at iq;refine⟨r,lK,lb,us,bf R1 R2 m,rfl,ai.of (s3 _ _ hlb),by omega,by omega,⟨_,_,_,_,_,lK⟩,by rw[<- iq];exact G1.prod G2,λi j x y H' Q' hx hy s' hQ=>⟨lK.same s',?_⟩,λz H' s' qo=>kk z H' (dm.trans s') (by rw[<- iq]at qo;exact qo)⟩;have hi:i<n*m:=by have:=(bD.mp hx).1;omega
  have hj:j<n*m:=by have:=(bD.mp hy).1;omega
  obtain⟨c1,e1,t1,rfl,q1⟩:=eR Ap hx;obtain⟨c2,e2,t2,rfl,q2⟩:=eR Ap hy;rw[M6 n m i hi]at e1;rw[M6 n m j hj]at e2;cases e1;cases e2;have s2':=s3.trans s';have Nw:=bS.trans s2';have hdi:i / m<n:=xx (by rw[g9];exact hi);have Jy:j / m<n:=xx (by rw[g9];exact hj);have hmi:i % m<m:=pk _ hm0;have JR:j % m<m:=pk _ hm0;obtain⟨TV,vp',vr',vj',vm',o1',_,o3',_⟩:=id (eN.bx Nw);obtain⟨TX,yp',yr',yj',ym',o2',_,o4',_⟩:=id (dA.bx Nw);obtain⟨ra,ua,rb,ea,p1,p2,p3⟩:=o3'.get hdi;obtain⟨sa,wa,sb,eb,p4,p5,p6⟩:=o4'.get hmi;subst ea eb;have jQ:=s2' _ _ q1;have oy:=s2' _ _ q2;refine⟨_,rfl,p,C,TV,_,_,rfl,o1',TC.cl,TC.nR,jy _ _ _ _ _,_,rfl,t1,_,0,_,rfl,rfl,av.of jQ,aM (j:=0) rfl,ra,ua,_,.ref rb,rfl,rfl,av.of p1,aM p2,_,rfl,t2,_,0,_,rfl,rfl,av.of oy,aM (j:=0) rfl,rb,_,_,.bl (pJ (i / m) (j / m)),rfl,rfl,av.of p3,aM (dC Jy),_,rfl,?_⟩;rw[km _ _ hdi Jy];cases hb:R1 (i / m) (j / m)with
  |false =>
   refine cz ?_;have:=hQ _ (Same.refl _);unfold bf at this;rw[hb,gX]at this;exact this
  |true =>
   refine gQ ⟨_,rfl,q,C,TX,_,_,rfl,o2',TC.cl,TC.nR,jy _ _ _ _ _,_,rfl,t1,_,1,_,rfl,rfl,av.of jQ,aM (j:=1) rfl,sa,wa,_,.ref sb,rfl,rfl,av.of p4,aM p5,_,rfl,t2,_,1,_,rfl,rfl,av.of oy,aM (j:=1) rfl,sb,_,_,.bl (lu (i % m) (j % m)),rfl,rfl,av.of p6,aM (dC JR),?_⟩;rw[f9 _ _ hmi JR];have:=hQ _ (Same.refl _);unfold bf at this;rw[hb,dU]at this;exact this
end
section
variable {n m:Nat} {R R1 R2:Nat->Nat->Bool} {a b c d i j k x y:Nat}
noncomputable def cL(n:Nat)(R:Nat->Nat->Bool)(g:Bool):Prop:=(g=true->∀a b c,a<n->b<n->c<n->¬ Un n R a b c)/\(g=false->∃a b c,a<n/\b<n/\c<n/\Un n R a b c)
theorem cL.uniq{g g':Bool}(h:cL n R g)(h':cL n R g'):g=g':=by
 cases g<;>cases g'
 ·rfl
 ·obtain⟨a,b,c,ha,hb,hc,u⟩:=h.2 rfl
  exact absurd u (h'.1 rfl a b c ha hb hc)
 ·obtain⟨a,b,c,ha,hb,hc,u⟩:=h'.2 rfl
  exact absurd u (h.1 rfl a b c ha hb hc)
 ·rfl
theorem Un.cg(h:∀a b,a<n->b<n->R1 a b=R a b)(ha:a<n)(hb:b<n)(hc:c<n)(u:Un n R a b c):Un n R1 a b c:=by
 obtain⟨h1,m,x,j,y,hm,hx,hj,hy,ne⟩:=u;exact⟨by rw[h a c ha hc];exact h1,m,x,j,y,hm.cg hb hc h,hx.cg ha hm.1 h,hj.cg ha hb h,hy.cg hj.1 hc h,ne⟩
theorem cL.cg{g:Bool}(h:∀a b,a<n->b<n->R1 a b=R a b)(e:cL n R g):cL n R1 g:=
 ⟨λhg a b c ha hb hc u=>e.1 hg a b c ha hb hc (u.cg (λa b ha hb=>(h a b ha hb).symm) ha hb hc),λhg=>let⟨a,b,c,ha,hb,hc,u⟩:=e.2 hg;⟨a,b,c,ha,hb,hc,u.cg h ha hb hc⟩⟩
theorem Un.flip(u:Un n R a b c):Un n (λa b=>R b a) c b a:=by
 obtain⟨h1,m,x,j,y,hm,hx,hj,hy,ne⟩:=u;exact⟨h1,j,y,m,x,⟨hj.comm.1,hj.comm.2⟩,⟨hy.comm.1,hy.comm.2⟩,⟨hm.comm.1,hm.comm.2⟩,⟨hx.comm.1,hx.comm.2⟩,ne.symm⟩
theorem cL.flip{g:Bool}(e:cL n R g):cL n (λa b=>R b a) g:=
 ⟨λhg a b c ha hb hc u=>e.1 hg c b a hc hb ha u.flip,λhg=>let⟨a,b,c,ha,hb,hc,u⟩:=e.2 hg;⟨c,b,a,hc,hb,ha,u.flip⟩⟩
theorem bP(ha:a<n)(hc:c<m):a*m+c<n*m/\(a*m+c) / m=a/\(a*m+c) % m=c:=by
 refine⟨?_,?_,?_⟩
 ·have:(a+1)*m<=n*m:=GD m ha
  rw[j7]at this;omega
 ·rw[xv,Rq _ _ (by omega),Gq hc,pz]
 ·rw[xv,Rr,Gv hc]
theorem ez(hi:i<n*m):i / m<n/\i % m<m/\i / m*m+i % m=i:=by
 have hm:0<m:=rY λz=>by subst z;simp at hi
 exact⟨xx (by rw[g9];exact hi),pk _ hm,by rw[g9];exact Gm i m⟩
theorem dR(ha:a<n)(hc:c<m)(hb:b<n)(hd:d<m):bf R1 R2 m (a*m+c) (b*m+d)=(R1 a b&&R2 c d):=by
 unfold bf;rw[(bP (n:=n) ha hc).2.1,(bP (n:=n) ha hc).2.2,(bP (n:=n) hb hd).2.1,(bP (n:=n) hb hd).2.2]
theorem bA.prod(h1:bA n R1 (i / m) (j / m) a)(h2:bA m R2 (i % m) (j % m) c):bA (n*m) (bf R1 R2 m) i j (a*m+c):=by
 obtain⟨k1,k2,k3⟩:=bP h1.1 h2.1;refine⟨k1,λx hx=>?_⟩;obtain⟨x1,x2,_⟩:=ez hx;unfold bf;rw[k2,k3,h1.2 _ x1,h2.2 _ x2];cases R1 (i / m) (x / m)<;>cases R1 (j / m) (x / m)<;>cases R2 (i % m) (x % m)<;>cases R2 (j % m) (x % m)<;>rfl
theorem bB.prod(h1:bB n R1 (i / m) (j / m) a)(h2:bB m R2 (i % m) (j % m) c):bB (n*m) (bf R1 R2 m) i j (a*m+c):=by
 obtain⟨k1,k2,k3⟩:=bP h1.1 h2.1;refine⟨k1,λx hx=>?_⟩;obtain⟨x1,x2,_⟩:=ez hx;unfold bf;rw[k2,k3,h1.2 _ x1,h2.2 _ x2];cases R1 (x / m) (i / m)<;>cases R1 (x / m) (j / m)<;>cases R2 (x % m) (i % m)<;>cases R2 (x % m) (j % m)<;>rfl
theorem Un.prod(G1:Good n R1)(G2:Good m R2)(hi:i<n*m)(hj:j<n*m)(hk:k<n*m):Un (n*m) (bf R1 R2 m) i j k ↔ bf R1 R2 m i k=true/\(Un n R1 (i / m) (j / m) (k / m)\/Un m R2 (i % m) (j % m) (k % m)):=by
 obtain⟨i1,i2,_⟩:=ez hi;obtain⟨j1,j2,_⟩:=ez hj;obtain⟨k1,k2,_⟩:=ez hk;obtain⟨J1,N1,M1⟩:=G1.jm;obtain⟨J2,N2,M2⟩:=G2.jm;have GP:=G1.prod G2;have hm1:=M1.m _ _ j1 k1;have hm2:=M2.m _ _ j2 k2;have hj1:=M1.j _ _ i1 j1;have hj2:=M2.j _ _ i2 j2;have hx1:=M1.j _ _ i1 hm1.1;have hx2:=M2.j _ _ i2 hm2.1;have hy1:=M1.m _ _ hj1.1 k1;have hy2:=M2.m _ _ hj2.1 k2;have HM:bB (n*m) (bf R1 R2 m) j k _:=hm1.prod hm2;have HJ:bA (n*m) (bf R1 R2 m) i j _:=hj1.prod hj2;have pm:=bP hm1.1 hm2.1;have pj:=bP hj1.1 hj2.1;have HX:bA (n*m) (bf R1 R2 m) i (N1 (j / m) (k / m)*m+N2 (j % m) (k % m)) _:=bA.prod (by rw[pm.2.1];exact hx1) (by rw[pm.2.2];exact hx2);have HY:bB (n*m) (bf R1 R2 m) (J1 (i / m) (j / m)*m+J2 (i % m) (j % m)) k _:=bB.prod (by rw[pj.2.1];exact hy1) (by rw[pj.2.2];exact hy2);have px:=bP hx1.1 hx2.1;have py:=bP hy1.1 hy2.1
 constructor
 ·rintro⟨h1,mm,x,jj,y,hm,hx,hj,hy,ne⟩
  refine⟨h1,?_⟩;have h1':=h1;unfold bf at h1';rw[bH]at h1';have e1:=hm.uniq GP HM;subst e1;have e2:=hx.uniq GP HX;subst e2;have e3:=hj.uniq GP HJ;subst e3;have e4:=hy.uniq GP HY;subst e4
  by_cases q:J1 (i / m) (N1 (j / m) (k / m))=N1 (J1 (i / m) (j / m)) (k / m)
  ·refine .inr ⟨h1'.2,_,_,_,_,hm2,hx2,hj2,hy2,λq2=>ne ?_⟩
   rw[q,q2]
  ·exact .inl ⟨h1'.1,_,_,_,_,hm1,hx1,hj1,hy1,q⟩
 ·rintro⟨h1,u⟩
  refine⟨h1,_,_,_,_,HM,HX,HJ,HY,λe=>?_⟩
  rcases u with⟨_,mm,x,jj,y,hm,hx,hj,hy,ne⟩|⟨_,mm,x,jj,y,hm,hx,hj,hy,ne⟩
  ·have e1:=hm.uniq G1 hm1
   subst e1;have e3:=hj.uniq G1 hj1;subst e3;refine ne ?_;rw[hx.uniq G1 hx1,hy.uniq G1 hy1,<- px.2.1,<- py.2.1,e]
  ·have e1:=hm.uniq G2 hm2
   subst e1;have e3:=hj.uniq G2 hj2;subst e3;refine ne ?_;rw[hx.uniq G2 hx2,hy.uniq G2 hy2,<- px.2.2,<- py.2.2,e]
theorem cL.prod{g g':Bool}(G1:Good n R1)(G2:Good m R2)(hn:0<n)(hm:0<m)(e1:cL n R1 g)(e2:cL m R2 g'):cL (n*m) (bf R1 R2 m) (g&&g'):=by
 refine⟨λhg i j k hi hj hk u=>?_,λhg=>?_⟩
 ·rw[bH]at hg
  obtain⟨i1,i2,_⟩:=ez hi;obtain⟨j1,j2,_⟩:=ez hj;obtain⟨k1,k2,_⟩:=ez hk
  rcases((Un.prod G1 G2 hi hj hk).mp u).2 with u|u
  ·exact e1.1 hg.1 _ _ _ i1 j1 k1 u
  ·exact e2.1 hg.2 _ _ _ i2 j2 k2 u
 ·cases hg1:g with
  |false =>
   obtain⟨a,b,c,ha,hb,hc,u⟩:=e1.2 hg1;obtain⟨a1,a2,a3⟩:=bP ha hm;obtain⟨b1,b2,b3⟩:=bP hb hm;obtain⟨c1,c2,c3⟩:=bP hc hm;refine⟨_,_,_,a1,b1,c1,(Un.prod G1 G2 a1 b1 c1).mpr ⟨?_,.inl (by rw[a2,b2,c2];exact u)⟩⟩;rw[dR (n:=n) ha hm hc hm,u.1,G2.refl 0 hm];rfl
  |true =>
   rw[hg1,dU]at hg;obtain⟨a,b,c,ha,hb,hc,u⟩:=e2.2 hg;obtain⟨a1,a2,a3⟩:=bP hn ha;obtain⟨b1,b2,b3⟩:=bP hn hb;obtain⟨c1,c2,c3⟩:=bP hn hc;refine⟨_,_,_,a1,b1,c1,(Un.prod G1 G2 a1 b1 c1).mpr ⟨?_,.inr (by rw[a3,b3,c3];exact u)⟩⟩;rw[dR (n:=n) hn ha hn hc,u.1,G1.refl 0 hn];rfl
theorem sV(G:Good n R)(ha:a<n)(hb:b<n)(hi:i<(aR n R a b).length)(hj:j<(aR n R a b).length):(∃k,bA (aR n R a b).length (fF R (aR n R a b)) i j k/\bA n R ((aR n R a b).getD i 0) ((aR n R a b).getD j 0) ((aR n R a b).getD k 0))/\∃k,bB (aR n R a b).length (fF R (aR n R a b)) i j k/\bB n R ((aR n R a b).getD i 0) ((aR n R a b).getD j 0) ((aR n R a b).getD k 0):=by
 have g:∀i,i<(aR n R a b).length->(aR n R a b).getD i 0<n/\R a ((aR n R a b).getD i 0)=true/\R ((aR n R a b).getD i 0) b=true:=λi hi=>fK.mp (Ev.getD_mem hi)
 constructor
 ·obtain⟨c,hc,h⟩:=G.join _ _ (g i hi).1 (g j hj).1
  have hJ:bA n R ((aR n R a b).getD i 0) ((aR n R a b).getD j 0) c:=⟨hc,h⟩;have up:=hJ.up G (g i hi).1 (g j hj).1;obtain⟨k,hk,e⟩:=Ev.nS (fK.mpr ⟨hc,G.trans ha (g i hi).1 hc (g i hi).2.1 up.1,by rw[h b hb,(g i hi).2.2,(g j hj).2.2];rfl⟩);exact⟨k,⟨hk,λx hx=>by unfold fF;rw[e];exact h _ (g x hx).1⟩,by rw[e];exact hJ⟩
 ·obtain⟨c,hc,h⟩:=G.meet _ _ (g i hi).1 (g j hj).1
  have hM:bB n R ((aR n R a b).getD i 0) ((aR n R a b).getD j 0) c:=⟨hc,h⟩;have dn:=hM.dn G (g i hi).1 (g j hj).1;obtain⟨k,hk,e⟩:=Ev.nS (fK.mpr ⟨hc,by rw[h a ha,(g i hi).2.1,(g j hj).2.1];rfl,G.trans hc (g i hi).1 hb dn.1 (g i hi).2.2⟩);exact⟨k,⟨hk,λx hx=>by unfold fF;rw[e];exact h _ (g x hx).1⟩,by rw[e];exact hM⟩
theorem cL.cut{g:Bool}(G:Good n R)(ha:a<n)(hb:b<n)(h0:∀a b c,a<n->b<n->c<n->¬ Un n R a b c)(e:cL (aR n R a b).length (fF R (aR n R a b)) g):g=true:=by
 cases g with
 |true=>rfl
 |false =>
  obtain⟨i,j,k,hi,hj,hk,h1,mm,x,jj,y,hm,hx,hj',hy,ne⟩:=e.2 rfl;have GC:=G.cut ha hb;have gl:∀i,i<(aR n R a b).length->(aR n R a b).getD i 0<n:=λi hi=>(fK.mp (Ev.getD_mem hi)).1;have nd:(aR n R a b).Nodup:=rU.filter _;obtain⟨_,m',hm1,hm2⟩:=sV G ha hb hj hk;have q1:=hm.uniq GC hm1;subst q1;obtain⟨⟨x',hx1,hx2⟩,_⟩:=sV G ha hb hi hm.1;have q2:=hx.uniq GC hx1;subst q2;obtain⟨⟨j',hj1,hj2⟩,_⟩:=sV G ha hb hi hj;have q3:=hj'.uniq GC hj1;subst q3;obtain⟨_,y',hy1,hy2⟩:=sV G ha hb hj'.1 hk;have q4:=hy.uniq GC hy1;subst q4;exact absurd ⟨h1,_,_,_,_,hm2,hx2,hj2,hy2,λz=>ne (Ev.getD_inj nd hx.1 hy.1 z)⟩ (h0 _ _ _ (gl i hi) (gl j hj) (gl k hk))
theorem P5:bz n (λa b=>R b a) a b=bz n R b a:=by
 rw[eX,fO,fO];exact⟨λ⟨h1,h2,h3⟩=>⟨h1.symm,h2,λt ht q1 q2=>(h3 t ht q2 q1).symm⟩,λ⟨h1,h2,h3⟩=>⟨h1.symm,h2,λt ht q1 q2=>(h3 t ht q2 q1).symm⟩⟩
theorem Kr{g g':Nat->List Nat}(hg:∀x y,y∈g x->x∈g' y){c:List Nat}(h:Cl.gE g b a c):Cl.gE g' a b c.reverse:=by
 refine⟨by rw[List.head?_reverse];exact h.last,by rw[List.getLast?_reverse];exact h.hd,λi hi=>?_⟩;rw[List.length_reverse]at hi;have e:∀k,k<c.length->c.reverse.getD k 0=c.getD (c.length - 1 - k) 0:=λk hk=>by
  rw[bh,bh,List.getElem?_reverse hk]
 rw[e (i+1) hi,e i (by omega)];have:=h.go (c.length - 1 - (i+1)) (by omega);rw[show c.length - 1 - (i+1)+1=c.length - 1 - i by omega]at this;exact hg _ _ this
theorem abx(G:Good n R):bp n (λa b=>R b a) a b=bp n R b a:=by
 have hg:∀x y,y∈gA n R x->x∈gA n (λa b=>R b a) y:=λx y h=>by
  obtain⟨h1,h2,h3⟩:=dD.mp h;exact dD.mpr ⟨h2,h1,by rw[P5];exact h3⟩
 have hg':∀x y,y∈gA n (λa b=>R b a) x->x∈gA n R y:=λx y h=>by
  obtain⟨h1,h2,h3⟩:=dD.mp h;exact dD.mpr ⟨h2,h1,by rw[P5]at h3;exact h3⟩
 have nd:∀(R:Nat->Nat->Bool) a b,(qc n R b a).Nodup:=λR a b=>Cl.Ti (zQ n R) n a;have hp:((qc n R b a).map List.reverse).Perm (qc n (λa b=>R b a) a b):=by
  refine(Rn ?_ (nd _ _ _)).mpr λc=>?_
  ·exact jk.mpr ((nd R a b).imp λhne e=>hne (by have:=congrArg List.reverse e;rwa [Gg,Gg]at this))
  ·rw[cu,Bo G.flip]
   constructor
   ·rintro⟨c,hc,rfl⟩
    exact Kr hg ((Bo G).mp hc)
   ·intro h
    exact⟨c.reverse,(Bo G).mpr (Kr hg' h),Gg c⟩
 rw[<- K0,<- K0,<- hp.length_eq,aG]
theorem Er(G1:Good n R1)(G2:Good m R2)(ha:a<n)(hc:c<m)(hb:b<n)(hd:d<m):bz (n*m) (bf R1 R2 m) (a*m+c) (b*m+d)=true ↔ (a=b/\bz m R2 c d=true)\/(c=d/\bz n R1 a b=true):=by
 have nn:∀{a b c d:Nat},a<n->c<m->b<n->d<m->(a*m+c=b*m+d ↔ a=b/\c=d):=λha hc hb hd=>⟨λe=>⟨by rw[<- (bP ha hc).2.1,<- (bP hb hd).2.1,e],by rw[<- (bP ha hc).2.2,<- (bP hb hd).2.2,e]⟩,λ⟨e1,e2⟩=>by rw[e1,e2]⟩;rw[fO,fO,fO,dR (n:=n) ha hc hb hd,bH]
 constructor
 ·rintro⟨h1,⟨h2,h3⟩,h4⟩
  have h1:¬ (a=b/\c=d):=λz=>h1 ((nn ha hc hb hd).mpr z);have q:=h4 (a*m+d) (bP ha hd).1 (by rw[dR (n:=n) ha hc ha hd,G1.refl a ha,h3];rfl) (by rw[dR (n:=n) ha hd hb hd,h2,G2.refl d hd];rfl);rw[nn ha hd ha hc,nn ha hd hb hd]at q
  rcases q with⟨_,e⟩|⟨e,_⟩
  ·refine .inr ⟨e.symm,λz=>h1 ⟨z,e.symm⟩,h2,λt ht q1 q2=>?_⟩
   have q:=h4 (t*m+c) (bP ht hc).1 (by rw[dR (n:=n) ha hc ht hc,q1,G2.refl c hc];rfl) (by rw[dR (n:=n) ht hc hb hd,q2,h3];rfl);rw[nn ht hc ha hc,nn ht hc hb hd]at q;exact q.imp And.left And.left
  ·refine .inl ⟨e,λz=>h1 ⟨e,z⟩,h3,λt ht q1 q2=>?_⟩
   have q:=h4 (a*m+t) (bP ha ht).1 (by rw[dR (n:=n) ha hc ha ht,q1,G1.refl a ha];rfl) (by rw[dR (n:=n) ha ht hb hd,q2,h2];rfl);rw[nn ha ht ha hc,nn ha ht hb hd]at q;exact q.imp And.right And.right
 ·rintro(⟨e,h1,h2,h3⟩|⟨e,h1,h2,h3⟩)
  ·subst e
   refine⟨λz=>h1 ((nn ha hc ha hd).mp z).2,⟨G1.refl a ha,h2⟩,λt ht q1 q2=>?_⟩;obtain⟨t1,t2,t3⟩:=ez ht;rw[<- t3,dR (n:=n) ha hc t1 t2,bH]at q1;rw[<- t3,dR (n:=n) t1 t2 ha hd,bH]at q2;have e1:=G1.anti _ _ ha t1 q1.1 q2.1;rw[<- t3,nn t1 t2 ha hc,nn t1 t2 ha hd];exact(h3 _ t2 q1.2 q2.2).imp (λz=>⟨e1.symm,z⟩) λz=>⟨e1.symm,z⟩
  ·subst e
   refine⟨λz=>h1 ((nn ha hc hb hc).mp z).1,⟨h2,G2.refl c hc⟩,λt ht q1 q2=>?_⟩;obtain⟨t1,t2,t3⟩:=ez ht;rw[<- t3,dR (n:=n) ha hc t1 t2,bH]at q1;rw[<- t3,dR (n:=n) t1 t2 hb hc,bH]at q2;have e1:=G2.anti _ _ hc t2 q1.2 q2.2;rw[<- t3,nn t1 t2 ha hc,nn t1 t2 hb hc];exact(h3 _ t1 q1.1 q2.1).imp (λz=>⟨z,e1.symm⟩) λz=>⟨z,e1.symm⟩
theorem RZ(G1:Good n R1)(G2:Good m R2)(ha:a<n)(hc:c<m):(((bL n R1 a).map λd=>d*m+c)++(bL m R2 c).map λd=>a*m+d).Perm (bL (n*m) (bf R1 R2 m) (a*m+c)):=by
 have nd:∀(n:Nat) (R:Nat->Nat->Bool) p,(bL n R p).Nodup:=λn R p=>rU.filter _;have mm:∀{n:Nat} {R:Nat->Nat->Bool} {p d:Nat},d∈bL n R p ↔ d<n/\bz n R p d=true:=λ{n R p d}=>by unfold bL;rw[d7,cM]
 have inj:∀{a b c d:Nat},a<n->c<m->b<n->d<m->a*m+c=b*m+d->a=b/\c=d:=λha hc hb hd e=>⟨by rw[<- (bP ha hc).2.1,<- (bP hb hd).2.1,e],by rw[<- (bP ha hc).2.2,<- (bP hb hd).2.2,e]⟩;refine(Rn ?_ (nd _ _ _)).mpr λp=>?_
 ·refine Gd.mpr ⟨?_,?_,λx hx y hy e=>?_⟩
  ·exact jk.mpr ((nd _ _ _).imp_of_mem λ{x y} hx hy hne e=>hne (inj (mm.mp hx).1 hc (mm.mp hy).1 hc e).1)
  ·exact jk.mpr ((nd _ _ _).imp_of_mem λ{x y} hx hy hne e=>hne (inj ha (mm.mp hx).1 ha (mm.mp hy).1 e).2)
  ·obtain⟨u,hu,rfl⟩:=cu.mp hx
   obtain⟨v,hv,rfl⟩:=cu.mp hy;have q:=inj (mm.mp hu).1 hc ha (mm.mp hv).1 e;exact(fO.mp (mm.mp hu).2).1 q.1.symm
 ·rw[iK,cu,cu,mm]
  constructor
  ·rintro(⟨d,hd,rfl⟩|⟨d,hd,rfl⟩)
   ·exact⟨(bP (mm.mp hd).1 hc).1,(Er G1 G2 ha hc (mm.mp hd).1 hc).mpr (.inr ⟨rfl,(mm.mp hd).2⟩)⟩
   ·exact⟨(bP ha (mm.mp hd).1).1,(Er G1 G2 ha hc ha (mm.mp hd).1).mpr (.inl ⟨rfl,(mm.mp hd).2⟩)⟩
  ·rintro⟨hp,hs⟩
   obtain⟨p1,p2,p3⟩:=ez hp;rw[<- p3]at hs
   rcases(Er G1 G2 ha hc p1 p2).mp hs with⟨e,h⟩|⟨e,h⟩
   ·exact .inr ⟨p % m,mm.mpr ⟨p2,h⟩,by rw[e];exact p3⟩
   ·exact .inl ⟨p / m,mm.mpr ⟨p1,h⟩,by rw[e];exact p3⟩
noncomputable def lay:Nat->Nat->Nat
 |0,_=>1
 |_+1,0=>1
 |a+1,b+1=>lay a (b+1)+lay (a+1) b
theorem uz(b:Nat):lay 0 b=1:=by simp[lay]
theorem Bl(a:Nat):lay a 0=1:=by cases a<;>simp[lay]
theorem KY(a b:Nat):lay (a+1) (b+1)=lay a (b+1)+lay (a+1) b:=by simp[lay]
noncomputable def asc:Nat->Nat->Nat
 |0,_=>1
 |a+1,b=>asc a b*(b+a+1)
noncomputable def f7:Nat->Nat
 |0=>1
 |a+1=>f7 a*(a+1)
theorem yc:∀a b,asc (a+1) b=(b+1)*asc a (b+1)
 |0,b=>by simp[asc]
 |a+1,b=>by
  rw[show asc (a+1+1) b=asc (a+1) b*(b+(a+1)+1)from rfl,yc a b,show asc (a+1) (b+1)=asc a (b+1)*(b+1+a+1)from rfl,mO,show b+(a+1)+1=b+1+a+1 by omega]
theorem Ht:∀a,asc a 0=f7 a
 |0=>rfl
 |a+1=>by
  rw[show asc (a+1) 0=asc a 0*(0+a+1)from rfl,Ht a,pz];rfl
theorem yb:∀a b,asc a b=lay a b*f7 a
 |0,b=>by rw[uz];rfl
 |a+1,0=>by rw[Ht,Bl,Nat.one_mul]
 |a+1,b+1=>by
  rw[KY,Nat.add_mul,<- yb (a+1) b,show f7 (a+1)=f7 a*(a+1)from rfl,<- mO,<- yb a (b+1),yc a b,show asc (a+1) (b+1)=asc a (b+1)*(b+1+a+1)from rfl,g9 (b+1),<- Nat.mul_add]
  congr 1
  omega
theorem zL:∀a,0<f7 a
 |0=>Nat.one_pos
 |a+1=>Nat.mul_pos (zL a) (Nat.succ_pos a)
theorem Xu(a b:Nat):asc a b / f7 a=lay a b:=by
 rw[yb];exact Nat.mul_div_cancel _ (zL a)
theorem P_(l:List Nat)(f:Nat->Nat)(k:Nat):(l.map λx=>f x*k).sum=(l.map f).sum*k:=by
 induction l with
 |nil=>simp
 |cons x l ih=>rw[cE,fT,ih,cE,fT,Nat.add_mul]
theorem abr(G:Good n R){a:Nat}(ha:a<n):0<cI n R a:=by
 rw[oH];exact List.countP_pos_iff.mpr ⟨a,cM.mpr ha,G.refl a ha⟩
theorem abq(G:Good n R){a d:Nat}(ha:a<n)(hd:d<n)(hb:c5 R a d=true):cI n R d<cI n R a:=by
 unfold c5 at hb;rw[bH,oK,tj]at hb;rw[oH,oH];refine yH (x:=a) (cM.mpr ha) (λy hy h=>G.trans ha hd (cM.mp hy) hb.2 h) ?_ (G.refl a ha);cases e:R d a with
 |false=>rfl
 |true=>exact absurd (G.anti a d ha hd hb.2 e) hb.1
theorem Ii(G:Good n R){a:Nat}(ha:a<n):∀(k c:Nat),n - cI n R c<=k->c<n->c5 R a c=true->∃d,d<n/\bz n R a d=true
 |k,c,hk,hc,h1=>by
  cases hs:bz n R a c with
  |true=>exact⟨c,hc,hs⟩
  |false =>
   unfold bz at hs;rw[h1,dU,Bool.not_eq_false',oY]at hs;obtain⟨t,ht,h3⟩:=hs;have ht:=cM.mp ht;rw[bH]at h3;have hu:=abq G ht hc h3.2;have hl:=ft n R t;cases k with
   |zero=>omega
   |succ k=>exact Ii G ha k t (by omega) ht h3.1
theorem Md.tops{J N:Nat->Nat->Nat}(M:Md n R J N){t:Nat}(ht:t<n)(h1:∀x,x<n->R x t=true):∀(k a:Nat),cI n R a<=k->a<n->rk M.G a<=rk M.G t/\(a≠t->rk M.G a<rk M.G t)/\∀d∈bL n R a,d<n/\rk M.G d=rk M.G a+1:=by
 intro k
 induction k with
 |zero =>
  intro a hk ha;have:=abr M.G ha;omega
 |succ k ih =>
  intro a hk ha;have st:∀d∈bL n R a,d<n/\rk M.G d=rk M.G a+1:=λd hd=>by
   obtain⟨_,h2,h3⟩:=dD.mp (by rw[jA ha];exact hd);exact⟨h2,M.Nv _ _ _ (aY _) ha h2 h3⟩
  by_cases e:a=t
  ·subst e
   exact⟨aY _,λz=>absurd rfl z,st⟩
  ·obtain⟨d,hd,hs⟩:=Ii M.G ha n t (by omega) ht (by unfold c5;rw[h1 a ha];simp[e])
   have hm:d∈bL n R a:=by rw[<- jA ha];exact dD.mpr ⟨ha,hd,hs⟩
   have hlt:=gU M.G a d (dD.mpr ⟨ha,hd,hs⟩);have h2:=(ih d (by omega) hd).1;have h3:=(st d hm).2;exact⟨by omega,λ_=>by omega,st⟩
theorem Hn(G:Good n R){t:Nat}(ht:t<n)(h1:∀x,x<n->R x t=true):bL n R t = []:=by
 refine List.eq_nil_iff_forall_not_mem.mpr λd hd=>?_;obtain⟨_,h2,h3⟩:=dD.mp (by rw[jA ht];exact hd);have q:=fO.mp h3;exact q.1 (G.anti _ _ ht h2 q.2.1 (h1 d h2))
theorem abz{J1 N1 J2 N2:Nat->Nat->Nat}(M1:Md n R1 J1 N1)(M2:Md m R2 J2 N2){t u:Nat}(ht:t<n)(hu:u<m)(t1:∀x,x<n->R1 x t=true)(u1:∀x,x<m->R2 x u=true):∀(k a c:Nat),rk M1.G t - rk M1.G a+(rk M2.G u - rk M2.G c)<=k->a<n->c<m->bp (n*m) (bf R1 R2 m) (t*m+u) (a*m+c)=bp n R1 t a*bp m R2 u c*lay (rk M1.G t - rk M1.G a) (rk M2.G u - rk M2.G c):=by
 have GP:=M1.G.prod M2.G;have p1:=M1.tops ht t1 n;have p2:=M2.tops hu u1 m;have base:∀a c,a=t->c=u->bp (n*m) (bf R1 R2 m) (t*m+u) (a*m+c)=bp n R1 t a*bp m R2 u c*lay (rk M1.G t - rk M1.G a) (rk M2.G u - rk M2.G c):=by
  rintro a c rfl rfl;rw[rM,rM,rM,pq,pq,uz]
 intro k
 induction k with
 |zero =>
  intro a c hk ha hc;refine base a c ?_ ?_
  ·refine oP λz=>?_
   have:=(p1 a (ft n R1 a) ha).2.1 z;omega
  ·refine oP λz=>?_
   have:=(p2 c (ft m R2 c) hc).2.1 z;omega
 |succ k ih =>
  intro a c hk ha hc
  by_cases e:a=t/\c=u
  ·exact base a c e.1 e.2
  have hne:a*m+c≠t*m+u:=λz=>e ⟨by rw[<- (bP (n:=n) ha hc).2.1,<- (bP (n:=n) ht hu).2.1,z],by rw[<- (bP (n:=n) ha hc).2.2,<- (bP (n:=n) ht hu).2.2,z]⟩;obtain⟨q1,q2,q3⟩:=p1 a (ft n R1 a) ha;obtain⟨r1,r2,r3⟩:=p2 c (ft m R2 c) hc;rw[wL GP (bP ha hc).1 hne,<- ZC ((RZ M1.G M2.G ha hc).map _),iJ,Gh,d6,d6];have s1:a≠t->(List.map (bp (n*m) (bf R1 R2 m) (t*m+u) ∘ λd=>d*m+c) (bL n R1 a)).sum=bp n R1 t a*bp m R2 u c*lay (rk M1.G t - rk M1.G a - 1) (rk M2.G u - rk M2.G c):=λz=>by
   have hlt:=q2 z;rw[wL M1.G ha z,mO,<- P_]
   congr 1
   refine gZ λd hd=>?_;obtain⟨d1,d2⟩:=q3 d hd;show bp _ _ _ (d*m+c)=_;rw[ih d c (by omega) d1 hc,d2,mO,show rk M1.G t - (rk M1.G a+1)=rk M1.G t - rk M1.G a - 1 by omega]
  have s2:c≠u->(List.map (bp (n*m) (bf R1 R2 m) (t*m+u) ∘ λd=>a*m+d) (bL m R2 c)).sum=bp n R1 t a*bp m R2 u c*lay (rk M1.G t - rk M1.G a) (rk M2.G u - rk M2.G c - 1):=λz=>by
   have hlt:=r2 z;rw[wL M2.G hc z,mO,g9 (bp n R1 t a),mO,<- P_]
   congr 1
   refine gZ λd hd=>?_;obtain⟨d1,d2⟩:=r3 d hd;show bp _ _ _ (a*m+d)=_;rw[ih a d (by omega) ha d1,d2,show rk M2.G u - (rk M2.G c+1)=rk M2.G u - rk M2.G c - 1 by omega,g9 (bp n R1 t a),mO,g9 (bp n R1 t a)]
  by_cases ea:a=t
  ·have ec:c≠u:=λz=>e ⟨ea,z⟩
   have hlt:=r2 ec;rw[s2 ec,ea,Hn M1.G ht t1,pq,uz,uz,xl,Gi,pz]
  ·have hlt:=q2 ea
   obtain⟨x,hx⟩:∃x,rk M1.G t - rk M1.G a=x+1:=⟨rk M1.G t - rk M1.G a - 1,by omega⟩
   by_cases ec:c=u
   ·rw[s1 ea,ec,Hn M2.G hu u1,pq,Bl,Bl,xl,Gi,Nat.add_zero]
   ·have hlt2:=r2 ec
    obtain⟨y,hy⟩:∃y,rk M2.G u - rk M2.G c=y+1:=⟨rk M2.G u - rk M2.G c - 1,by omega⟩;rw[s1 ea,s2 ec,hx,hy,KY,Nat.mul_add];rfl
theorem aag(n m:Nat):List.range (n*m)=(List.range n).flatMap λa=>(List.range m).map λc=>a*m+c:=by
 induction n with
 |zero=>simp
 |succ n ih =>
  rw[j7,List.range_add,ih,o7,FQ,Q8]
theorem HQ(ha:a<n)(hc:c<m)(hb:b<n)(hd:d<m):aR (n*m) (bf R1 R2 m) (a*m+c) (b*m+d)=(aR n R1 a b).flatMap λx=>(aR m R2 c d).map λy=>x*m+y:=by
 unfold aR;rw[aag,List.filter_flatMap];have key:∀l:List Nat,(∀x∈l,x<n)->(l.flatMap λx=>((List.range m).map λy=>x*m+y).filter λz=>bf R1 R2 m (a*m+c) z&&bf R1 R2 m z (b*m+d))=(l.filter λx=>R1 a x&&R1 x b).flatMap λx=>((List.range m).filter λy=>R2 c y&&R2 y d).map λy=>x*m+y:=by
  intro l
  induction l with
  |nil=>intro _;rfl
  |cons x l ih =>
   intro hl;have hx:=hl x (cC ..);rw[jg,ih λy hy=>hl y (bT _ hy)];have e:((List.range m).map λy=>x*m+y).filter (λz=>bf R1 R2 m (a*m+c) z&&bf R1 R2 m z (b*m+d))=if(R1 a x&&R1 x b)=true then((List.range m).filter λy=>R2 c y&&R2 y d).map λy=>x*m+y else[]:=by
    rw[xg];have e2:(List.range m).filter ((λz=>bf R1 R2 m (a*m+c) z&&bf R1 R2 m z (b*m+d)) ∘ λy=>x*m+y)=(List.range m).filter λy=>(R1 a x&&R1 x b)&&(R2 c y&&R2 y d):=by
     refine xc λy hy=>?_;have hy:=cM.mp hy;show(bf R1 R2 m (a*m+c) (x*m+y)&&bf R1 R2 m (x*m+y) (b*m+d))=_;rw[dR (n:=n) ha hc hx hy,dR (n:=n) hx hy hb hd];cases R1 a x<;>cases R1 x b<;>cases R2 c y<;>cases R2 y d<;>rfl
    rw[e2];cases h:R1 a x&&R1 x b with
    |true=>rw[aC rfl];simp only[dU]
    |false=>rw[aq (by simp)];simp
   rw[e];cases h:R1 a x&&R1 x b with
   |true=>rw[aC rfl,Q5 (p:=λx=>R1 a x&&R1 x b) h,jg]
   |false=>rw[aq (by simp),List.filter_cons_of_neg (p:=λx=>R1 a x&&R1 x b) (by rw[h];simp),List.nil_append]
 exact key _ λx hx=>cM.mp hx
theorem Jc{l1 l2:List Nat}(m:Nat):∀i,i<l1.length*l2.length->(l1.flatMap λx=>l2.map λy=>x*m+y).getD i 0=l1.getD (i / l2.length) 0*m+l2.getD (i % l2.length) 0:=by
 induction l1 with
 |nil=>intro i hi;simp at hi
 |cons x l1 ih =>
  intro i hi;have h2:0<l2.length:=rY λz=>by rw[z]at hi;simp at hi
  rw[jg,bh]
  by_cases h:i<l2.length
  ·rw[jh (by rw[aG];exact h),cT,aI h,Gq h,Gv h,bh,bh,aI h]
   rfl
  ·rw[iH (by rw[aG];omega),aG,<- bh,ih (i - l2.length) (by rw[fz,j7]at hi;omega)]
   have e1:i / l2.length=(i - l2.length) / l2.length+1:=by
    conv=>lhs;rw[show i=i - l2.length+l2.length by omega]
    exact Nat.add_div_right _ h2
   have e2:i % l2.length=(i - l2.length) % l2.length:=by
    conv=>lhs;rw[show i=i - l2.length+l2.length by omega]
    exact Nat.add_mod_right _ _
   rw[e1,e2];rfl
theorem sF(ha:a<n)(hc:c<m)(hb:b<n)(hd:d<m):(aR (n*m) (bf R1 R2 m) (a*m+c) (b*m+d)).length=(aR n R1 a b).length*(aR m R2 c d).length:=by
 rw[HQ ha hc hb hd]
 induction aR n R1 a b with
 |nil=>simp
 |cons x l ih=>rw[jg,cU,aG,ih,fz,j7];omega
theorem Tv(ha:a<n)(hc:c<m)(hb:b<n)(hd:d<m)(hi:i<(aR n R1 a b).length*(aR m R2 c d).length)(hj:j<(aR n R1 a b).length*(aR m R2 c d).length):fF (bf R1 R2 m) (aR (n*m) (bf R1 R2 m) (a*m+c) (b*m+d)) i j=bf (fF R1 (aR n R1 a b)) (fF R2 (aR m R2 c d)) (aR m R2 c d).length i j:=by
 have g1:∀i,i<(aR n R1 a b).length->(aR n R1 a b).getD i 0<n:=λi hi=>(fK.mp (Ev.getD_mem hi)).1;have g2:∀i,i<(aR m R2 c d).length->(aR m R2 c d).getD i 0<m:=λi hi=>(fK.mp (Ev.getD_mem hi)).1;obtain⟨i1,i2,_⟩:=ez hi;obtain⟨j1,j2,_⟩:=ez hj;unfold fF;rw[HQ ha hc hb hd,Jc m i hi,Jc m j hj,dR (n:=n) (g1 _ i1) (g2 _ i2) (g1 _ j1) (g2 _ j2)];rfl
end
end My
namespace L2
open PySem PySem.Spec PyProof.Rows
abbrev Tab:=Addr × Addr × Pos × Str
noncomputable def fP(tabs:List Tab)(b:Addr):Option HO:=(tabs.find? λt=>decide (t.2.1=b)).map λt=>.lam t.2.2.1 t.2.2.2
noncomputable def pL(tabs:List Tab)(H:Hp):Prop:=∀b o,fP tabs b=some o->H b=some o
theorem Qq{tabs:List Tab}{b:Addr}{o:HO}(h:fP tabs b=some o):∃t∈tabs,t.2.1=b/\o = .lam t.2.2.1 t.2.2.2:=by
 unfold fP at h;cases e:tabs.find? λt=>decide (t.2.1=b)with
 |none=>rw[e]at h;cases h
 |some t =>
  rw[e]at h;cases h;exact⟨t,List.mem_of_find?_eq_some e,oo (List.find?_some (p:=λt:Tab=>decide (t.2.1=b)) e),rfl⟩
theorem Xt{P:Program}{w:World}{K:W.Frag}{mg mb:Str->Option Value}{CX:gB}{k:Nat}{fa a:Addr}{fd:FuncData}{x:Str}{sp:Sp}{s₁:Shared}{vs:List Value}{ns:List Int}{tabs:List Tab}
  (KX:K.In s₁.heap) (hns:s₁.heap.Ns mainGlobals mg) (hb:s₁.heap.Ns builtinsNs mb) (hbb:∀x:Str,x ≠ "__name__" -> mb x=bootBuiltins x) (hlim:s₁.heap.NoLimit) (hg:s₁.gens = #[])
  (hbm:∃bm ob,mg "__builtins__" = some (.ref bm)/\bm≠builtinsNs/\s₁.heap.get? bm=some ob/\ob.cls = .type "module" /\ ob.dict=some builtinsNs/\ob.data = .plain)
  (hT:∀t∈tabs,W.CodeHd s₁.heap t.1 t.2.1/\s₁.heap.get? t.2.1=some (W.tabObj #[])) (Vf:W.noTabs K=true)
  (ha:s₁.heap.get? a=some {cls:=.type "list", data:=.seq vs.toArray}) (hi:IntsAre vs ns) (hl:ns.length<=sizeLine) (hr:bK k callerA)
  (F:∀base:Heap,K.In base->base.Ns mainGlobals mg->(∀t∈tabs,TabAt base mg t.1 t.2.1)->aN P w K mg base CX k fa fd [x] sp) (hbind:∀(s:Shared) (u:Value),BindsTo s fd ⟨[u],[]⟩ [(x,u)])
  (hsp:∀H:Hp,ai K H a (ns.map V.int)->pL tabs H->sp [.ref a] H (λv H'=>v = .bl true/\pL tabs H') λ_ _ _=>False)
  (zS:∀H e s',CX [] H s₁ (λ_ _ _=>False) e s'->False) :
  codeAny (model P w) callerA (.call (.ref fa) ⟨[.ref a],[]⟩) (λr s'=>r = .ok (.ret (.bool true))/\OldK s₁.heap s'.heap/\s'.os=s₁.os/\AllBare s'.gens) s₁:=by
 have rv:=Fg hi;have lenV:=hi.length;have oG:∀{b:Addr} {o:HO},fP tabs b=some o->∃t∈tabs,t.2.1=b/\o = .lam t.2.2.1 t.2.2.2/\s₁.heap.get? b=some (W.tabObj #[]):=λ{b o} e=>by
  obtain⟨t,h1,h2,h3⟩:=Qq e;exact⟨t,h1,h2,h3,by rw[<- h2];exact(hT t h1).2⟩
 have aT:fP tabs a=none:=by
  cases e:fP tabs a with
  |none=>rfl
  |some o =>
   obtain⟨_,_,_,_,q⟩:=oG e;rw[ha]at q;cases q
 have KT:∀b o,fP tabs b=some o->K.lookup b=none:=λb o e=>by
  obtain⟨_,_,_,_,q⟩:=oG e;cases hk:K.lookup b with
  |none=>rfl
  |some ob =>
   have e2:=KX b ob hk;rw[q]at e2;cases e2;have h2:=oX.mp Vf (b,_) (W.mem_of_lookupK hk);exact absurd (show false=true from h2) dJ
 have core:∀H:Hp,(∀b o,H b=some o->fP tabs b=some o\/(b=a/\∃o' xs,o = .dk o' (.lst xs)))->pL tabs H->ai K H a (ns.map V.int)->b9 P w H s₁.heap->(H a≠none->K.lookup a=none) ->
   codeAny (model P w) callerA (.call (.ref fa) ⟨[.ref a],[]⟩) (λr s'=>r = .ok (.ret (.bool true))/\OldK s₁.heap s'.heap/\s'.os=s₁.os/\AllBare s'.gens) s₁:=by
  intro H hO lN hS hok hK;have free:∀{b:Addr} {o:Obj},s₁.heap.get? b=some o->o.cls≠.none->o.cls≠.type "list" -> H b=none:=λ{b o} e c1 c2=>by
   cases q:H b with
   |none=>rfl
   |some u =>
    rcases hO b u q with z|⟨z,_⟩
    ·obtain⟨_,_,_,_,z2⟩:=oG z
     rw[e]at z2;cases z2;exact absurd rfl c1
    ·rw[z,ha]at e;cases e
     exact absurd rfl c2
  have sC:∀{b:Addr} {o:Obj},s₁.heap.get? b=some o->H b=none->(fI s₁.heap H).get? b=some o:=λe n=>Ae e n;have jJ:∀{b:Addr} {o:Obj} {es:Array DictEntry} {ep:Nat},s₁.heap.get? b=some o->o.data = .dict es ep->H b=none:=λ{b o es ep} e d=>by
   cases q:H b with
   |none=>rfl
   |some u =>
    rcases hO b u q with z|⟨z,_⟩
    ·obtain⟨_,_,_,_,z2⟩:=oG z
     rw[e]at z2;cases z2;cases d
    ·rw[z,ha]at e;cases e
     cases d
  have uK:∀{b:Addr} {m:Str->Option Value},s₁.heap.Ns b m->(fI s₁.heap H).Ns b m:=λ{b m} ⟨o,es,ep,e,d,r⟩=>⟨o,es,ep,sC e (jJ e d),d,r⟩;have Jm:K.In (fI s₁.heap H):=λb o e=>sC (KX b o e) (by
   cases q:H b with
   |none=>rfl
   |some u =>
    rcases hO b u q with z|⟨z,_⟩
    ·rw[KT b u z]at e;cases e
    ·subst z
     rw[hK (by rw[q];simp)]at e;cases e)
  have hM:Mod K mg (fI s₁.heap H):=⟨Jm,uK hns,⟨mb,uK hb,hbb⟩,let⟨mc,h1,h2⟩:=hlim;⟨mc,uK h1,h2⟩⟩;have e0:gC P w K mg (fI s₁.heap H) callerA [] s₁ H:=⟨rfl,hM,λb o e=>Bw e,rV (JD _ _),trivial,λb hb=>absurd (show b∈([]:List Addr)from hb) (by simp),hok,.of_eq hg⟩;have Vt:∀t∈tabs,TabAt (fI s₁.heap H) mg t.1 t.2.1:=λt ht=>by
   refine⟨?_,?_⟩
   ·obtain⟨o,vs,file,tf,flags,tg,inF,text,tt,q1,q2,r⟩:=(hT t ht).1
    exact⟨o,vs,file,tf,flags,tg,inF,text,tt,sC q1 (free q1 (by rw[q2];intro z;cases z) (by rw[q2];decide)),q2,r⟩
   ·obtain⟨bm,ob,q1,q2,q3,q4,r⟩:=hbm
    exact⟨bm,ob,q1,q2,sC q3 (free q3 (by rw[q4];intro z;cases z) (by rw[q4];decide)),q4,r⟩
  refine hZ ((F _ Jm (uK hns) Vt).run callerA [] s₁ H ⟨[.ref a],[]⟩ [.ref a] [.ref a] _ _ hr e0 (hbind s₁ (.ref a)) (.cons rfl .nil) (hsp H hS lN)) λr s' h=>?_;cases r with
  |error e=>exact(zS H e s' h).elim
  |ok fl =>
   cases fl with
   |next=>exact False.elim h
   |brk=>exact False.elim h
   |cont=>exact False.elim h
   |ret u =>
    obtain⟨v,H',os,bare,un,hok',r',q,hT'⟩:=h;have q':v = .bl true:=q;subst q';obtain rfl:u=Value.bool true:=r';have key:∀b o,s₁.heap.get? b=some o->s'.heap.get? b=some o\/(isCodeTable s₁.heap b/\o=W.tabObj #[]/\∃ps,s'.heap.get? b=some (W.tabObj ps)):=λb o e=>by
     cases q:H b with
     |none=>exact .inl (un.keep b o e q (by intro z;exact absurd (show b∈([]:List Addr)from z) (by simp)) (by simp))
     |some u =>
      rcases hO b u q with z|⟨rfl,ob,xs,rfl⟩
      ·obtain⟨t,t1,t2,t3,z2⟩:=oG z
       rw[e]at z2;cases z2;subst t3;obtain⟨ps,p1,_⟩:=(show bQ P w H' s'.heap b (.lam t.2.2.1 t.2.2.2)from hok' b _ (hT' b _ z));refine .inr ⟨?_,rfl,ps,p1⟩;have:=((hT t t1).1.tab (hT t t1).2).isCodeTable;rw[t2]at this;exact this
      ·have z2:=un.jz b ob _ q
       obtain⟨e1,_⟩:=hok b _ q;obtain⟨e2,_⟩:=hok' b _ z2;rw[e]at e1;cases e1;exact .inl e2
    refine⟨rfl,⟨λb o e=>?_,λb o e=>?_⟩,os,bare⟩
    ·rcases key b o e with z|⟨z1,rfl,ps,z2⟩
     ·exact .inl z
     ·exact .inr (.inl ⟨z1,rfl,#[],ps,rfl,by rw[Array.empty_append];exact z2⟩)
    ·rcases key b o e with z|⟨_,_,ps,z2⟩
     ·exact⟨o,z⟩
     ·exact⟨_,z2⟩
 have Qm:∀(H:Hp) b o,fP tabs b=some o->bQ P w H s₁.heap b o:=λH b o e=>by
  obtain⟨t,_,_,rfl,q⟩:=oG e;exact⟨#[],q,trivial,λcv z=>by cases z⟩
 cases hk:K.lookup a with
 |some o =>
  have e:=KX a o hk;rw[ha]at e;cases e;exact core (fP tabs) (λb o e=>.inl e) (λb o e=>e) (.inr ⟨_,vs.toArray,_,hk,rfl,rfl,rfl,by rw[cw,lenV];exact hl,by simpa using rv⟩) (λb u z=>Qm _ b u z) λz=>absurd aT z
 |none =>
  refine core (λb=>if b=a then some (.dk {cls:=.type "list", data:=.seq vs.toArray} (.lst (ns.map V.int)))else fP tabs b) (λb o e=>?_) (λb o e=>?_) (.inl (.inr ⟨{cls:=.type "list", data:=.seq vs.toArray},aC rfl⟩)) (λb u z=>?_) λ_=>hk
  ·by_cases hb:b=a
   ·have z':=(aC hb).symm.trans e
    cases z';exact .inr ⟨hb,_,_,rfl⟩
   ·exact .inl ((aq hb).symm.trans e)
  ·have hb:b≠a:=λz=>by rw[z,aT]at e;cases e
   exact(aq hb).trans e
  ·by_cases hb:b=a
   ·have z':=(aC hb).symm.trans z
    cases z';subst hb;exact⟨ha,by rw[aG];exact hl,vs,_,rv,ha⟩
   ·exact Qm _ b u ((aq hb).symm.trans z)
theorem abw{l:W.OpenLaw}{n k:Nat}{q:Program}{loose:List Str}{XP:(Str->Option Value)->Heap->Prop}{YP:World->Heap->Prop}{d:DefRec}{K:Params->W.Frag}{CX:World->gB}{sp:World->Sp}{x:Str}{tabs:List Tab}(hn:l.most=some n)(hn2:n<=sizeLine)(hdf:d.params.defaults = [])(hr:bK k callerA)(hY:∀(w:World) (h:Heap),YP w h->(K w.params).In h)(hT:∀(w:World) (h:Heap),YP w h->(∀t∈tabs,W.codeHdIn (K w.params) t.1 t.2.1=true/\h.get? t.2.1=some (W.tabObj #[]))/\W.noTabs (K w.params)=true)(F:∀(w:World) (mg:Str->Option Value) (fa:Addr) (h:Heap),(K w.params).In h->h.Ns mainGlobals mg->mg d.name=some (.ref fa)->∃fd:FuncData,(∀(s:Shared) (u:Value),BindsTo s fd ⟨[u],[]⟩ [(x,u)])/\∀base:Heap,(K w.params).In base->base.Ns mainGlobals mg->(∀t∈tabs,TabAt base mg t.1 t.2.1)->aN l.prog w (K w.params) mg base (CX w) k fa fd [x] (sp w))(hsp:∀(w:World) (H:Hp) (a:Addr) (ns:List Int),ns.length<=n->ai (K w.params) H a (ns.map V.int)->pL tabs H->sp w [.ref a] H (λv H'=>v = .bl true/\pL tabs H') λ_ _ _=>False)(zS:∀(w:World) (H:Hp) (s:Shared) (e:Value) (s':Shared),CX w [] H s (λ_ _ _=>False) e s'->False):W.WalkO q loose XP YP l.row.toRowW d [] (λf vs=>PySem.call f vs):=by
 refine Fo.Se hn hdf λw s₀ s₁ mg mb fa o pm cd doc a vs ns G Y ho hd hcd hmg hobj hints hlen hg=>?_;have KX:=hY w _ Y;obtain⟨fd,hb,hF⟩:=F w mg fa _ KX G.T.g hmg;obtain⟨t1,t2⟩:=hT w _ Y;exact Xt KX G.T.g G.T.b G.T.builtins G.T.nolimit hg G.T.bmain (λt ht=>⟨W.codeHd_of_K KX (t1 t ht).1,(t1 t ht).2⟩) t2 hobj hints (di hlen hn2) hr hF hb (λH hS lN=>hsp w H a ns hlen hS lN) λH e s'=>zS w H s₁ e s'
end L2
namespace My
open PySem PySem.Spec PyProof.Rows L2
theorem Tj{K:W.Frag}{x:Str}{c Pt f:Addr}{st:Stmt}{fd:FuncData}(ht:W.tabIn K x=some (c,Pt))(a:W.nsIn K mainGlobals x=some (some (.ref f)))(F:aV K x x st f fd):fd.code = .ref c:=by
 obtain⟨oc,od,kV,doc,pm,an,cdv,ct,osl,rfl,lk,hcd⟩:=F.ex;unfold W.tabIn at ht;rw[a]at ht;simp only[lk]at ht;show cdv = .ref c;cases cdv with
 |ref c2 =>
  dsimp only at ht
  split at ht
  ·split at ht
   ·cases ht;rfl
   ·cases ht
  ·cases ht
 |_=>cases ht
theorem aD.yF{P:Program}{w:World}{K:W.Frag}{mg:Str->Option Value}{base h:Heap}{x:Str}{st:Stmt}{ps:List Str}{k:Nat}{sp:Sp}{c Pt:Addr}(A:aD K x st)(X:K.In h)(G:h.Ns mainGlobals mg)(hb:Fp x st ps)(ht:W.tabIn K x=some (c,Pt))(ok:∀{f:Addr} {fd:FuncData},aV K x x st f fd->fd.code = .ref c->aN P w K mg base aS k f fd ps sp):ao P w K mg base x ps k sp:=by
 obtain⟨f,fd,a,F⟩:=A.ex;exact⟨f,fd,ok F (Tj ht a F),W.mg_of X G a,F.kp,F.binds hb⟩
theorem Ez{K:W.Frag}{x:Str}{f c P:Addr}{oc co:Value}{od cd':Option Addr}{fd:FuncData}{osl sl:Array (Option Value)}{vs:Array Value}(a:W.nsIn K mainGlobals x=some (some (.ref f)))(l:K.lookup f=some ⟨oc,od,.func fd,osl⟩)(hc:fd.code = .ref c)(l2:K.lookup c=some ⟨co,cd',.fields vs,sl⟩)(hv:(vs[11]?:Option Value)=some (.ref P)):W.tabIn K x=some (c,P):=by
 unfold W.tabIn;rw[a];simp only[l,hc,l2,hv]
noncomputable def vZ(K:W.Frag)(Pt Ps Pu:Addr):Sp:=λvs H Q _=>∃(a:Nat) (ns:List Int),vs = [.ref a]/\ai K H a (ns.map V.int)/\ns.length<=63/\H Pt=some (.lam iU iV)/\H Ps=some (.lam nu ny)/\H Pu=some (.lam rB rC)/\∀H',H' Pt=some (.lam iU iV)->H' Ps=some (.lam nu ny)->H' Pu=some (.lam rB rC)->Q (.bl true) H'
theorem abu{l:W.OpenLaw}{q:Program}{loose:List Str}{XP:(Str->Option Value)->Heap->Prop}{YP:World->Heap->Prop}{d:DefRec}{K:Params->W.Frag}{c Pt c1 Ps c2 Pu:Addr}(hn:l.most=some 63)(hdf:d.params.defaults = [])(hY:∀(w:World) (h:Heap),YP w h->(K w.params).In h/\h.get? Pt=some (W.tabObj #[])/\h.get? Ps=some (W.tabObj #[])/\h.get? Pu=some (W.tabObj #[]))(hT:∀w:World,W.codeHdIn (K w.params) c Pt=true)(hT1:∀w:World,W.codeHdIn (K w.params) c1 Ps=true)(hT2:∀w:World,W.codeHdIn (K w.params) c2 Pu=true)(hno:∀w:World,W.noTabs (K w.params)=true)(hne:Pt≠Ps/\Pt≠Pu/\Ps≠Pu)(F:∀(w:World) (mg:Str->Option Value) (fa:Addr) (h:Heap),(K w.params).In h->h.Ns mainGlobals mg->mg d.name=some (.ref fa) ->
   ∃fd:FuncData,(∀(s:Shared) (u:Value),BindsTo s fd ⟨[u],[]⟩ [("_law_script", u)])/\∀base:Heap,(K w.params).In base->base.Ns mainGlobals mg->TabAt base mg c Pt->TabAt base mg c1 Ps->TabAt base mg c2 Pu->aN l.prog w (K w.params) mg base aS 40 fa fd ["_law_script"] (vZ (K w.params) Pt Ps Pu)) :
  W.WalkO q loose XP YP l.row.toRowW d [] (λf vs=>PySem.call f vs):=
 L2.abw (n:=63) (k:=40) (x:= "_law_script") (CX:=λ_=>aS) (sp:=λw=>vZ (K w.params) Pt Ps Pu) (tabs:=[(c,Pt,iU,iV),(c1,Ps,nu,ny),(c2,Pu,rB,rC)]) hn (by decide) hdf ⟨rfl,by decide,by decide,rfl⟩ (λw h Y=>(hY w h Y).1)
  (λw h Y=>⟨λt ht=>by
   rcases bC.mp ht with rfl|ht
   ·exact⟨hT w,(hY w h Y).2.1⟩
   ·rcases bC.mp ht with rfl|ht
    ·exact⟨hT1 w,(hY w h Y).2.2.1⟩
    ·obtain rfl:=j6.mp ht
     exact⟨hT2 w,(hY w h Y).2.2.2⟩,hno w⟩)
  (λw mg fa h KX G hmg=>by
   obtain⟨fd,h1,h2⟩:=F w mg fa h KX G hmg;exact⟨fd,h1,λbase kb nb tb=>h2 base kb nb (tb _ (cC ..)) (tb _ (bT _ (cC ..))) (tb _ (bT _ (bT _ (j6.mpr rfl))))⟩)
  (λw H a ns hl hS lN=>⟨a,ns,rfl,hS,hl,lN Pt _ (by unfold fP;simp),lN Ps _ (by unfold fP;simp[hne.1]),lN Pu _ (by unfold fP;simp[hne.2.1,hne.2.2]),λH' hP Vq hP2=>⟨rfl,λb o e=>by
   obtain⟨t,t1,t2,t3⟩:=Qq e
   rcases bC.mp t1 with rfl|t1
   ·rw[<- t2,t3]
    exact hP
   ·rcases bC.mp t1 with rfl|t1
    ·rw[<- t2,t3]
     exact Vq
    ·obtain rfl:=j6.mp t1
     rw[<- t2,t3];exact hP2⟩⟩) λ_ _ _ _ _ z=>z
theorem Zg{H:Hp}{ps:List (Nat × Nat)}{us:List V}(h:Paired (ck H) ps us):∀i,i<us.length->∃t,us[i]?=some (.ref t)/\H t=some (.tup [.int ((ps.getD i (0,0)).1:Int),.int ((ps.getD i (0,0)).2:Int)]):=by
 intro i hi;obtain⟨p,hp,t,e,q⟩:=eR h (aI hi);refine⟨t,by rw[aI hi,e],?_⟩;rw[bh,hp];exact q
theorem range_getD(ps:List (Nat × Nat)):(List.range ps.length).map (λi=>ps.getD i (0,0))=ps:=by
 apply j4
 ·simp
 ·intro i h1 h2
  simp[bh,aI h2]
section
variable {P:Program} {w:World} {K:W.Frag} {mg:Str->Option Value} {base:Heap} {f:Addr} {fd:FuncData}
abbrev vM:Stmt:=top 32
theorem Pw:aZ ["order"] ["order"] (aE vM):=⟨rfl,rfl,rfl,by decide +kernel,rfl,by decide +kernel,by decide +kernel⟩
noncomputable def Ei(C:Addr):Sp:=λvs H Q _=>∃(p n:Nat) (R:Nat->Nat->Bool),vs = [.ref p]/\cJ C H p n R/\Good n R/\0<n/\n<=24/\∀x H',Same H H'->cJ C H' x n (λa b=>R b a)->Q (.ref x) H'
theorem Y6 {C:Addr} (F:aV K "turned" "turned" vM f fd) (T:Txt mg) (TC:cD K C) (ie:k6 P w K mg base C "Order" ["self","count","pairs"] 5 (oC K C)):aN P w K mg base aS 7 f fd ["order"] (Ei C):=by
 refine F.ok Pw (λvs H Q E h=>?_) (λcdv A outer s H vs Q E hr h=>?_)
 ·obtain⟨p,n,R,rfl,_⟩:=h
  rfl
 ·obtain⟨p,n,R,rfl,⟨R',hO,hR⟩,G,h0,hn,kk⟩:=h
  have nd:=Pw.nd;obtain⟨dx,vp,vr,vj,vm,o1,⟨a,us,rfl,q1,q2⟩,_⟩:=id hO;rw[BL hR]at q2;have iq:=cK q2;have hpl:=BM n R hn;refine⟨_,(ax (aX (uT ie hr rfl (ae (bq (K:=K) rfl (pv 0) rfl) (ae (cS (own:=["low","high"]) (fr:=[]) rfl (bX (aE vM) ["order"] rfl rfl (by decide +kernel)) (uW (K:=K) rfl (bq (K:=K) rfl (pv 0) rfl)) (λ_ _ _ _=>⟨(ou (K:=K) (i:=0) (j:=1) rfl rfl (by decide +kernel:(["low","high"]:List Str).Nodup) rfl rfl rfl rfl),da,(eT (ae (pv 1) (ae (pv 0) ag)))⟩)) ag))))),?_⟩;refine⟨_,rfl,p,C,dx,_,_,rfl,o1,TC.cl,TC.nC,cX _ _ _ _ _,_,rfl,p,C,dx,_,_,rfl,o1,TC.cl,TC.nP,Je _ _ _ _ _,a,rfl,⟨_,av.of q1⟩,λD hD=>?_⟩;refine kh (λi v H=>∃t,v = .ref t/\t≠D/\H t=some (.tup [.int (((bw n R).getD i (0,0)).2:Int),.int (((bw n R).getD i (0,0)).1:Int)])) (aaT (av.of q1) (Zg q2)) hD (d4 (by omega)) (λi v H H' s ⟨b,e,hb,q⟩=>⟨b,e,hb,s _ _ hb q⟩) (λi H3 Kt hi hs hy hk=>?_) (λH3 ys hs3 hl3 hp3=>?_)
  ·obtain⟨zs,hz⟩:=hy
   refine⟨_,rfl,_,rfl,by show 2<=sizeLine;decide,λt ht=>?_⟩;exact hk _ _ (Same.put ht) ⟨t,rfl,(λe=>by rw[e,hz]at ht;cases ht),aA⟩
  ·refine λx yL hx hdx hne=>?_
   have s4:Same H3 (upd (upd H3 yL (.own x)) x (.ins C yL [])):=λb o e=>by
    rw[aJ (bO e hx),aJ (bO e hdx)];exact e
   have hpp:Paired (ck H3) ((bw n R).map λp=>(p.2,p.1)) ys:=by
    rw[<- iq]at hp3;have h1:Paired (ck H3) ((List.range (bw n R).length).map λi=>(((bw n R).getD i (0,0)).2,((bw n R).getD i (0,0)).1)) ys:=jN (Paired.dB hp3 λi v ⟨t,e,_,q⟩=>⟨t,e,q⟩);have h2:((List.range (bw n R).length).map λi=>(((bw n R).getD i (0,0)).2,((bw n R).getD i (0,0)).1))=(bw n R).map λp=>(p.2,p.1):=by
     conv=>rhs;rw[<- range_getD (bw n R)]
     rw[d6];rfl
    rw[h2]at h1;exact h1
   have le:∀p∈(bw n R).map λp=>(p.2,p.1),(λa b=>R b a) p.1 p.2=true:=λp hp=>by
    obtain⟨q,hq,rfl⟩:=cu.mp hp;exact(iZ.mp hq).2.2.2
   have al:∀a b,a<n->b<n->a≠b->(λa b=>R b a) a b=true->(a,b)∈(bw n R).map λp=>(p.2,p.1):=λa b ha hb hab h=>cu.mpr ⟨(b,a),iZ.mpr ⟨hb,ha,hab.symm,h⟩,rfl⟩;refine⟨x,yL,n,D,_,rfl,aA,⟨ys,ai.of (s4 _ _ hl3),c9.same s4 hpp⟩,h0,hn,λp hp=>?_,λR2 hC=>G.flip.congr (sP G.flip le al hC),λH5 R2 fr hC zX=>⟨rfl,?_⟩⟩
   ·obtain⟨q,hq,rfl⟩:=cu.mp hp
    exact⟨(iZ.mp hq).2.1,(iZ.mp hq).1⟩
   ·have s5:Same H3 H5:=λb o e=>fr b o (s4 _ _ e) (bO e hx)
    exact kk x H5 (hs3.trans s5) ⟨R2,zX,sP G.flip le al hC⟩
end
theorem Zb{X:Cx}:cx X (binaryOp .FloorDiv) (rI (λ_ j=>0<j/\j<2 ^ 100) λi j=>.int (i / j)):=l0 λi j _ _ _ _ _ hc q=>by
 have h1:(0:Int)<j:=hc.1;have h2:j<2 ^ 100:=hc.2;refine floordiv_int (by omega) (by rw[Fz i (by omega)];exact q) (.inl (PyProof.noPylong_of_log2 ?_));have:=(Nat.log2_lt (show j.natAbs≠0 by omega)).mpr (show j.natAbs<2 ^ 100 by omega);omega
theorem Uw{n:Nat}{R R':Nat->Nat->Bool}(h:∀a b,a<n->b<n->R a b=R' a b):gA n R=gA n R':=by
 funext a
 unfold gA
 by_cases ha:a<n
 ·rw[aC ha,aC ha]
  unfold bL;refine xc λx hx=>?_;have hx:=cM.mp hx;rw[eX,fO,fO,h a x ha hx];exact⟨λ⟨h1,h2,h3⟩=>⟨h1,h2,λt ht q1 q2=>h3 t ht (by rw[h a t ha ht];exact q1) (by rw[h t x ht hx];exact q2)⟩,λ⟨h1,h2,h3⟩=>⟨h1,h2,λt ht q1 q2=>h3 t ht (by rw[<- h a t ha ht];exact q1) (by rw[<- h t x ht hx];exact q2)⟩⟩
 ·rw[aq ha,aq ha]
theorem Qx{n:Nat}{R R':Nat->Nat->Bool}(h:∀a b,a<n->b<n->R a b=R' a b)(b a:Nat):bp n R b a=bp n R' b a:=by
 unfold bp;rw[Uw h]
theorem cL.ex(n:Nat)(R:Nat->Nat->Bool):∃g,cL n R g:=by
 by_cases h:∃a b c,a<n/\b<n/\c<n/\Un n R a b c
 ·exact⟨false,(λz=>nomatch z),λ_=>h⟩
 ·exact⟨true,λ_ a b c ha hb hc u=>h ⟨a,b,c,ha,hb,hc,u⟩,(λz=>nomatch z)⟩
theorem Mx{K:W.Frag}{H:Hp}{ps:List (Nat × Nat)}{us ws:List V}(h1:Paired (ck H) ps us)(h2:Paired (ck H) ps ws):FK K H 1 us ws λ_=>true:=by
 refine⟨by rw[<- cK h1,<- cK h2],λj x y hx hy=>?_⟩;obtain⟨q,e1,t,rfl,e3⟩:=eR h1 hx;obtain⟨q',e1',u,rfl,e3'⟩:=eR h2 hy;rw[e1]at e1';cases e1';have:=df.tup (K:=K) (H:=H) 0 t u _ _ (λ_=>true) (av.of e3) (av.of e3') rfl λk x y hx hy=>by
  rw[hx]at hy;cases hy
  match k,hx with
  |0,hx=>cases hx;have:=df.int (K:=K) (H:=H) 0 (q.1:Int) (q.1:Int);rw[sD]at this;exact this
  |1,hx=>cases hx;have:=df.int (K:=K) (H:=H) 0 (q.2:Int) (q.2:Int);rw[sD]at this;exact this
 exact this
theorem jx{H:Hp}{n:Nat}{R:Nat->Nat->Bool}{q:Addr->Hp->Prop}(k:∀g t v H',Same H H'->cL n R g->H' t=some (.tup [.bl g,v])->(g=true->∃J N,∃M:Md n R J N,∃D,v = .ref D/\H' D=some (.lst ((List.range n).map λx=>nV (rk M.G x))))->q t H'):(∀(J N:Nat->Nat->Nat) (M:Md n R J N) t D H',Same H H'->H D=none->(∀a b c,a<n->b<n->c<n->¬ Un n R a b c)->H' t=some (.tup [.bl true,.ref D])->H' D=some (.lst ((List.range n).map λx=>nV (rk M.G x)))->q t H')/\(∀t u fs a b c H',Same H H'->First n (Un n R) a b c->H' t=some (.tup [.bl false,.ref u])->H' u=some (.tup (fs.map V.int))->Five n R fs->q t H'):=
 ⟨λJ N M t D H' s _ hno ht hD=>k true t _ H' s ⟨λ_=>hno,(λz=>nomatch z)⟩ ht λ_=>⟨J,N,M,D,rfl,hD⟩,λt u fs a b c H' s hf ht hu _=>k false t _ H' s ⟨(λz=>nomatch z),λ_=>⟨a,b,c,hf.la,hf.lb,hf.lc,hf.is⟩⟩ ht (λz=>nomatch z)⟩
section
variable {P:Program} {w:World} {K:W.Frag} {mg:Str->Option Value} {base:Heap} {f:Addr} {fd:FuncData}
abbrev Di:Stmt:=top 62
theorem O1:aZ ["_law_one","_law_other","_law_top","_law_bottom","_law_k"] ["_law_one","_law_other"] (aE Di):=⟨rfl,rfl,rfl,by decide +kernel,rfl,by decide +kernel,by decide +kernel⟩
noncomputable def D_:Sp:=λvs H Q _=>∃a b:Nat,vs = [.int a,.int b]/\a<=24/\b<=24/\Q (nV (lay a b)) H
theorem YJ (F:aV K "_law_laid_in" "_law_laid_in" Di f fd) (T:Txt mg):aN P w K mg base aS 1 f fd ["_law_one","_law_other"] D_:=by
 refine F.ok O1 (λvs H Q E h=>?_) (λcdv A outer s H vs Q E hr h=>?_)
 ·obtain⟨a,b,rfl,_⟩:=h
  rfl
 ·obtain⟨a,b,rfl,ha,hb,kk⟩:=h
  have nd:=O1.nd;have en:((a:Int)).toNat=a:=bu a;refine⟨_,(au (aQ (i:=2) nd rfl (Or.inl rfl) ak)
   (au (aQ (i:=3) nd rfl (Or.inl rfl) ak)
   (au (cn b_ rfl (bY rfl T.range (ae (pv 0) ag)) (aW (i:=4) nd rfl (Or.inl rfl))
   (au (aQ (i:=2) nd rfl (Or.inl rfl) (aB fj (pv 2) (aB qN (aB cY (pv 0) (pv 1)) (pv 4))))
   (ax (aQ (i:=3) nd rfl (Or.inl rfl) (aB fj (pv 3) (aB cY (pv 4) ak))))))
   (ax (aX (aB Zb (pv 2) (pv 3))))))),?_⟩
  refine⟨_,rfl,a,rfl,(a_ (by omega)).1,(a_ (by omega)).2,eu (lo:=0) (n:=((a:Int)).toNat) (λi σ H2=>H2=H/\∃v4:Option V,i<=a/\σ = [some (.int (a:Int)),some (.int (b:Int)),some (nV (asc i (a+b - i))),some (nV (f7 i)),v4]) ⟨rfl,none,cW _,rfl⟩ ?_ ?_⟩
  ·rintro i σ H2 hi ⟨rfl,v4,hia,rfl⟩
   rw[en]at hi;dsimp only[bj];show bG _ _ _ [some (.int (a:Int)),some (.int (b:Int)),some (nV (asc i (a+b - i))),some (nV (f7 i)),some (.int (0+(i:Int)))] _;rw[dg];refine⟨_,rfl,_,rfl,_,rfl,_,_,rfl,rfl,_,rfl,_,_,rfl,rfl,_,_,rfl,rfl,.inr ⟨by omega,by omega⟩,?_⟩;have e1:((asc i (a+b - i):Nat):Int)*((a:Int)+(b:Int) - (i:Int))=((asc (i+1) (a+b - (i+1)):Nat):Int):=by
    rw[yc,show a+b - (i+1)+1=a+b - i by omega,g9,Int.natCast_mul]
    congr 1
    omega
   dsimp only[bj];rw[e1];refine⟨_,rfl,_,rfl,_,_,rfl,rfl,_,_,rfl,rfl,.inr ⟨by omega,by omega⟩,?_⟩;exact⟨rfl,_,by omega,rfl⟩
  ·rintro σ H2 ⟨rfl,v4,_,rfl⟩
   rw[en,show a+b - a=b by omega];refine⟨_,rfl,_,rfl,_,_,rfl,rfl,⟨?_,?_⟩,?_⟩
   ·have:=zL a
    show(0:Int)<((f7 a:Nat):Int);omega
   ·have:=(show ∀a,a<25->f7 a<2 ^ 100 by decide +kernel) a (by omega)
    show((f7 a:Nat):Int)<2 ^ 100;omega
   ·have:((asc a b:Nat):Int) / ((f7 a:Nat):Int)=((lay a b:Nat):Int):=by rw[<- FG,Xu]
    dsimp only;rw[this];exact kk
abbrev vA:Stmt:=top 63
theorem Ot:aZ ["_law_order","_law_a","_law_b","_law_good","_law_back"] ["_law_order","_law_a","_law_b"] (aE vA):=⟨rfl,rfl,rfl,by decide +kernel,rfl,by decide +kernel,by decide +kernel⟩
noncomputable def Dx(C Pt Ps:Addr):Sp:=λvs H Q _=>∃(p n a b:Nat) (R:Nat->Nat->Bool),vs = [.ref p,.int a,.int b]/\cJ C H p n R/\Good n R/\n<=24/\a<n/\b<n/\R a b=true/\H Pt=some (.lam iU iV)/\H Ps=some (.lam nu ny)/\∀H',Same H H'->Q (.bl true) H'
theorem Ym {C Pt Ps:Addr} (F:aV K "_law_alone_well" "_law_alone_well" vA f fd) (T:Txt mg) (TC:cD K C) (eZ:ao P w K mg base "evenness" ["order"] 6 (rE C Pt)) (sM:ao P w K mg base "turned" ["order"] 7 (Ei C)) (ju:ao P w K mg base "how_many" ["order","a","b"] 5 (vW C Pt))
  (kf:ao P w K mg base "cut" ["order","a","b"] 8 (vQ C Ps)):aN P w K mg base aS 9 f fd ["_law_order","_law_a","_law_b"] (Dx C Pt Ps):=by
 refine F.ok Ot (λvs H Q E h=>?_) (λcdv A outer s H vs Q E hr h=>?_)
 ·obtain⟨p,n,a,b,R,rfl,_⟩:=h
  rfl
 ·obtain⟨p,n,a,b,R0,rfl,hOf,G0,hn,ha,hb,z7,hP,hPs,kk⟩:=h
  have nd:=Ot.nd;have hu0:=hr.units;have hu2:(A.deeper (envOfC "_law_alone_well" (aE vA) s.heap.objs.size f cdv)).units+1+1<cLine:=by omega
  obtain⟨R,hO,Jr⟩:=hOf;have G:=G0.congr Jr;have hab:R a b=true:=by rw[Jr a b ha hb];exact z7
  have hOf:cJ C H p n R:=⟨R,hO,λ_ _ _ _=>rfl⟩;refine⟨_,(au (aQ (i:=3) nd rfl (Or.inl rfl) (ay (aO (K:=K) rfl) (aH eZ hr rfl (ae (pv 0) ag)) ak (λ_ _=>rfl)))
   (au (aQ (i:=4) nd rfl (Or.inl rfl) (aH sM hr rfl (ae (pv 0) ag)))
   (au (bU (PW.pt (mv (bV ja (ay (aO (K:=K) rfl) (aH eZ hr rfl (ae (pv 4) ag)) ak (λ_ _=>rfl)) (pv 3) (bN _)) (mw (bV (Zd (K:=K) false 1 rfl hu2) (bq (K:=K) rfl (aH sM hr rfl (ae (pv 4) ag)) rfl) (bq (K:=K) rfl (pv 0) rfl) (bN _))))) (ax (aX eS)) cq)
   (au (bU (bV ja (aH ju hr rfl (ae (pv 4) (ae (pv 2) (ae (pv 1) ag (aF nofun)) (aF nofun)) (aF nofun))) (aH ju hr rfl (ae (pv 0) (ae (pv 1) (ae (pv 2) ag (aF nofun)) (aF nofun)) (aF nofun))) (bN _)) (ax (aX eS)) cq)
   (ax (aX (MK (BR (pv 3)) (jO (ay (aO (K:=K) rfl) (aH eZ hr rfl (ae (aH kf hr rfl (ae (pv 0) (ae (pv 1) (ae (pv 2) ag (aF nofun)) (aF nofun)) (aF nofun))) ag)) ak (λ_ _=>rfl)))))))))),?_⟩
  show bG _ _ _ [some (.ref p),some (.int (a:Int)),some (.int (b:Int)),none,none] _;refine⟨_,rfl,p,n,R,rfl,hO,G,hn,hP,jx λg t v H1 s1 hE ht _=>?_⟩;refine⟨t,_,0,_,rfl,rfl,av.of ht,aM (j:=0) rfl,?_⟩;dsimp only[bj];show bG _ _ _ [some (.ref p),some (.int (a:Int)),some (.int (b:Int)),some (.bl g),none] _;refine⟨_,rfl,p,n,R,rfl,hOf.same s1,G,by omega,hn,λx H2 s2 zY=>?_⟩;have bS:=s1.trans s2;dsimp only[bj];show bG _ _ _ [some (.ref p),some (.int (a:Int)),some (.int (b:Int)),some (.bl g),some (.ref x)] _;obtain⟨R2,dA,f9⟩:=zY;have G2:Good n R2:=G.flip.congr f9;refine⟨_,rfl,x,n,R2,rfl,dA,G2,hn,bS _ _ hP,jx λg' t' v' H3 s3 hE' ht' _=>?_⟩;have eg:g'=g:=hE'.uniq (hE.flip.cg f9);subst eg;refine⟨t',_,0,_,rfl,rfl,av.of ht',aM (j:=0) rfl,_,rfl,by cases g'<;>rfl,_,rfl,?_⟩;rw[eh rfl];refine cz ?_;have oA:=s3;have dm:=bS.trans s3;refine⟨_,rfl,x,n,R2,rfl,⟨R2,dA.bx s3,λ_ _ _ _=>rfl⟩,G2,by omega,hn,λz H4 s4 lL=>?_⟩;obtain⟨Rz,lL,uc⟩:=lL;have eP:bw n Rz=bw n R:=BL λa b ha hb=>(uc a b ha hb).trans (f9 b a hb ha);have fk:=dm.trans s4;obtain⟨dz,zp,zr,zj,zm,z1,⟨za,zus,rfl,z2,z3⟩,_⟩:=lL;obtain⟨dx,vp,vr,vj,vm,o1,⟨pa,ZT,rfl,o2,o3⟩,_⟩:=hO.bx fk;rw[eP]at z3;refine⟨z,C,dz,_,_,rfl,z1,TC.cl,TC.nP,tT _ _ _ _ _,_,rfl,p,C,dx,_,_,rfl,o1,TC.cl,TC.nP,tT _ _ _ _ _,za,pa,zus,ZT,λ_=>true,rfl,rfl,av.of z2,av.of o2,Mx z3 o3,?_⟩;rw[oX.mpr λ_ _=>rfl];refine⟨_,rfl,cz ?_⟩;dsimp only;show bG _ _ _ [some (.ref p),some (.int (a:Int)),some (.int (b:Int)),some (.bl g'),some (.ref x)] _;have Cw:=s3.trans s4;refine⟨_,rfl,_,rfl,_,rfl,x,n,b,a,R2,rfl,dA.bx Cw,G2,hn,fk _ _ hP,hb,ha,λH5 s5=>?_⟩;have eA:=fk.trans s5;refine⟨_,rfl,_,rfl,_,rfl,p,n,a,b,R,rfl,hO.bx eA,G,hn,eA _ _ hP,ha,hb,λH6 s6=>⟨rfl,_,rfl,?_⟩⟩;have fq:=eA.trans s6;rw[show bp n R2 a b=bp n R b a by rw[Qx f9,abx G],eh rfl];refine cz ?_;cases g' with
  |false=>exact⟨_,rfl,_,rfl,_,rfl,kk _ fq⟩
  |true =>
   refine⟨_,rfl,_,rfl,_,rfl,?_⟩;refine⟨_,rfl,_,rfl,_,rfl,p,n,a,b,R,rfl,hOf.same fq,G,hn,ha,hb,hab,fq _ _ hPs,λy H7 s7 jD=>?_⟩;obtain⟨Ry,jD,lM⟩:=jD;have eB:=fq.trans s7;have hl:=yi n R a b;refine⟨y,_,Ry,rfl,jD,(G.cut ha hb).congr lM,by omega,eB _ _ hP,jx λg2 t2 v2 H8 s8 jC jF _=>?_⟩;have e2:g2=true:=cL.cut G ha hb (hE.1 rfl) (jC.cg λa b ha hb=>(lM a b ha hb).symm);subst e2;exact⟨t2,_,0,_,rfl,rfl,av.of jF,aM (j:=0) rfl,kk _ (eB.trans s8)⟩
end
theorem Nt{n:Nat}{R:Nat->Nat->Bool}(G:Good n R):∀(k x:Nat),n - cI n R x<=k->rk G x+cI n R x<=n:=by
 intro k
 induction k with
 |zero =>
  intro x hk;have hu:=ft n R x;rw[qZ G λy hy hx hs=>?_]
  ·omega
  ·have:=gU G _ _ (dD.mpr ⟨hy,hx,hs⟩)
   have:=ft n R y;omega
 |succ k ih =>
  intro x hk
  by_cases h:∃y,y<n/\x<n/\bz n R y x=true
  ·have e0:rk G x=rk G h.choose+1:=by
    conv=>lhs;unfold rk
    rw[dif_pos h]
   obtain⟨h1,h2,h3⟩:=h.choose_spec;have:=gU G _ _ (dD.mpr ⟨h1,h2,h3⟩);have:=ih h.choose (by omega);omega
  ·rw[qZ G λy hy hx hs=>h ⟨y,hy,hx,hs⟩]
   have:=ft n R x;omega
theorem Nu{n l:Nat}{R:Nat->Nat->Bool}(G:Good n R)(h:∀x,x<n->R l x=true):rk G l=0:=
 qZ G λy hy hl hs=>by
  have q:=fO.mp hs;exact q.1 (G.anti _ _ hy hl q.2.1 (h y hy))
theorem M7{n m:Nat}{R1 R2 pJ lu:Nat->Nat->Bool}(h1:∀a b,a<n->b<n->pJ a b=R1 a b)(h2:∀a b,a<m->b<m->lu a b=R2 a b){i j:Nat}(hi:i<n*m)(hj:j<n*m):bf R1 R2 m i j=bf pJ lu m i j:=by
 obtain⟨i1,i2,_⟩:=ez hi;obtain⟨j1,j2,_⟩:=ez hj;unfold bf;rw[h1 _ _ i1 j1,h2 _ _ i2 j2]
section
variable {P:Program} {w:World} {K:W.Frag} {mg:Str->Option Value} {base:Heap} {f:Addr} {fd:FuncData}
abbrev De:Stmt:=top 64
theorem Ov:aZ ["_law_one","_law_other","_law_both","_law_high","_law_low","_law_due"] ["_law_one","_law_other","_law_both"] (aE De):=⟨rfl,rfl,rfl,by decide +kernel,rfl,by decide +kernel,by decide +kernel⟩
noncomputable def DN(C Pt:Addr):Sp:=λvs H Q _=>∃(p q z n m:Nat) (R1 R2:Nat->Nat->Bool),vs = [.ref p,.ref q,.ref z]/\cJ C H p n R1/\cJ C H q m R2/\cJ C H z (n*m) (bf R1 R2 m)/\Good n R1/\Good m R2/\0<n/\0<m/\n*m<=24/\H Pt=some (.lam iU iV)/\∀H',Same H H'->Q (.bl true) H'
theorem Ys {C Pt:Addr} (F:aV K "_law_climbs_well" "_law_climbs_well" De f fd) (T:Txt mg) (TC:cD K C) (eZ:ao P w K mg base "evenness" ["order"] 6 (rE C Pt)) (ju:ao P w K mg base "how_many" ["order","a","b"] 5 (vW C Pt)) (yx:ao P w K mg base "_law_laid_in" ["_law_one","_law_other"] 1 D_)
  (pV:fx P w K mg base C "lowest" ["self"] 1 (Ec C)) (lD:fx P w K mg base C "highest" ["self"] 1 (Ea C)):aN P w K mg base aS 7 f fd ["_law_one","_law_other","_law_both"] (DN C Pt):=by
 refine F.ok Ov (λvs H Q E h=>?_) (λcdv A outer s H vs Q E hr h=>?_)
 ·obtain⟨p,q,z,n,m,R1,R2,rfl,_⟩:=h
  rfl
 ·obtain⟨p,q,z,n,m,Ra,Rb,rfl,⟨R1,eN,km⟩,⟨R2,dA,f9⟩,⟨R3,il,eO⟩,Ga,Gb,n0,m0,hnm,hP,kk⟩:=h
  have nd:=Ov.nd;have G1:=Ga.congr km;have G2:=Gb.congr f9;have eO:∀i j,i<n*m->j<n*m->R3 i j=bf R1 R2 m i j:=λi j hi hj=>(eO i j hi hj).trans (M7 km f9 hi hj);have G3:=(G1.prod G2).congr eO;have Ln:0<n*m:=Nat.mul_pos n0 m0;have n24:n<=24:=di (Ru n m0) hnm;have kA:m<=24:=di (Rt m n0) hnm;obtain⟨dx,vp,vr,vj,vm,o1,_⟩:=id eN;obtain⟨dy,wp,wr,wj,wm,o2,_⟩:=id dA;obtain⟨dz,xp,xr,xj,xm,o3,_⟩:=id il;have nL:∀n vp vr vj vm,(dH n vp vr vj vm).lookup ("lowest" : Str)=none:=λ_ _ _ _ _=>nG _ _ _ _ _ (by decide +kernel) (by decide +kernel) (by decide +kernel) (by decide +kernel) (by decide +kernel);have nH:∀n vp vr vj vm,(dH n vp vr vj vm).lookup ("highest" : Str)=none:=λ_ _ _ _ _=>nG _ _ _ _ _ (by decide +kernel) (by decide +kernel) (by decide +kernel) (by decide +kernel) (by decide +kernel);refine⟨_,(au (bU (iB (dM (ay (aO (K:=K) rfl) (aH eZ hr rfl (ae (pv 2) ag)) ak (λ_ _=>rfl)))) (ax (aX eS)) cq)
   (au (aQ (i:=3) nd rfl (Or.inl rfl) (ay (bE (K:=K) rfl) (ay (aO (K:=K) rfl) (aH eZ hr rfl (ae (pv 0) ag)) ak (λ_ _=>rfl)) (kG lD TC.cl hr (pv 0)) (λ_ _=>rfl)))
   (au (aQ (i:=4) nd rfl (Or.inl rfl) (ay (bE (K:=K) rfl) (ay (aO (K:=K) rfl) (aH eZ hr rfl (ae (pv 1) ag)) ak (λ_ _=>rfl)) (kG lD TC.cl hr (pv 1)) (λ_ _=>rfl)))
   (au (aQ (i:=5) nd rfl (Or.inl rfl) (aB fj (aH ju hr rfl (ae (pv 0) (ae (kG pV TC.cl hr (pv 0)) (ae (kG lD TC.cl hr (pv 0)) ag (aF nofun)) (aF nofun)) (aF nofun))) (aH ju hr rfl (ae (pv 1) (ae (kG pV TC.cl hr (pv 1)) (ae (kG lD TC.cl hr (pv 1)) ag (aF nofun)) (aF nofun)) (aF nofun)))))
   (ax (aX (qQ fh (aH ju hr rfl (ae (pv 2) (ae (kG pV TC.cl hr (pv 2)) (ae (kG lD TC.cl hr (pv 2)) ag (aF nofun)) (aF nofun)) (aF nofun))) (aB fj (pv 5) (aH yx hr rfl (ae (pv 3) (ae (pv 4) ag)))) (bN _)))))))),?_⟩
  refine⟨_,rfl,z,n*m,R3,rfl,il,G3,hnm,hP,jx λg t v H1 s1 hE ht _=>⟨t,_,0,_,rfl,rfl,av.of ht,aM (j:=0) rfl,_,rfl,?_⟩⟩;cases g with
  |false=>exact gQ (kk _ s1)
  |true =>
   refine cz ?_;dsimp only;show bG _ _ _ [some (.ref p),some (.ref q),some (.ref z),none,none,none] _;refine⟨_,rfl,p,n,R1,rfl,eN.bx s1,G1,n24,s1 _ _ hP,jx λg1 t1 v1 H2 s2 tV ht1 hv1=>⟨t1,_,1,_,rfl,rfl,av.of ht1,aM (j:=1) rfl,?_⟩⟩;have TY:g1=true:=by
    obtain⟨g',hE'⟩:=cL.ex m R2;have:=(cL.prod G1 G2 n0 m0 tV hE').uniq (hE.cg λi j hi hj=>(eO i j hi hj).symm);rw[bH]at this;exact this.1
   obtain⟨J1,N1,M1,D1,rfl,hD1⟩:=hv1 TY;have bS:=s1.trans s2;refine⟨_,rfl,p,dx,_,rfl,bS _ _ o1,nH _ _ _ _ _,p,n,R1,rfl,eN.bx bS,G1,n0,n24,λh1 H3 s3 hh1 Ab=>?_⟩;have rk1:rk M1.G h1<=24:=by have:=Nt M1.G _ h1 (aY _);omega
   refine⟨D1,_,_,nV (rk M1.G h1),rfl,rfl,ai.of (s3 _ _ hD1),aM (by rw[cT,ji hh1];rfl),?_⟩;have dm:=bS.trans s3;dsimp only[bj];show bG _ _ _ [some (.ref p),some (.ref q),some (.ref z),some (nV (rk M1.G h1)),none,none] _;refine⟨_,rfl,q,m,R2,rfl,dA.bx dm,G2,kA,dm _ _ hP,jx λg2 t2 v2 H4 s4 jC jF hv2=>⟨t2,_,1,_,rfl,rfl,av.of jF,aM (j:=1) rfl,?_⟩⟩;have T1:g2=true:=by
    have:=(cL.prod G1 G2 n0 m0 tV jC).uniq (hE.cg λi j hi hj=>(eO i j hi hj).symm);rw[bH]at this;exact this.2
   obtain⟨J2,N2,M2,D2,rfl,hD2⟩:=hv2 T1;have fk:=dm.trans s4;refine⟨_,rfl,q,dy,_,rfl,fk _ _ o2,nH _ _ _ _ _,q,m,R2,rfl,dA.bx fk,G2,m0,kA,λh2 H5 s5 nW Ad=>?_⟩;have rk2:rk M2.G h2<=24:=by have:=Nt M2.G _ h2 (aY _);omega
   refine⟨D2,_,_,nV (rk M2.G h2),rfl,rfl,ai.of (s5 _ _ hD2),aM (by rw[cT,ji nW];rfl),?_⟩;have eA:=fk.trans s5;dsimp only[bj];show bG _ _ _ [some (.ref p),some (.ref q),some (.ref z),some (nV (rk M1.G h1)),some (nV (rk M2.G h2)),none] _;refine⟨_,rfl,_,rfl,p,dx,_,rfl,eA _ _ o1,nL _ _ _ _ _,p,n,R1,rfl,eN.bx eA,G1,n0,n24,λl1 H6 s6 hl1 JG=>?_⟩;have fq:=eA.trans s6;refine⟨_,rfl,p,dx,_,rfl,fq _ _ o1,nH _ _ _ _ _,p,n,R1,rfl,eN.bx fq,G1,n0,n24,λh1' H7 s7 Aa VF=>?_⟩;have T2:h1'=h1:=G1.anti _ _ Aa hh1 (Ab _ Aa) (VF _ hh1);subst T2;have eB:=fq.trans s7;refine⟨p,n,l1,h1',R1,rfl,eN.bx eB,G1,n24,eB _ _ hP,hl1,Aa,λH8 s8=>?_⟩;have iE:=eB.trans s8;refine⟨_,rfl,_,rfl,q,dy,_,rfl,iE _ _ o2,nL _ _ _ _ _,q,m,R2,rfl,dA.bx iE,G2,m0,kA,λl2 H9 s9 hl2 JH=>?_⟩;have mx:=iE.trans s9;refine⟨_,rfl,q,dy,_,rfl,mx _ _ o2,nH _ _ _ _ _,q,m,R2,rfl,dA.bx mx,G2,m0,kA,λh2' Ha sa Ac VG=>?_⟩;have T3:h2'=h2:=G2.anti _ _ Ac nW (Ad _ Ac) (VG _ nW);subst T3;have rh:=mx.trans sa;refine⟨q,m,l2,h2',R2,rfl,dA.bx rh,G2,kA,rh _ _ hP,hl2,Ac,λHb sb=>?_⟩;have Cd:=rh.trans sb;have w1:=Fi G1 n24 (b:=h1') hl1;have w2:=Fi G2 kA (b:=h2') hl2;refine⟨_,_,rfl,rfl,.inl ⟨by omega,by omega⟩,?_⟩;have ed:((bp n R1 h1' l1:Nat):Int)*((bp m R2 h2' l2:Nat):Int)=((bp n R1 h1' l1*bp m R2 h2' l2:Nat):Int):=by push_cast;rfl
   dsimp only[bj];rw[ed];have wd:bp n R1 h1' l1*bp m R2 h2' l2<16777216*16777216:=Nat.mul_lt_mul'' w1 w2;generalize um:bp n R1 h1' l1*bp m R2 h2' l2=Qy at wd;show Qn _ _ [some (.ref p),some (.ref q),some (.ref z),some (nV (rk M1.G h1')),some (nV (rk M2.G h2')),some (nV Qy)] _;refine⟨_,rfl,_,rfl,z,dz,_,rfl,Cd _ _ o3,nL _ _ _ _ _,z,n*m,R3,rfl,il.bx Cd,G3,Ln,hnm,λl3 Hc sc hl3 V1=>?_⟩;have Ce:=Cd.trans sc;refine⟨_,rfl,z,dz,_,rfl,Ce _ _ o3,nH _ _ _ _ _,z,n*m,R3,rfl,il.bx Ce,G3,Ln,hnm,λh3 Hd sd hh3 VH=>?_⟩;have Cg:=Ce.trans sd;have k1:=bP hl1 hl2;have k2:=bP hh1 nW;have el3:l3=l1*m+l2:=G3.anti _ _ hl3 k1.1 (V1 _ k1.1) (by
    obtain⟨x1,x2,x3⟩:=ez hl3;rw[eO _ _ k1.1 hl3,<- x3,dR (n:=n) hl1 hl2 x1 x2,JG _ x1,JH _ x2];rfl)
   have T4:h3=h1'*m+h2':=G3.anti _ _ hh3 k2.1 (by
    obtain⟨x1,x2,x3⟩:=ez hh3;rw[eO _ _ hh3 k2.1,<- x3,dR (n:=n) x1 x2 hh1 nW,Ab _ x1,Ad _ x2];rfl) (VH _ k2.1)
   refine⟨z,n*m,l3,h3,R3,rfl,il.bx Cg,G3,hnm,Cg _ _ hP,hl3,hh3,λHe se=>?_⟩;refine⟨_,rfl,_,rfl,_,rfl,rk M1.G h1',rk M2.G h2',rfl,rk1,rk2,?_⟩;have hw:=abz M1 M2 hh1 nW Ab Ad _ l1 l2 (aY _) hl1 hl2;rw[Nu M1.G JG,Nu M2.G JH,xE,xE,um]at hw;refine⟨_,_,rfl,rfl,.inl ⟨by omega,by omega⟩,rfl,?_⟩;have e:decide (nV (bp (n*m) R3 h3 l3)=V.int (((Qy:Nat):Int)*((lay (rk M1.G h1') (rk M2.G h2'):Nat):Int)))=true:=by
    rw[qf,Qx eO,el3,T4,hw];show V.int _=V.int _;rw[Int.natCast_mul]
   rw[e];exact kk _ (Cg.trans se)
abbrev vB:Stmt:=top 65
theorem Ow:aZ ["_law_one","_law_other","_law_both","_law_ends","_law_many","_law_p","_law_q","_law_a","_law_b","_law_c","_law_d"] ["_law_one","_law_other","_law_both","_law_ends"] (aE vB):=⟨rfl,rfl,rfl,by decide +kernel,rfl,by decide +kernel,by decide +kernel⟩
noncomputable def DK(K:W.Frag)(C Ps Pu:Addr):Sp:=λvs H Q _=>∃(p q z t n m a b c d:Nat) (R1 R2:Nat->Nat->Bool),vs = [.ref p,.ref q,.ref z,.ref t]/\av K H t [.int (a:Int),.int (b:Int),.int (c:Int),.int (d:Int)]/\cJ C H p n R1/\cJ C H q m R2/\cJ C H z (n*m) (bf R1 R2 m)/\Good n R1/\Good m R2/\0<n/\0<m/\n*m<=24 /\
 a<n/\b<n/\c<m/\d<m/\R1 a b=true/\R2 c d=true/\H Ps=some (.lam nu ny)/\H Pu=some (.lam rB rC)/\∀H',Same H H'->Q (.bl true) H'
theorem Yr {C Ps Pu:Addr} (F:aV K "_law_cuts_well" "_law_cuts_well" vB f fd) (T:Txt mg) (TC:cD K C) (pT:fx P w K mg base C "join" ["self","a","b"] 4 (Eb C)) (pW:fx P w K mg base C "meet" ["self","a","b"] 4 (Ed C)) (mZ:fx P w K mg base C "at_most" ["self","a","b"] 4 (wc C))
  (kf:ao P w K mg base "cut" ["order","a","b"] 8 (vQ C Ps)) (nj:ao P w K mg base "side_by_side" ["one","other"] 8 (wC C Pu)):aN P w K mg base aS 9 f fd ["_law_one","_law_other","_law_both","_law_ends"] (DK K C Ps Pu):=by
 refine F.ok Ow (λvs H Q E h=>?_) (λcdv A outer s H vs Q E hr h=>?_)
 ·obtain⟨p,q,z,t,n,m,a,b,c,d,R1,R2,rfl,_⟩:=h
  rfl
 ·obtain⟨p,q,z,t,n,m,a,b,c,d,Ra,Rb,rfl,hT,⟨R1,eN,km⟩,⟨R2,dA,f9⟩,⟨R3,il,eO⟩,Ga,Gb,n0,m0,hnm,ha,hb,hc,hd,z7,Vy,hPs,qp,kk⟩:=h
  have nd:=Ow.nd;have hu0:=hr.units;have hu2:(A.deeper (envOfC "_law_cuts_well" (aE vB) s.heap.objs.size f cdv)).units+1+1<cLine:=by omega
  have G1:=Ga.congr km;have G2:=Gb.congr f9;have eO:∀i j,i<n*m->j<n*m->R3 i j=bf R1 R2 m i j:=λi j hi hj=>(eO i j hi hj).trans (M7 km f9 hi hj);have GP:=G1.prod G2;have G3:=GP.congr eO;have hab:R1 a b=true:=(km a b ha hb).trans z7;have hcd:R2 c d=true:=(f9 c d hc hd).trans Vy;have n24:n<=24:=di (Ru n m0) hnm;have kA:m<=24:=di (Rt m n0) hnm;have k1:=bP ha hc;have k2:=bP hb hd;have hpq:bf R1 R2 m (a*m+c) (b*m+d)=true:=by rw[dR (n:=n) ha hc hb hd,hab,hcd];rfl
  have Vl:cJ C H p n R1:=⟨R1,eN,λ_ _ _ _=>rfl⟩;have Vm:cJ C H q m R2:=⟨R2,dA,λ_ _ _ _=>rfl⟩;have Vn:cJ C H z (n*m) (bf R1 R2 m):=⟨R3,il,eO⟩;obtain⟨dx,vp,vr,vj,vm,o1,_⟩:=id eN;obtain⟨dy,wp,wr,wj,wm,o2,_⟩:=id dA;obtain⟨dz,xp,xr,xj,xm,o3,_⟩:=id il;have nJ:∀n vp vr vj vm,(dH n vp vr vj vm).lookup ("join" : Str)=none:=λ_ _ _ _ _=>nG _ _ _ _ _ (by decide +kernel) (by decide +kernel) (by decide +kernel) (by decide +kernel) (by decide +kernel);have nM:∀n vp vr vj vm,(dH n vp vr vj vm).lookup ("meet" : Str)=none:=λ_ _ _ _ _=>nG _ _ _ _ _ (by decide +kernel) (by decide +kernel) (by decide +kernel) (by decide +kernel) (by decide +kernel);have nA:∀n vp vr vj vm,(dH n vp vr vj vm).lookup ("at_most" : Str)=none:=λ_ _ _ _ _=>nG _ _ _ _ _ (by decide +kernel) (by decide +kernel) (by decide +kernel) (by decide +kernel) (by decide +kernel);obtain⟨J1,N1,M1⟩:=G1.jm;obtain⟨J2,N2,M2⟩:=G2.jm;have hj1:=M1.j _ _ ha hb;have hj2:=M2.j _ _ hc hd;have hm1:=M1.m _ _ ha hb;have hm2:=M2.m _ _ hc hd;have hj3:bA (n*m) R3 (a*m+c) (b*m+d) (J1 a b*m+J2 c d):=(bA.prod (by rw[k1.2.1,k2.2.1];exact hj1) (by rw[k1.2.2,k2.2.2];exact hj2)).cg k1.1 k2.1 eO;have V4:bB (n*m) R3 (a*m+c) (b*m+d) (N1 a b*m+N2 c d):=(bB.prod (by rw[k1.2.1,k2.2.1];exact hm1) (by rw[k1.2.2,k2.2.2];exact hm2)).cg k1.1 k2.1 eO;refine⟨_,(au (kI (pv 3) (qT (K:=K) rfl rfl (fN (aW (i:=7) nd rfl (Or.inl rfl)) (fN (aW (i:=8) nd rfl (Or.inl rfl)) (fN (aW (i:=9) nd rfl (Or.inl rfl)) (fN (aW (i:=10) nd rfl (Or.inl rfl)) ow))))))
   (au (aQ (i:=4) nd rfl (Or.inl rfl) (bq (K:=K) rfl (pv 1) rfl))
   (au (aQ (i:=5) nd rfl (Or.inl rfl) (aB cY (aB fj (pv 7) (pv 4)) (pv 9)))
   (au (aQ (i:=6) nd rfl (Or.inl rfl) (aB cY (aB fj (pv 8) (pv 4)) (pv 10)))
   (au (bU (bV ja (kF pT TC.cl hr (pv 2) (ae (pv 5) (ae (pv 6) ag))) (aB cY (aB fj (kF pT TC.cl hr (pv 0) (ae (pv 7) (ae (pv 8) ag))) (pv 4)) (kF pT TC.cl hr (pv 1) (ae (pv 9) (ae (pv 10) ag)))) (bN _)) (ax (aX eS)) cq)
   (au (bU (bV ja (kF pW TC.cl hr (pv 2) (ae (pv 5) (ae (pv 6) ag))) (aB cY (aB fj (kF pW TC.cl hr (pv 0) (ae (pv 7) (ae (pv 8) ag))) (pv 4)) (kF pW TC.cl hr (pv 1) (ae (pv 9) (ae (pv 10) ag)))) (bN _)) (ax (aX eS)) cq)
   (au (bU (iB (dM (kF mZ TC.cl hr (pv 2) (ae (pv 5) (ae (pv 6) ag))))) (ax (aX eS)) cq)
   (ax (aX (qQ (Za (K:=K) false 1 rfl hu2) (bq (K:=K) rfl (aH kf hr rfl (ae (pv 2) (ae (pv 5) (ae (pv 6) ag (aF nofun)) (aF nofun)) (aF nofun))) rfl) (bq (K:=K) rfl (aH nj hr rfl (ae (aH kf hr rfl (ae (pv 0) (ae (pv 7) (ae (pv 8) ag (aF nofun)) (aF nofun)) (aF nofun))) (ae (aH kf hr rfl (ae (pv 1) (ae (pv 9) (ae (pv 10) ag (aF nofun)) (aF nofun)) (aF nofun))) ag))) rfl) (bN _))))))))))),?_⟩
  refine⟨_,rfl,t,_,rfl,hT,rfl,_,_,rfl,_,_,rfl,_,_,rfl,_,_,rfl,rfl,?_⟩;dsimp only[bj];show bG _ _ _ [some (.ref p),some (.ref q),some (.ref z),some (.ref t),none,none,none,some (.int (a:Int)),some (.int (b:Int)),some (.int (c:Int)),some (.int (d:Int))] _;refine⟨_,rfl,q,C,dy,_,_,rfl,o2,TC.cl,TC.nC,cX _ _ _ _ _,?_⟩;dsimp only[bj];show bG _ _ _ [some (.ref p),some (.ref q),some (.ref z),some (.ref t),some (.int (m:Int)),none,none,some (.int (a:Int)),some (.int (b:Int)),some (.int (c:Int)),some (.int (d:Int))] _;refine⟨_,rfl,_,rfl,_,_,rfl,rfl,.inl ⟨by omega,by omega⟩,_,rfl,_,_,rfl,rfl,?_⟩;have e1:(a:Int)*(m:Int)+(c:Int)=((a*m+c:Nat):Int):=by push_cast;rfl
  dsimp only[bj];rw[e1];show bG _ _ _ [some (.ref p),some (.ref q),some (.ref z),some (.ref t),some (.int (m:Int)),some (.int ((a*m+c:Nat):Int)),none,some (.int (a:Int)),some (.int (b:Int)),some (.int (c:Int)),some (.int (d:Int))] _;refine⟨_,rfl,_,rfl,_,_,rfl,rfl,.inl ⟨by omega,by omega⟩,_,rfl,_,_,rfl,rfl,?_⟩;have e2:(b:Int)*(m:Int)+(d:Int)=((b*m+d:Nat):Int):=by push_cast;rfl
  dsimp only[bj];rw[e2];show bG _ _ _ [some (.ref p),some (.ref q),some (.ref z),some (.ref t),some (.int (m:Int)),some (.int ((a*m+c:Nat):Int)),some (.int ((b*m+d:Nat):Int)),some (.int (a:Int)),some (.int (b:Int)),some (.int (c:Int)),some (.int (d:Int))] _;refine⟨_,rfl,z,dz,_,rfl,o3,nJ _ _ _ _ _,_,rfl,_,rfl,z,n*m,a*m+c,b*m+d,_,R3,rfl,il,G3,k1.1,k2.1,hj3,λH1 s1=>?_⟩;refine⟨_,rfl,p,dx,_,rfl,s1 _ _ o1,nJ _ _ _ _ _,_,rfl,_,rfl,p,n,a,b,_,R1,rfl,eN.bx s1,G1,ha,hb,hj1,λH2 s2=>?_⟩;have bS:=s1.trans s2;have b1:=hj1.1;refine⟨_,rfl,_,_,rfl,rfl,.inl ⟨by omega,by omega⟩,_,rfl,q,dy,_,rfl,bS _ _ o2,nJ _ _ _ _ _,_,rfl,_,rfl,q,m,c,d,_,R2,rfl,dA.bx bS,G2,hc,hd,hj2,λH3 s3=>⟨_,_,rfl,rfl,rfl,_,rfl,?_⟩⟩;have dm:=bS.trans s3;rw[show decide (V.int ((J1 a b*m+J2 c d:Nat):Int)=V.int (((J1 a b:Nat):Int)*(m:Int)+((J2 c d:Nat):Int)))=true by rw[qf];push_cast;rfl];refine cz ?_;dsimp only;show bG _ _ _ [some (.ref p),some (.ref q),some (.ref z),some (.ref t),some (.int (m:Int)),some (.int ((a*m+c:Nat):Int)),some (.int ((b*m+d:Nat):Int)),some (.int (a:Int)),some (.int (b:Int)),some (.int (c:Int)),some (.int (d:Int))] _;refine⟨_,rfl,z,dz,_,rfl,dm _ _ o3,nM _ _ _ _ _,_,rfl,_,rfl,z,n*m,a*m+c,b*m+d,_,R3,rfl,il.bx dm,G3,k1.1,k2.1,V4,λH4 s4=>?_⟩;have fk:=dm.trans s4;refine⟨_,rfl,p,dx,_,rfl,fk _ _ o1,nM _ _ _ _ _,_,rfl,_,rfl,p,n,a,b,_,R1,rfl,eN.bx fk,G1,ha,hb,hm1,λH5 s5=>?_⟩;have eA:=fk.trans s5;have b2:=hm1.1;refine⟨_,rfl,_,_,rfl,rfl,.inl ⟨by omega,by omega⟩,_,rfl,q,dy,_,rfl,eA _ _ o2,nM _ _ _ _ _,_,rfl,_,rfl,q,m,c,d,_,R2,rfl,dA.bx eA,G2,hc,hd,hm2,λH6 s6=>⟨_,_,rfl,rfl,rfl,_,rfl,?_⟩⟩;have fq:=eA.trans s6;rw[show decide (V.int ((N1 a b*m+N2 c d:Nat):Int)=V.int (((N1 a b:Nat):Int)*(m:Int)+((N2 c d:Nat):Int)))=true by rw[qf];push_cast;rfl];refine cz ?_;dsimp only;show bG _ _ _ [some (.ref p),some (.ref q),some (.ref z),some (.ref t),some (.int (m:Int)),some (.int ((a*m+c:Nat):Int)),some (.int ((b*m+d:Nat):Int)),some (.int (a:Int)),some (.int (b:Int)),some (.int (c:Int)),some (.int (d:Int))] _;refine⟨_,rfl,z,dz,_,rfl,fq _ _ o3,nA _ _ _ _ _,_,rfl,_,rfl,z,n*m,a*m+c,b*m+d,R3,rfl,il.bx fq,k1.1,k2.1,λH7 s7=>⟨_,rfl,?_⟩⟩;have eB:=fq.trans s7;rw[eO _ _ k1.1 k2.1,hpq];refine cz ?_;refine⟨_,rfl,_,rfl,_,rfl,z,n*m,a*m+c,b*m+d,bf R1 R2 m,rfl,Vn.same eB,GP,hnm,k1.1,k2.1,hpq,eB _ _ hPs,λy H8 s8 jD=>?_⟩;have iE:=eB.trans s8;obtain⟨Ry,jD,lM⟩:=jD;obtain⟨ey,yp,yr,yj,ym,y1,⟨ya,yus,rfl,y2,y3⟩,_⟩:=id jD;refine⟨y,C,ey,_,_,rfl,y1,TC.cl,TC.nP,tT _ _ _ _ _,?_⟩;refine⟨_,rfl,_,rfl,_,rfl,p,n,a,b,R1,rfl,Vl.same iE,G1,n24,ha,hb,hab,iE _ _ hPs,λx1 H9 s9 Vu=>?_⟩;have mx:=iE.trans s9;refine⟨_,rfl,_,rfl,_,rfl,q,m,c,d,R2,rfl,Vm.same mx,G2,kA,hc,hd,hcd,mx _ _ hPs,λx2 Ha sa hX2=>?_⟩;have rh:=mx.trans sa;have l1:0<(aR n R1 a b).length:=rT (fK.mpr ⟨ha,G1.refl a ha,hab⟩);have l2:0<(aR m R2 c d).length:=rT (fK.mpr ⟨hc,G2.refl c hc,hcd⟩);have qA:(aR n R1 a b).length*(aR m R2 c d).length<=24:=by
   have:=yi (n*m) (bf R1 R2 m) (a*m+c) (b*m+d);rw[sF ha hc hb hd]at this;omega
  refine⟨x1,x2,_,_,_,_,rfl,Vu.same sa,hX2,G1.cut ha hb,G2.cut hc hd,l1,l2,qA,rh _ _ qp,λx3 Hb sb z0=>?_⟩;obtain⟨Rx,z0,ub⟩:=z0;obtain⟨ex,ep,er,ej,em,x31,⟨xa,xus,rfl,x32,x33⟩,_⟩:=id z0;have eP:bw ((aR n R1 a b).length*(aR m R2 c d).length) Rx=bw (aR (n*m) (bf R1 R2 m) (a*m+c) (b*m+d)).length Ry:=by
   rw[sF ha hc hb hd];refine BL λi j hi hj=>?_;rw[ub i j hi hj,<- Tv ha hc hb hd hi hj,lM i j (by rw[sF ha hc hb hd];exact hi) (by rw[sF ha hc hb hd];exact hj)]
  rw[eP]at x33;have Cz:=s9.trans (sa.trans sb);refine⟨x3,C,ex,_,_,rfl,x31,TC.cl,TC.nP,tT _ _ _ _ _,ya,xa,yus,xus,λ_=>true,rfl,rfl,av.of (Cz _ _ y2),av.of x32,Mx (c9.same Cz y3) x33,?_⟩;rw[oX.mpr λ_ _=>rfl];exact kk _ (iE.trans Cz)
end
theorem IV:∀n,n<6->Fam ((List.range (1+n)).map λk=>2 ^ k - 1)/\∀x∈(List.range (1+n)).map λk=>2 ^ k - 1,x<256:=by
 have h:∀n,n<6->((List.range (1+n)).map λk=>2 ^ k - 1).Nodup/\(∀x∈(List.range (1+n)).map λk=>2 ^ k - 1,∀y∈(List.range (1+n)).map λk=>2 ^ k - 1,x&&& y∈(List.range (1+n)).map λk=>2 ^ k - 1) /\
   (∃t∈(List.range (1+n)).map λk=>2 ^ k - 1,∀x∈(List.range (1+n)).map λk=>2 ^ k - 1,x&&& t=x)/\∀x∈(List.range (1+n)).map λk=>2 ^ k - 1,x<256:=by decide +kernel
 intro n hn;obtain⟨h1,h2,h3,h4⟩:=h n hn;exact⟨⟨h1,h2,h3⟩,h4⟩
noncomputable def gT(n:Nat):List Nat:=[0]++(List.range n).map (λk=>2 ^ k)++[2 ^ n - 1]
theorem IW:∀n,n<4->Fam (gT (2+n))/\∀x∈gT (2+n),x<256:=by
 have h:∀n,n<4->(gT (2+n)).Nodup/\(∀x∈gT (2+n),∀y∈gT (2+n),x&&& y∈gT (2+n)) /\
   (∃t∈gT (2+n),∀x∈gT (2+n),x&&& t=x)/\∀x∈gT (2+n),x<256:=by decide +kernel
 intro n hn;obtain⟨h1,h2,h3,h4⟩:=h n hn;exact⟨⟨h1,h2,h3⟩,h4⟩
noncomputable def kD:List (List Nat):=[[0,1],[0,1,3],[0,1,2,3],[0,1,2,4,7],[0,1,3,7]]
theorem Um:∀O∈kD,Fam O/\O.length<=5/\∀x∈O,x<8:=by
 have h:∀O∈kD,O.Nodup/\(∀x∈O,∀y∈O,x&&& y∈O)/\(∃t∈O,∀x∈O,x&&& t=x)/\O.length<=5/\∀x∈O,x<8:=by decide +kernel
 intro O hO;obtain⟨h1,h2,h3,h4,h5⟩:=h O hO;exact⟨⟨h1,h2,h3⟩,h4,h5⟩
noncomputable def gK(F O:List Nat):List Nat:=O.flatMap λm=>F.map λx=>x ||| m*2 ^ 8
theorem Ml{x y:Nat}(hx:x<256)(hy:y<256)(m k:Nat):(x ||| m*2 ^ 8)&&& (y ||| k*2 ^ 8)=(x&&& y) ||| (m&&& k)*2 ^ 8:=by
 apply Gr
 intro i;simp only[<- Nat.shiftLeft_eq,GF,Nat.testBit_or,Nat.testBit_shiftLeft]
 by_cases hi:8<=i
 ·have h1:x.testBit i=false:=Rw (dE hx (rZ (n:=2) (i:=8) (by decide) hi))
  have h2:y.testBit i=false:=Rw (dE hy (rZ (n:=2) (i:=8) (by decide) hi));simp[h1,h2,hi]
 ·simp[hi]
theorem Mj{x y m k:Nat}(hx:x<256)(hy:y<256)(h:x ||| m*2 ^ 8=y ||| k*2 ^ 8):x=y/\m=k:=by
 have e:∀{z n:Nat},z<256->z ||| n*2 ^ 8=2 ^ 8*n+z:=λ{z n} hz=>by
  rw[Nat.two_pow_add_eq_or_of_lt (i:=8) hz,Nat.or_comm,g9]
 rw[e hx,e hy]at h;omega
theorem Fam.Sl{F O:List Nat}(hF:Fam F)(hb:∀x∈F,x<256)(hO:Fam O):Fam (gK F O):=by
 have mem:∀z,z∈gK F O ↔ ∃m∈O,∃x∈F,z=x ||| m*2 ^ 8:=λz=>by
  unfold gK;rw[mM]
  constructor
  ·rintro⟨m,hm,h⟩
   obtain⟨x,hx,rfl⟩:=cu.mp h;exact⟨m,hm,x,hx,rfl⟩
  ·rintro⟨m,hm,x,hx,rfl⟩
   exact⟨m,hm,cu.mpr ⟨x,hx,rfl⟩⟩
 refine⟨?_,λz hz z2 hz2=>?_,?_⟩
 ·unfold gK List.Nodup
  rw[List.pairwise_flatMap];refine⟨λm _=>jk.mpr (hF.nd.imp_of_mem λ{x y} hx hy hne e=>hne (Mj (hb x hx) (hb y hy) e).1),hO.nd.imp λhne z hz z2 hz2 e=>?_⟩;obtain⟨x,hx,rfl⟩:=cu.mp hz;obtain⟨y,hy,rfl⟩:=cu.mp hz2;exact hne (Mj (hb x hx) (hb y hy) e).2
 ·obtain⟨m,hm,x,hx,rfl⟩:=(mem z).mp hz
  obtain⟨k,hk,y,hy,rfl⟩:=(mem z2).mp hz2;rw[Ml (hb x hx) (hb y hy)];exact(mem _).mpr ⟨m&&& k,hO.meet m hm k hk,x&&& y,hF.meet x hx y hy,rfl⟩
 ·obtain⟨t,ht,jF⟩:=hF.top
  obtain⟨u,hu,hu2⟩:=hO.top;refine⟨t ||| u*2 ^ 8,(mem _).mpr ⟨u,hu,t,ht,rfl⟩,λz hz=>?_⟩;obtain⟨m,hm,x,hx,rfl⟩:=(mem z).mp hz;show _&&& _=_;rw[Ml (hb x hx) (hb t ht),jF x hx,hu2 m hm]
theorem Hv(F O:List Nat):(gK F O).length=O.length*F.length:=by
 unfold gK
 induction O with
 |nil=>simp
 |cons m O ih=>rw[jg,cU,ih,aG,fz,j7];omega
noncomputable def qE:List Expr->Option (List (List Int))
 | []=>some []
 |.List es _::r=>match intsOf es,qE r with
  |some is,some qw=>some (is::qw)
  |_,_=>none
 |_=>none
noncomputable def Qi:List (List Int)->TA
 | []=>kR
 |is::r=>jS (Qk λ_ H Q=>Q (is.map V.int) H) (Qi r)
theorem Mq{X:Cx}:∀{es:List Expr} (qw:List (List Int)),qE es=some qw->PA X es (Qi qw)
 | [],_,h=>by
  cases h;exact ag
 |e::es,qw,h=>by
  cases e
  case List es2 pos =>
   unfold qE at h;cases h1:intsOf es2 with
   |none=>rw[h1]at h;simp at h
   |some is =>
    cases h2:qE es with
    |none=>rw[h1,h2]at h;simp at h
    |some Xb =>
     rw[h1,h2]at h;cases h;exact ae (dY (Mp is h1)) (Mq Xb h2) (aF nofun)
  all_goals (simp[qE]at h)
noncomputable def oQ(H H1:Hp)(d most:Nat)(kd:Nat)(Lp:Addr)(c:List V->Prop)(σ:L2.St)(H':Hp):Prop:=∃(v5 v6 v7 v8:Option V) (L:Addr) (xs:List V),σ = [some (.ref d),some (.int most),some (.int kd),some (.ref Lp),some (.ref L),v5,v6,v7,v8]/\Same H1 H'/\H L=none/\H' L=some (.lst xs)/\c xs
noncomputable def zM(xs:List V):Prop:=∃G:List Nat,xs=G.map nV/\Fam G/\G.length<=24/\∀x∈G,x<256
noncomputable def Uk(xs:List V):Prop:=∃G:List Nat,xs=G.map nV/\Fam G/\G.length<=120
noncomputable def Ul(xs:List V):Prop:=xs.length<=24->∃G:List Nat,xs=G.map nV/\Fam G
theorem Ik(xs:List V)(k m:Nat)(h:m<=xs.length):fX xs (some (k:Int)) (some (m:Int))=(xs.drop k).take (m - k):=by
 unfold fX;rw[HT.vf,HT.vf,xD h]
 by_cases hk:k<=xs.length
 ·rw[xD hk]
 ·rw[Gs (by omega),show m - k=0 by omega,show m - xs.length=0 by omega];simp
section
variable {P:Program} {w:World} {K:W.Frag} {mg:Str->Option Value} {base:Heap} {f:Addr} {fd:FuncData}
abbrev mz:Stmt:=top 56
theorem Oz:aZ ["_law_draws_here","_law_most","_law_kind","_law_plain","_law_found","_law_size","_law_other","_law_grown","_law_mask"] ["_law_draws_here","_law_most"] (aE mz):=⟨rfl,rfl,rfl,by decide +kernel,rfl,by decide +kernel,by decide +kernel⟩
noncomputable def DQ(K:W.Frag):Sp:=λvs H Q _=>∃(d most:Nat) (ns:List Int),vs = [.ref d,.int most]/\ai K H d (ns.map V.int)/\Small ns/\ns.length=40/\1<=most/\most<=24 /\
 ∀L F H',Same H H'->H L=none->H' L=some (.lst (F.map nV))->Fam F->F.length<=most->Q (.ref L) H'
theorem Yw (F:aV K "_law_family" "_law_family" mz f fd) (T:Txt mg) (nQ:mg "set" = none) (ng:ao P w K mg base "_law_masks" ["_law_numbers","_law_wide","_law_most"] 1 (wg K)) (yA:ao P w K mg base "_law_planes" ["_law_wide"] 2 (Eg K)):aN P w K mg base aS 3 f fd ["_law_draws_here","_law_most"] (DQ K):=by
 refine F.ok Oz (λvs H Q E h=>?_) (λcdv A outer s H vs Q E hr h=>?_)
 ·obtain⟨d,most,ns,rfl,_⟩:=h
  rfl
 ·obtain⟨d,most,ns,rfl,hd,hs,hl,hm1,hm2,kk⟩:=h
  have nd:=Oz.nd;have hr0:=hr.mono (cW 2);refine⟨_,(@au _ _ _ _ _ (aQ (i:=2) nd rfl (Or.inl rfl) (aB cR (ay (bE (K:=K) rfl) (pv 0) ak (λ_ _=>rfl)) ak))
   (@au _ _ _ _ _ (aQ (i:=3) nd rfl (Or.inl rfl) (aH ng hr rfl (ae (qR (rD (K:=K) rfl) (pv 0) (mj ak) (mj ak)) (ae (aB cY ak (aB cR (ay (bE (K:=K) rfl) (pv 0) ak (λ_ _=>rfl)) ak)) (ae (pv 1) ag (aF nofun)) (aF nofun)) (aF nofun))))
   (@au _ _ _ _ _ (uZ (i:=4) nd rfl rfl (own:=["_law_k"]) (fr:=[]) rfl (bX (aE mz) ["_law_draws_here","_law_most","_law_kind","_law_plain","_law_found","_law_size","_law_other","_law_grown","_law_mask"] rfl rfl (by decide +kernel)) (bY rfl T.range (ae (aB cY ak (aB cR (ay (bE (K:=K) rfl) (pv 0) ak (λ_ _=>rfl)) ak)) ag)) (λ_ _ _ _=>⟨(aW (i:=0) (by decide +kernel:(["_law_k"]:List Str).Nodup) rfl (Or.inl rfl)),da,(aB qN (aB iz ak (pv 0)) ak)⟩))
   (@au _ _ _ _ _ (bU (bV fh (aB cR (ay (bE (K:=K) rfl) (pv 0) ak (λ_ _=>rfl)) ak) ak (bN _)) (@au _ _ _ _ _ (aQ (i:=5) nd rfl (Or.inl rfl) (aB cY ak (aB cR (ay (bE (K:=K) rfl) (pv 0) ak (λ_ _=>rfl)) ak)))
   (ax (aQ (i:=4) nd rfl (Or.inl rfl) (aB jK (aB jK (dY (ae ak ag)) (cS (own:=["_law_k"]) (fr:=[]) rfl (bX (aE mz) ["_law_draws_here","_law_most","_law_kind","_law_plain","_law_found","_law_size","_law_other","_law_grown","_law_mask"] rfl rfl (by decide +kernel)) (bY rfl T.range (ae (pv 5) ag)) (λ_ _ _ _=>⟨(aW (i:=0) (by decide +kernel:(["_law_k"]:List Str).Nodup) rfl (Or.inl rfl)),da,(aB iz ak (pv 0))⟩))) (dY (ae (aB qN (aB iz ak (pv 5)) ak) ag)))))) cq)
   (@au _ _ _ _ _ (bU (bV fh (aB cR (ay (bE (K:=K) rfl) (pv 0) ak (λ_ _=>rfl)) ak) ak (bN _)) (ax (aQ (i:=4) nd rfl (Or.inl rfl) (aH yA hr rfl (ae (aB cY ak (aB cR (ay (bE (K:=K) rfl) (pv 0) ak (λ_ _=>rfl)) ak)) ag)))) cq)
   (@au _ _ _ _ _ (bU (bV uP (pv 2) ak (bN _)) (@au _ _ _ _ _ (@aQ _ _ 6 _ _ _ _ nd rfl (Or.inl rfl) (@ay _ _ _ _ _ _ _ (bE (K:=K) rfl) (@dY _ _ _ _ (@Mq _ _ [[0,1],[0,1,3],[0,1,2,3],[0,1,2,4,7],[0,1,3,7]] rfl)) (aB cR (ay (bE (K:=K) rfl) (pv 0) ak (λ_ _=>rfl)) ak) (λ_ _=>rfl)) (by rfl) (by first|exact .inl rfl|exact .inr rfl))
   (@au _ _ _ _ _ (aQ (i:=7) nd rfl (Or.inl rfl) (dY ag))
   (@au _ _ _ _ _ (cn b_ rfl (eU (K:=K) rfl (pv 6)) (aW (i:=8) nd rfl (Or.inr rfl))
   (ax (aQ (i:=7) nd rfl (Or.inl rfl) (aB jK (pv 7) (cS (own:=["_law_one"]) (fr:=[("_law_mask", 8)]) rfl (bX (aE mz) ["_law_draws_here","_law_most","_law_kind","_law_plain","_law_found","_law_size","_law_other","_law_grown","_law_mask"] rfl rfl (by decide +kernel)) (eU (K:=K) rfl (pv 4)) (λ_ _ _ _=>⟨(aW (i:=0) (by decide +kernel:(["_law_one","_law_mask"]:List Str).Nodup) rfl (Or.inl rfl)),da,(aB Bz (pv 0) (aB iz (pv 1) ak))⟩))))))
   (ax (aQ (i:=4) nd rfl (Or.inl rfl) (pv 7)))))) cq)
   (@au _ _ _ _ _ (bU (bV uP (pv 2) ak (bN _)) (@au _ _ _ _ _ (aQ (i:=8) nd rfl (Or.inr rfl) (aB cR (ay (bE (K:=K) rfl) (pv 0) ak (λ_ _=>rfl)) ak))
   (ax (aQ (i:=4) nd rfl (Or.inl rfl) (cA (HW hr0) rfl T.sorted HF (ae (jd (HS (K:=K) rfl hr0) rfl nQ HN (ae (aB jK (pv 4) (cS (own:=["_law_one"]) (fr:=[("_law_mask", 8)]) rfl (bX (aE mz) ["_law_draws_here","_law_most","_law_kind","_law_plain","_law_found","_law_size","_law_other","_law_grown","_law_mask"] rfl rfl (by decide +kernel)) (eU (K:=K) rfl (pv 4)) (λ_ _ _ _=>⟨(aW (i:=0) (by decide +kernel:(["_law_one","_law_mask"]:List Str).Nodup) rfl (Or.inl rfl)),da,(aB kC (pv 0) (pv 1))⟩))) ag)) ag))))) cq)
   (@au _ _ _ _ _ (bU (PW.pt (mv (bV uR (pv 2) ak (bN _)) (mw (bV uP (cA (dw (K:=K) rfl) rfl T.len dF (ae (pv 4) ag)) (pv 1) (bN _))))) (ax (aX (pv 3))) cq)
   (ax (aX (pv 4))))))))))),?_⟩
  obtain⟨rk,hrk,ek⟩:=f6 (ns.getD 0 0) 10 (by decide);obtain⟨r7,hr7,e7⟩:=f6 (ns.getD 10 0) 7 (by decide);obtain⟨r6,J0,e6⟩:=f6 (ns.getD 1 0) 6 (by decide);obtain⟨r4,JZ,e4⟩:=f6 (ns.getD 1 0) 4 (by decide);obtain⟨r2,hr2,e2⟩:=f6 (ns.getD 1 0) 2 (by decide);obtain⟨r5,Ar,e5⟩:=f6 (ns.getD 3 0) 5 (by decide);obtain⟨rm,hrm,em⟩:=f6 (ns.getD 4 0) 2048 (by decide);have ek:ns.getD 0 0 % 10=(rk:Int):=ek;have e7:ns.getD 10 0 % 7=(r7:Int):=e7;have e6:ns.getD 1 0 % 6=(r6:Int):=e6;have e4:ns.getD 1 0 % 4=(r4:Int):=e4;have e2:ns.getD 1 0 % 2=(r2:Int):=e2;have e5:ns.getD 3 0 % 5=(r5:Int):=e5;have em:ns.getD 4 0 % 2048=(rm:Int):=em;refine⟨_,rfl,d,_,0,_,rfl,rfl,hd,aM (eK (i:=0) (by omega)),_,_,rfl,rfl,(by show(0:Int)<10;decide),?_⟩;dsimp only[bj];rw[ek];show bG _ _ _ [some (.ref d),some (.int most),some (.int rk),none,none,none,none,none,none] _;refine⟨_,rfl,_,rfl,_,rfl,d,_,rfl,hd,λp1 hp1=>?_⟩;rw[show fX (ns.map V.int) (some 1) (some 10)=((ns.drop 1).take 9).map V.int by rw[FZ,xk];exact Ik (ns.map V.int) 1 10 (by rw[aG];omega)];have Dw:=Same.put hp1 (o:=.lst (((ns.drop 1).take 9).map V.int));refine⟨_,rfl,d,_,10,_,rfl,rfl,Dw.seq hd,aM (eK (i:=10) (by omega)),_,_,rfl,rfl,(by show(0:Int)<7;decide),_,_,rfl,rfl,_,rfl,p1,2+r7,most,(ns.drop 1).take 9,by dsimp only;rw[e7];push_cast;rfl,ai.of aA,λx hx=>(hs x (List.mem_of_mem_drop (List.mem_of_mem_take hx))).1,by omega,hm1,hm2,λLp Gp H1 s1 Vh hlp Va Vb _=>?_⟩;have iD:=Dw.trans s1;have Vi:H Lp=none:=Same.none Dw Vh;dsimp only[bj];show bG _ _ _ [some (.ref d),some (.int most),some (.int rk),some (.ref Lp),none,none,none,none,none] _;refine⟨_,rfl,d,_,1,_,rfl,rfl,iD.seq hd,aM (eK (i:=1) (by omega)),_,_,rfl,rfl,(by show(0:Int)<6;decide),_,_,rfl,rfl,_,rfl,by rw[e6];omega,by rw[e6];omega,λD hD=>fE (λj=>nV (2 ^ j - 1)) src_range hD (by rw[e6];exact cH (by omega)) (λj H3 Kt hj hs kt=>?_) (λH3 hs3 hl3=>?_)⟩
  ·rw[e6]at hj
   refine⟨_,rfl,_,_,rfl,rfl,⟨by omega,by omega,by decide⟩,_,_,rfl,rfl,?_⟩;dsimp only;have:(1:Int)*2 ^ ((0:Int)+(j:Int)).toNat - 1=((2 ^ j - 1:Nat):Int):=by
    have:=xF j;rw[dg,bu,mH,Int.natCast_sub this];push_cast;rfl
   rw[this];exact kt _ (Same.refl _)
  rw[e6]at hl3;have c0:oQ H H1 d most rk Lp zM [some (.ref d),some (.int most),some (.int rk),some (.ref Lp),some (.ref D),none,none,none,none] H3:=by
   refine⟨none,none,none,none,D,_,rfl,hs3,Same.none iD hD,hl3,_,?_,(IV r6 J0).1,by simp;omega,(IV r6 J0).2⟩;rw[show((1:Int)+(r6:Int)).toNat=1+r6 by omega,d6];rfl
  dsimp only[bj];show bG _ _ _ [some (.ref d),some (.int most),some (.int rk),some (.ref Lp),some (.ref D),none,none,none,none] _;refine oB (oQ H H1 d most rk Lp zM) (λD' hD' next=>?_) ?_
  ·refine⟨_,rfl,d,_,2,_,rfl,rfl,(iD.trans hs3).seq hd,aM (eK (i:=2) (by omega)),_,_,rfl,rfl,(by show(0:Int)<3;decide),rfl,_,rfl,bM (λh=>?_) (λh=>next _ _ c0)⟩
   have dm:=iD.trans hs3;refine⟨_,rfl,d,_,1,_,rfl,rfl,dm.seq hd,aM (eK (i:=1) (by omega)),_,_,rfl,rfl,(by show(0:Int)<4;decide),_,_,rfl,rfl,?_⟩;have e4':(2:Int)+ns.getD 1 0 % 4=((2+r4:Nat):Int):=by rw[e4];push_cast;rfl
   dsimp only[bj];rw[e4'];show rK _ _ _ [some (.ref d),some (.int most),some (.int rk),some (.ref Lp),some (.ref D),some (.int ((2+r4:Nat):Int)),none,none,none] _;have sh:(1:Int)*2 ^ (((2+r4:Nat):Int)).toNat - 1=((2 ^ (2+r4) - 1:Nat):Int):=by
    have:=xF (2+r4);rw[bu,mH,Int.natCast_sub this];push_cast;rfl
   refine⟨by show 1<=sizeLine;decide,λq1 hq1=>⟨_,rfl,_,rfl,(a_ (by omega)).1,(a_ (by omega)).2,λD2 hD2=>fE (λj=>nV (2 ^ j)) src_range hD2 (by rw[bu];exact cH (by omega)) (λj H4 Kt hj hs kt=>?_) (λH4 Au iW=>?_)⟩⟩
   ·rw[bu]at hj
    refine⟨_,rfl,_,_,rfl,rfl,⟨by omega,by omega,by decide⟩,?_⟩;dsimp only;rw[show(1:Int)*2 ^ ((0:Int)+(j:Int)).toNat=((2 ^ j:Nat):Int)by rw[dg,bu,mH];push_cast;rfl];exact kt _ (Same.refl _)
   ·rw[bu]at iW
    refine⟨q1,D2,_,_,rfl,rfl,Au _ _ aA,iW,by simp;exact gG (d4 (by omega)),λq2 hq2=>?_⟩;refine⟨_,rfl,_,_,rfl,rfl,⟨by omega,by omega,by decide⟩,_,_,rfl,rfl,by show 1<=sizeLine;decide,λq3 uk=>?_⟩;refine⟨q2,q3,_,_,rfl,rfl,Same.put uk _ _ aA,aA,by simp;exact gG (d4 (by omega)),λq4 Aq=>?_⟩;refine next _ _ ⟨_,none,none,none,q4,_,rfl,((((hs3.trans (Same.put hq1)).trans Au).trans (Same.put hq2)).trans (Same.put uk)).trans (Same.put Aq),?_,aA,gT (2+r4),?_,(IW r4 JZ).1,by simp[gT];omega,(IW r4 JZ).2⟩
    ·exact Same.none (((((iD.trans hs3).trans (Same.put hq1)).trans Au).trans (Same.put hq2)).trans (Same.put uk)) Aq
    ·dsimp only
     rw[sh];simp[gT]
  rintro σ1 H4 ⟨v5,v6,v7,v8,L1,xs1,rfl,s4,hL1,hl1,hc1⟩;have fk:=iD.trans s4;show bG _ _ _ [some (.ref d),some (.int most),some (.int rk),some (.ref Lp),some (.ref L1),v5,v6,v7,v8] _;refine oB (oQ H H1 d most rk Lp zM) (λD' hD' next=>?_) ?_
  ·refine⟨_,rfl,d,_,2,_,rfl,rfl,fk.seq hd,aM (eK (i:=2) (by omega)),_,_,rfl,rfl,(by show(0:Int)<3;decide),rfl,_,rfl,bM (λh=>?_) (λh=>next _ _ ⟨v5,v6,v7,v8,L1,xs1,rfl,s4,hL1,hl1,hc1⟩)⟩
   refine⟨_,rfl,d,_,1,_,rfl,rfl,fk.seq hd,aM (eK (i:=1) (by omega)),_,_,rfl,rfl,(by show(0:Int)<2;decide),_,_,rfl,rfl,2+r2,by dsimp only;rw[e2];push_cast;rfl,by omega,λL2 G2 H5 s5 hL2 hl2 nT tW zT=>?_⟩;exact next _ _ ⟨v5,v6,v7,v8,L2,_,rfl,s4.trans s5,Same.none fk hL2,hl2,G2,rfl,nT,tW,zT⟩
  rintro σ2 H5 ⟨v5,v6,v7,v8,L2,xs2,rfl,s5,hL2,hl2,G2,rfl,nT,tW,zT⟩;have eA:=iD.trans s5;show bG _ _ _ [some (.ref d),some (.int most),some (.int rk),some (.ref Lp),some (.ref L2),v5,v6,v7,v8] _;refine oB (oQ H H1 d most rk Lp Uk) (λD' hD' next=>?_) ?_
  ·refine⟨_,rfl,_,_,rfl,rfl,_,rfl,bM (λh=>?_) (λh=>next _ _ ⟨v5,v6,v7,v8,L2,_,rfl,s5,hL2,hl2,G2,rfl,nT,by omega⟩)⟩
   refine⟨by show 2<=sizeLine;decide,λp1 hp1=>⟨by show 3<=sizeLine;decide,λp2 hp2=>⟨by show 4<=sizeLine;decide,λp3 hp3=>⟨by show 5<=sizeLine;decide,λp4 lP=>⟨by show 4<=sizeLine;decide,λp5 V'=>⟨by show 5<=sizeLine;decide,λp6 uj=>?_⟩⟩⟩⟩⟩⟩;generalize hB:upd (upd (upd (upd (upd (upd H5 p1 _) p2 _) p3 _) p4 _) p5 _) p6 _=B;have t1:=Same.put hp1 (o:=.lst (([0,1]:List Int).map V.int));have t2:=Same.put hp2 (o:=.lst (([0,1,3]:List Int).map V.int));have t3:=Same.put hp3 (o:=.lst (([0,1,2,3]:List Int).map V.int));have t4:=Same.put lP (o:=.lst (([0,1,2,4,7]:List Int).map V.int));have t5:=Same.put V' (o:=.lst (([0,1,3,7]:List Int).map V.int));have t6:=Same.put uj (o:=.lst [V.ref p1,V.ref p2,V.ref p3,V.ref p4,V.ref p5]);have sB:Same H5 B:=by rw[<- hB];exact t1.trans (t2.trans (t3.trans (t4.trans (t5.trans t6))))
   have b6:B p6=some (.lst [V.ref p1,V.ref p2,V.ref p3,V.ref p4,V.ref p5]):=by rw[<- hB];exact aA
   have b5:B p5=some (.lst (([0,1,3,7]:List Nat).map nV)):=by rw[<- hB];exact t6 _ _ aA
   have b4:B p4=some (.lst (([0,1,2,4,7]:List Nat).map nV)):=by rw[<- hB];exact t6 _ _ (t5 _ _ aA)
   have b3:B p3=some (.lst (([0,1,2,3]:List Nat).map nV)):=by rw[<- hB];exact t6 _ _ (t5 _ _ (t4 _ _ aA))
   have b2:B p2=some (.lst (([0,1,3]:List Nat).map nV)):=by rw[<- hB];exact t6 _ _ (t5 _ _ (t4 _ _ (t3 _ _ aA)))
   have b1:B p1=some (.lst (([0,1]:List Nat).map nV)):=by rw[<- hB];exact t6 _ _ (t5 _ _ (t4 _ _ (t3 _ _ (t2 _ _ aA))))
   obtain⟨q,O,hq,JX,hO⟩:∃(q:Addr) (O:List Nat),[V.ref p1,V.ref p2,V.ref p3,V.ref p4,V.ref p5][r5]?=some (.ref q)/\B q=some (.lst (O.map nV))/\O∈kD:=by
    match r5,Ar with
    |0,_=>exact⟨p1,_,rfl,b1,by simp[kD]⟩
    |1,_=>exact⟨p2,_,rfl,b2,by simp[kD]⟩
    |2,_=>exact⟨p3,_,rfl,b3,by simp[kD]⟩
    |3,_=>exact⟨p4,_,rfl,b4,by simp[kD]⟩
    |4,_=>exact⟨p5,_,rfl,b5,by simp[kD]⟩
   obtain⟨hOf,Vo,Vk⟩:=Um O hO;refine⟨_,rfl,d,_,3,_,rfl,rfl,(eA.trans sB).seq hd,aM (eK (i:=3) (by omega)),_,_,rfl,rfl,(by show(0:Int)<5;decide),p6,_,_,_,rfl,rfl,ai.of b6,by rw[e5];exact aM hq,?_⟩;dsimp only[bj];show bG _ _ _ [some (.ref d),some (.int most),some (.int rk),some (.ref Lp),some (.ref L2),v5,some (.ref q),v7,v8] _;refine⟨by show 0<=sizeLine;decide,λg0 hg0=>?_⟩;dsimp only[bj];show bG _ _ _ [some (.ref d),some (.int most),some (.int rk),some (.ref Lp),some (.ref L2),v5,some (.ref q),some (.ref g0),v8] _;have sg:=Same.put hg0 (o:=.lst ([]:List V));refine⟨_,rfl,q,rfl,⟨_,ai.of (sg _ _ JX)⟩,iS (K:=K) (a:=q) (xs:=O.map nV) (λi σ H6=>∃(v8:Option V) (gl:Addr),σ = [some (.ref d),some (.int most),some (.int rk),some (.ref Lp),some (.ref L2),v5,some (.ref q),some (.ref gl),v8]/\Same B H6/\B gl=none/\H6 gl=some (.lst ((gK G2 (O.take i)).map nV)))
    ⟨v8,g0,rfl,sg,hg0,aA⟩ (λi σ H6 _ ⟨_,_,_,s6,_⟩=>ai.of (s6 _ _ JX)) ?_ ?_⟩
   ·rintro i x σ H6 hx ⟨v8,gl,rfl,s6,JB,hg⟩
    have hi:i<O.length:=by have:=(bD.mp hx).1;rwa [aG]at this
    have ex:x=nV (O.getD i 0):=by rw[i_ hi]at hx;exact(dW hx).symm
    subst ex;have abT:=Vk _ (Ev.getD_mem hi);have JK:H6 L2=some (.lst (G2.map nV)):=s6 _ _ (sB _ _ hl2);refine⟨_,rfl,_,rfl,L2,rfl,⟨_,ai.of JK⟩,λD hD=>fE (λj=>nV (G2.getD j 0 ||| O.getD i 0*2 ^ 8)) (src_list (ai.of JK)) hD (cH (by rw[aG];omega)) (λj H7 Kt hj hs kt=>?_) (λH7 lQ Ah=>?_)⟩
    ·rw[aG]at hj
     refine⟨_,rfl,_,rfl,_,_,rfl,rfl,⟨by decide,by decide,by rw[Int.natAbs_natCast];omega⟩,_,_,by rw[bh,i_ hj];rfl,rfl,?_⟩;dsimp only;rw[show((O.getD i 0:Nat):Int)*2 ^ (8:Int).toNat=((O.getD i 0*2 ^ 8:Nat):Int)by push_cast;rfl,BG];exact kt _ (Same.refl _)
    ·have hbl:(gK G2 (O.take i)).length<=5*24:=by
      rw[Hv,j5];exact Gw (by omega) tW
     refine⟨gl,D,_,_,rfl,rfl,lQ _ _ hg,Ah,by simp;exact gG (d4 (by omega)),λg2 hg2=>?_⟩;refine⟨_,g2,rfl,(s6.trans lQ).trans (Same.put hg2),Same.none (s6.trans lQ) hg2,?_⟩;rw[aA,Rp hi];have eb:gK G2 (O.take i++[O[i]])=gK G2 (O.take i)++G2.map λx=>x ||| O[i]*2 ^ 8:=by unfold gK;rw[FQ,Q8]
     rw[eb,iJ]
     congr 3
     rw[aG,d6];apply j4
     ·simp
     ·intro k h1 h2
      simp only[aG,dh]at h1;simp[bh,aI h1,aI hi]
   ·rintro σ H6 ⟨v8,gl,rfl,s6,JB,hg⟩
    rw[aG,mN]at hg;refine⟨_,rfl,next _ _ ⟨_,_,_,_,gl,_,rfl,(s5.trans sB).trans s6,Same.none (eA.trans sB) JB,hg,gK G2 O,rfl,nT.Sl zT hOf,?_⟩⟩;rw[Hv];exact di (Gw Vo tW) (by decide)
  rintro σ3 H6 ⟨v5,v6,v7,v8,L3,xs3,rfl,s6,eM,ui,G3,rfl,tX,abP⟩;have fq:=iD.trans s6;show bG _ _ _ [some (.ref d),some (.int most),some (.int rk),some (.ref Lp),some (.ref L3),v5,v6,v7,v8] _;refine oB (oQ H H1 d most rk Lp Ul) (λD' hD' next=>?_) ?_
  ·refine⟨_,rfl,_,_,rfl,rfl,_,rfl,bM (λh=>?_) (λh=>next _ _ ⟨v5,v6,v7,v8,L3,_,rfl,s6,eM,ui,λ_=>⟨G3,rfl,tX⟩⟩)⟩
   refine⟨_,rfl,d,_,4,_,rfl,rfl,fq.seq hd,aM (eK (i:=4) (by omega)),_,_,rfl,rfl,(by show(0:Int)<2048;decide),?_⟩;dsimp only[bj];rw[em];show rK _ _ _ [some (.ref d),some (.int most),some (.int rk),some (.ref Lp),some (.ref L3),v5,v6,v7,some (.int rm)] _;refine⟨_,rfl,_,rfl,L3,rfl,⟨_,ai.of ui⟩,λD hD=>fE (λj=>nV (G3.getD j 0&&& rm)) (src_list (ai.of ui)) hD (by rw[aG];exact d4 (by omega)) (λj H7 Kt hj hs kt=>?_) (λH7 lQ Ah=>?_)⟩
   ·rw[aG]at hj
    refine⟨_,rfl,_,rfl,_,_,by rw[bh,i_ hj];rfl,rfl,?_⟩;dsimp only;rw[lB];exact kt _ (Same.refl _)
   ·refine⟨L3,D,_,_,rfl,rfl,lQ _ _ ui,Ah,by simp;exact gG (d4 (by omega)),λp hp=>?_⟩
    rw[Ij];have s8:=Same.put (o:=.lst ((ig G3 rm).map V.int)) hp;refine⟨p,ig G3 rm,rfl,ai.of aA,by rw[sU];omega,λq ks hq hnd hks=>?_⟩;have hkl:ks.length<=2*G3.length:=by
     rw[<- sU G3 rm];exact Bv hnd λk hk=>(hks k).mp hk
    refine⟨q,ks,rfl,aA,by omega,λr ms hr hml hms=>?_⟩;have s9:=Same.put (o:=lz P w q ks) hq;have Ci:=Same.put (o:=.lst (ms.map V.int)) hr;refine next _ _ ⟨_,_,_,_,r,_,rfl,(s6.trans lQ).trans (s8.trans (s9.trans Ci)),Same.none ((fq.trans lQ).trans (s8.trans s9)) hr,aA,λhlen=>?_⟩;rw[aG]at hlen;obtain⟨hmp,_⟩:=hms (by omega);obtain⟨G',eG,hG',_⟩:=tX.grown hnd hks hmp;exact⟨G',eG,hG'⟩
  rintro σ4 H7 ⟨v5,v6,v7,v8,L4,QF,rfl,s7,Vg,iW,hc4⟩;have eB:=iD.trans s7;have hpl:Q (.ref Lp) H7:=kk Lp Gp H7 eB Vi (s7 _ _ hlp) Va Vb;refine⟨_,rfl,_,_,rfl,rfl,_,rfl,bM (λh=>?_) (λh=>?_)⟩
  ·exact gQ ⟨_,rfl,hpl⟩
  ·refine⟨_,rfl,L4,_,rfl,.inl (ai.of iW),_,rfl,_,_,rfl,rfl,_,rfl,bM (λh2=>?_) (λh2=>?_)⟩
   ·exact⟨_,rfl,hpl⟩
   ·have hle:QF.length<=most:=by
     have:¬ ((most:Int)<(QF.length:Int)):=λz=>h2 (eh z);omega
    obtain⟨G4,rfl,U_⟩:=hc4 (by omega);rw[aG]at hle;exact⟨_,rfl,kk L4 G4 H7 eB Vg iW U_ hle⟩
abbrev Df:Stmt:=top 58
theorem Ox:aZ ["_law_cell","_law_most","_law_draws_here"] ["_law_cell","_law_most"] (aE Df):=⟨rfl,rfl,rfl,by decide +kernel,rfl,by decide +kernel,by decide +kernel⟩
noncomputable def DP:Sp:=λvs H Q _=>∃(c:Int) (most:Nat),vs = [.int c,.int most]/\1<=most/\most<=24 /\
 ∀L us M H',Same H H'->H L=none->H' L=some (.lst (us.map nV))->Ev.fy M->M.length<=most->gJ M.length (Ev.a8 M) us->Q (.ref L) H'
theorem Yt (F:aV K "_law_drawn" "_law_drawn" Df f fd) (T:Txt mg) (m_:ao P w K mg base "_law_draws" ["_law_cell","_law_many"] 2 vR) (yv:ao P w K mg base "_law_family" ["_law_draws_here","_law_most"] 3 (DQ K)) (yB:ao P w K mg base "_law_ups" ["_law_family_here","_law_numbers"] 1 (El K)):aN P w K mg base aS 4 f fd ["_law_cell","_law_most"] DP:=by
 refine F.ok Ox (λvs H Q E h=>?_) (λcdv A outer s H vs Q E hr h=>?_)
 ·obtain⟨c,most,rfl,_⟩:=h
  rfl
 ·obtain⟨c,most,rfl,hm1,hm2,kk⟩:=h
  have nd:=Ox.nd;refine⟨_,(au (aQ (i:=2) nd rfl (Or.inl rfl) (aH m_ hr rfl (ae (pv 0) (ae ak ag))))
   (ax (aX (aH yB hr rfl (ae (aH yv hr rfl (ae (pv 2) (ae (pv 1) ag))) (ae (qR (rD (K:=K) rfl) (pv 2) (mj ak) (mj ak)) ag)))))),?_⟩
  refine⟨_,rfl,c,40,rfl,by decide,λd ns H1 s1 hd0 hd hnl hsm=>?_⟩;dsimp only[bj];refine⟨_,rfl,_,rfl,d,most,ns,rfl,ai.of hd,hsm,hnl,hm1,hm2,λL F H2 s2 hL hl hF U8=>?_⟩;refine⟨_,rfl,_,rfl,_,rfl,d,_,rfl,ai.of (s2 _ _ hd),λp hp=>?_⟩;rw[show fX (ns.map V.int) (some 12) (some 36)=((ns.drop 12).take 24).map V.int by rw[FZ,xk];exact Ik (ns.map V.int) 12 36 (by rw[aG];omega)];have s3:=Same.put hp (o:=.lst (((ns.drop 12).take 24).map V.int));refine⟨L,p,F,(ns.drop 12).take 24,rfl,ai.of (s3 _ _ hl),ai.of aA,by rw[j5,o6];omega,by omega,λL3 us M H4 s4 eM hl3 hM hU=>?_⟩;have dm:=(s1.trans s2).trans s3;exact kk L3 us M H4 (dm.trans s4) (Same.none dm eM) hl3 ((hF.lat (by omega)).perm hM.symm) (by rw[hM.length_eq];exact U8) hU
end
end My
namespace L2
open PySem PySem.Spec PyProof.Rows
noncomputable def oS(n:Nat):It:=⟨λi _=>i<n,λi H x H'=>H'=H/\x = .int (3*(i:Int)),λi _=>n<=i⟩
theorem abj{P:Program}{w:World}{K:PySem.W.Frag}{tg:Expr}(it:Addr)(n:Nat):Turn P w K tg (oS n) [it] it (λi h=>IsRangeIter h it (0+(i:Nat)*3) ((n:Int) - (i:Nat)) 3) where
 mem:=by simp
 obj:=λi h st b hb=>by
  have e:b=it:=by simpa using hb
  subst e;exact⟨_,st,λv z=>by
   have z':Data.fields _=Data.cell v:=z;cases z'⟩
 keep:=λi h h' st k=>k it (by simp) _ st
 item:=by
  intro X hP hw hK hc i pins s σ H E I hf st hg;subst hP hw hK;obtain⟨f0,f1,f2,f3,f4,f5⟩:=hf it (by simp);have W:=Walks.range (prog:=X.prog) (w:=X.w) (I.ok.hd hc) it 0 3 n;refine W.item i s _ _ hg st λv h' tk hv st' kk=>?_;obtain⟨t,rfl⟩:=hv;have I1:Inv X pins σ H {s with heap:=h',toks:=tk}:=I.turned (λb o hb e=>kk b o (by simpa using hb) e) f0 f1 f3 f4 f5;refine⟨_,rfl,ql (s:={s with heap:=h',toks:=tk}) (n:= "range_iterator") st' rfl rfl (by decide) ⟨.int (3*(i:Int)),H,I1,⟨t,?_⟩,⟨rfl,rfl⟩,st',λb hb=>(hf b hb).1⟩⟩
  congr 1
  omega
 done:=by
  intro X hP hw hK hc i pins s σ H E I hf st hg;subst hP hw hK;obtain⟨f0,f1,f2,f3,f4,f5⟩:=hf it (by simp);exact wpAny_pyNext_range_end (I.ok.hd hc) st (by have:n<=i:=hg;omega) λh' eb=>⟨rfl,I.turned (t':=s.toks) (λb o hb e=>eb b o hb e) f0 f1 f3 f4 f5⟩
 self:=λ_ _ _ _ _ st h=>wpAny_pyIter_rangeiter st h
section
variable {X:Cx} {tg:Expr}
theorem PL{hi:Int}(h0:0<=hi):Builtin.Range.rangeSize 0 hi 3=(((hi+2) / 3).toNat:Int):=by
 unfold Builtin.Range.rangeSize;simp only[show(3:Int) > 0 by decide,jI]
 split<;>omega
theorem aaM{hi:Int}(h0:0<=hi)(h1:hi<=1000):Builtin.Range.small 0 hi 3=true:=by
 unfold Builtin.Range.small;rw[PL h0];simp only[Builtin.Range.rangeFitsLong,bH,Fs,decide_eq_true_eq,ic,show(3:Int) > 0 by decide,jI];omega
noncomputable def WT(ta:TA):TI:=λσ H R=>ta σ H λvs H1=>∃j:Int,vs = [.int 0,.int j,.int 3]/\0<=j/\j<=1000/\R (oS ((j+2) / 3).toNat) H1
theorem ZG {a b c:Expr} {ta:TA} {p pos:Pos} (hg:Gl X "range") (hm:X.mg "range" = none) (ha:PA X [a,b,c] ta) (hs:starEach [a,b,c] X.env = [(false,eval a X.env),(false,eval b X.env),(false,eval c X.env)]:=by rfl) (hs2:starEach [b,c] X.env = [(false,eval b X.env),(false,eval c X.env)]:=by rfl) :
  PI X tg (.Call (.Name "range" p) [a,b,c] [] pos) (WT ta):=by
 intro pins s σ H R I h;refine Call_ (iY I hg hm boot_range (mR (aL (ha pos pins s σ H _ I h) λus s1 ⟨vs,H1,I1,r1,q1⟩=>?_) (by rw[hs,hs2]) (by rw[hs2];rfl)));obtain⟨j,e,q1,q2,q⟩:=q1;subst e;cases r1 with
 |cons r rr =>
  cases rr with
  |cons r' rr =>
   cases rr with
   |cons r'' rr =>
    cases rr;obtain⟨t,rfl⟩:=r;obtain⟨t',rfl⟩:=r';obtain⟨t'',rfl⟩:=r'';refine call_range_3 (by decide) ?_;refine wpAny_pyIter_range (IsRange.new ..) (aaM q1 q2) ?_;generalize hh:s1.heap.push {cls:=.type "range", data:=.fields #[.int 0 t,.int j t',.int 3 t'']}=hp;have I2:Inv X pins σ H1 {s1 with heap:=hp,toks:=s1.toks}:=by rw[<- hh];exact I1.kept λb o e=>aU _ e
    refine⟨hp.objs.size,[hp.objs.size],_,_,H1,rfl,I2.kept (t':=s1.toks) λb o e=>aU _ e,abj _ ((j+2) / 3).toNat,?_,λb hb=>?_,q⟩
    ·have e1:(0:Int)+((0:Nat):Int)*3=0:=by simp
     show IsRangeIter _ _ (0+((0:Nat):Int)*3) (((((j+2) / 3).toNat:Nat):Int) - ((0:Nat):Int)) 3;rw[e1,<- PL q1];simp only[Int.natCast_zero,Int.sub_zero];exact bJ _ rfl
    ·have e:b=hp.objs.size:=by simpa using hb
     subst e;exact I2.kj (aY _) (I2.hok.fresh (aY _))
end
theorem Ur{n:Nat}{g:TG}{tb:TS}{D:Ends}{σ:St}{H:Hp}(Pv:Nat->St->Hp->Prop)(h0:Pv 0 σ H)
  (hs:∀i σ H,i<n->Pv i σ H->g (.int (3*(i:Int))) σ H λσ2 H2=>tb {D with nx:=Pv (i+1),ct:=Pv (i+1),bk:=D.nx} σ2 H2) (hd:∀σ H,Pv n σ H->D.nx σ H) :
  ∃W:Nat->Nat->St->Hp->Prop,(∃m,W 0 m σ H)/\∀i m σ H,W i m σ H ->
   ((oS n).stop i H/\D.nx σ H)\/((oS n).go i H/\∃N:St->Hp->Prop,(∀σ' H',N σ' H'->∃m',m'<m/\W (i+1) m' σ' H')/\∀x H',(oS n).jW i H x H'->g x σ H' λσ2 H2=>tb {D with nx:=N,ct:=N,bk:=D.nx} σ2 H2):=by
 refine⟨λi m σ H=>m=n - i/\i<=n/\Pv i σ H,⟨n,by simp,cW _,h0⟩,?_⟩;rintro i m σ H ⟨rfl,hi,p⟩
 by_cases hlt:i<n
 ·refine .inr ⟨hlt,Pv (i+1),λσ' H' p'=>⟨n - (i+1),by omega,rfl,hlt,p'⟩,λx H' y=>?_⟩
  obtain⟨rfl,rfl⟩:=y;exact hs i σ _ hlt p
 ·have e:i=n:=by omega
  subst e;exact .inl ⟨aY _,hd σ H p⟩
end L2
namespace My
open PySem PySem.Spec PyProof.Rows L2
theorem Tr(xs:List V)(k:Nat):fX xs (some (k:Int)) none=xs.drop k:=by
 unfold fX;rw[HT.NT,HT.vf]
 by_cases h:k<=xs.length
 ·rw[xD h,o9 (by simp)]
 ·rw[Gs (by omega),List.drop_length,List.drop_of_length_le (by omega)];simp
noncomputable def x9(n:Nat)(R:Nat->Nat->Bool):List (Nat × Nat):=bw n R++(List.range n).map λi=>(i,i)
theorem Hq{M:List Nat}:∀q∈x9 M.length (Ev.a8 M),q.1<M.length/\q.2<M.length/\Ev.a8 M q.1 q.2=true:=λq hq=>by
 rcases iK.mp hq with hq|hq
 ·obtain⟨h1,h2,_,h4⟩:=iZ.mp hq
  exact⟨h1,h2,h4⟩
 ·obtain⟨i,hi,rfl⟩:=cu.mp hq
  have:=cM.mp hi;exact⟨this,this,Ev.lT _ _⟩
section
variable {P:Program} {w:World} {K:W.Frag} {mg:Str->Option Value} {base:Heap} {f:Addr} {fd:FuncData}
abbrev kN:Stmt:=top 66
theorem Oq:aZ ["_law_script","_law_k","_law_draws_here","_law_ups_here","_law_others","_law_one","_law_other","_law_some","_law_rest","_law_both","_law_a","_law_b","_law_c","_law_d"] ["_law_script"] (aE kN):=⟨rfl,rfl,rfl,by decide +kernel,rfl,by decide +kernel,by decide +kernel⟩
theorem YK {C Pt Ps Pu:Addr} (F:aV K "law" "law" kN f fd) (T:Txt mg) (TC:cD K C) (pU:ao P w K mg base "_law_cell_at" ["_law_script","_law_k"] 1 (Dz K)) (m_:ao P w K mg base "_law_draws" ["_law_cell","_law_many"] 2 vR) (sI:ao P w K mg base "_law_drawn" ["_law_cell","_law_most"] 4 DP)
  (sJ:ao P w K mg base "_law_handed" ["_law_ups_here","_law_numbers"] 2 (DS K)) (lE:ao P w K mg base "_law_pairs" ["_law_ups_here"] 1 (wy K)) (nj:ao P w K mg base "side_by_side" ["one","other"] 8 (wC C Pu)) (eZ:ao P w K mg base "evenness" ["order"] 6 (rE C Pt))
  (sH:ao P w K mg base "_law_alone_well" ["_law_order","_law_a","_law_b"] 9 (Dx C Pt Ps)) (yt:ao P w K mg base "_law_climbs_well" ["_law_one","_law_other","_law_both"] 7 (DN C Pt)) (yu:ao P w K mg base "_law_cuts_well" ["_law_one","_law_other","_law_both","_law_ends"] 9 (DK K C Ps Pu))
  (ie:k6 P w K mg base C "Order" ["self","count","pairs"] 5 (oC K C)):aN P w K mg base aS 10 f fd ["_law_script"] (vZ K Pt Ps Pu):=by
 refine F.ok Oq (λvs H Q E h=>?_) (λcdv A outer s H vs Q E hr h=>?_)
 ·obtain⟨a,ns,rfl,_⟩:=h
  rfl
 ·obtain⟨a,ns,rfl,hS,hns,hP,hPs,qp,kk⟩:=h
  have nd:=Oq.nd;refine⟨_,(@au _ _ _ _ _ (cn b_ rfl (ZG rfl T.range (ae ak (ae (cA (Ta rfl) rfl T.min boot_min (ae (cA (S_ rfl) rfl T.max boot_max (ae (cA (dw (K:=K) rfl) rfl T.len dF (ae (pv 0) ag)) (ae ak ag))) (ae ak ag))) (ae ak ag (aF nofun)) (aF nofun)) (aF nofun))) (aW (i:=1) nd rfl (Or.inl rfl))
   (@au _ _ _ _ _ (aQ (i:=2) nd rfl (Or.inl rfl) (aH m_ hr rfl (ae (aH pU hr rfl (ae (pv 0) (ae (aB cY (pv 1) ak) ag))) (ae ak ag))))
   (@au _ _ _ _ _ (aQ (i:=3) nd rfl (Or.inl rfl) (aH sI hr rfl (ae (aH pU hr rfl (ae (pv 0) (ae (pv 1) ag))) (ae (ay (bE (K:=K) rfl) (dY (Mp [24,12,8,6,4] rfl)) (aB cR (ay (bE (K:=K) rfl) (pv 2) ak (λ_ _=>rfl)) ak) (λ_ _=>rfl)) ag))))
   (@au _ _ _ _ _ (aQ (i:=4) nd rfl (Or.inl rfl) (aH sI hr rfl (ae (aH pU hr rfl (ae (pv 0) (ae (aB cY (pv 1) ak) ag))) (ae (aB qM ak (cA (dw (K:=K) rfl) rfl T.len dF (ae (pv 3) ag))) ag))))
   (@au _ _ _ _ _ (aQ (i:=5) nd rfl (Or.inl rfl) (uT ie hr rfl (ae (cA (dw (K:=K) rfl) rfl T.len dF (ae (pv 3) ag)) (ae (aH sJ hr rfl (ae (pv 3) (ae (qR (rD (K:=K) rfl) (pv 2) (mj ak) BW) ag))) ag))))
   (@au _ _ _ _ _ (aQ (i:=6) nd rfl (Or.inl rfl) (uT ie hr rfl (ae (cA (dw (K:=K) rfl) rfl T.len dF (ae (pv 4) ag)) (ae (aH sJ hr rfl (ae (pv 4) (ae (qR (rD (K:=K) rfl) (pv 2) (mj ak) BW) ag))) ag))))
   (@au _ _ _ _ _ (aQ (i:=7) nd rfl (Or.inl rfl) (aB jK (aH lE hr rfl (ae (pv 3) ag)) (cS (own:=["_law_thing"]) (fr:=[]) rfl (bX (aE kN) ["_law_script","_law_k","_law_draws_here","_law_ups_here","_law_others","_law_one","_law_other","_law_some","_law_rest","_law_both","_law_a","_law_b","_law_c","_law_d"] rfl rfl (by decide +kernel)) (bY rfl T.range (ae (cA (dw (K:=K) rfl) rfl T.len dF (ae (pv 3) ag)) ag)) (λ_ _ _ _=>⟨(aW (i:=0) (by decide +kernel:(["_law_thing"]:List Str).Nodup) rfl (Or.inl rfl)),da,(eT (ae (pv 0) (ae (pv 0) ag)))⟩))))
   (@au _ _ _ _ _ (aQ (i:=8) nd rfl (Or.inl rfl) (aB jK (aH lE hr rfl (ae (pv 4) ag)) (cS (own:=["_law_thing"]) (fr:=[]) rfl (bX (aE kN) ["_law_script","_law_k","_law_draws_here","_law_ups_here","_law_others","_law_one","_law_other","_law_some","_law_rest","_law_both","_law_a","_law_b","_law_c","_law_d"] rfl rfl (by decide +kernel)) (bY rfl T.range (ae (cA (dw (K:=K) rfl) rfl T.len dF (ae (pv 4) ag)) ag)) (λ_ _ _ _=>⟨(aW (i:=0) (by decide +kernel:(["_law_thing"]:List Str).Nodup) rfl (Or.inl rfl)),da,(eT (ae (pv 0) (ae (pv 0) ag)))⟩))))
   (@au _ _ _ _ _ (kI (ay (bE (K:=K) rfl) (pv 7) (aB cR (ay (bE (K:=K) rfl) (pv 2) ak (λ_ _=>rfl)) (cA (dw (K:=K) rfl) rfl T.len dF (ae (pv 7) ag))) (λ_ _=>rfl)) (qT (K:=K) rfl rfl (fN (aW (i:=10) nd rfl (Or.inl rfl)) (fN (aW (i:=11) nd rfl (Or.inl rfl)) ow))))
   (@au _ _ _ _ _ (kI (ay (bE (K:=K) rfl) (pv 8) (aB cR (ay (bE (K:=K) rfl) (pv 2) ak (λ_ _=>rfl)) (cA (dw (K:=K) rfl) rfl T.len dF (ae (pv 8) ag))) (λ_ _=>rfl)) (qT (K:=K) rfl rfl (fN (aW (i:=12) nd rfl (Or.inl rfl)) (fN (aW (i:=13) nd rfl (Or.inl rfl)) ow))))
   (@au _ _ _ _ _ (aQ (i:=9) nd rfl (Or.inl rfl) (aH nj hr rfl (ae (pv 5) (ae (pv 6) ag))))
   (@au _ _ _ _ _ (bU (bV ja (ay (aO (K:=K) rfl) (aH eZ hr rfl (ae (pv 9) ag)) ak (λ_ _=>rfl)) (mh (ay (aO (K:=K) rfl) (aH eZ hr rfl (ae (pv 5) ag)) ak (λ_ _=>rfl)) (jO (ay (aO (K:=K) rfl) (aH eZ hr rfl (ae (pv 6) ag)) ak (λ_ _=>rfl)))) (bN _)) (ax (aX eS)) cq)
   (@au _ _ _ _ _ (bU (PW.pt (mv (iB (dM (aH sH hr rfl (ae (pv 5) (ae (pv 10) (ae (pv 11) ag (aF nofun)) (aF nofun)) (aF nofun))))) (mw (iB (dM (aH sH hr rfl (ae (pv 6) (ae (pv 12) (ae (pv 13) ag (aF nofun)) (aF nofun)) (aF nofun)))))))) (ax (aX eS)) cq)
   (ax (bU (PW.pt (mv (iB (dM (aH yt hr rfl (ae (pv 5) (ae (pv 6) (ae (pv 9) ag (aF nofun)) (aF nofun)) (aF nofun))))) (mw (iB (dM (aH yu hr rfl (ae (pv 5) (ae (pv 6) (ae (pv 9) (ae (eT (ae (pv 10) (ae (pv 11) (ae (pv 12) (ae (pv 13) ag (aF nofun)) (aF nofun)) (aF nofun)) (aF nofun))) ag (aF nofun)) (aF nofun)) (aF nofun)) (aF nofun)))))))) (ax (aX eS)) cq)))))))))))))))
   (ax (aX eS))),?_⟩
  obtain⟨jm,T5,hj0,hj1⟩:∃j:Int,(if(12:Int)<(if(1:Int) > (((ns.map V.int).length:Nat):Int)then 1 else(((ns.map V.int).length:Nat):Int))then 12 else(if(1:Int) > (((ns.map V.int).length:Nat):Int)then 1 else(((ns.map V.int).length:Nat):Int)))=j/\0<=j/\j<=1000:=by
   refine⟨_,rfl,?_,?_⟩<;>split<;>(try split)<;>omega
  refine⟨_,rfl,a,_,rfl,.inl hS,_,_,rfl,_,_,rfl,jm,by rw[T5],hj0,hj1,Ur (n:=((jm+2) / 3).toNat) (λi σ H6=>∃(v1 v2 v3 v4 v5 v6 v7 v8 v9 va vb vc vd:Option V),σ = [some (.ref a),v1,v2,v3,v4,v5,v6,v7,v8,v9,va,vb,vc,vd]/\Same H H6) ⟨none,none,none,none,none,none,none,none,none,none,none,none,none,rfl,Same.refl _⟩ ?_ ?_⟩
  ·rintro i σ H1 hi ⟨v1,v2,v3,v4,v5,v6,v7,v8,v9,va,vb,vc,vd,rfl,s1⟩
   have ei:(3:Int)*(i:Int)=((3*i:Nat):Int):=by push_cast;rfl
   dsimp only[bj];rw[ei];show bG _ _ _ [some (.ref a),some (.int ((3*i:Nat):Int)),v2,v3,v4,v5,v6,v7,v8,v9,va,vb,vc,vd] _;refine⟨_,rfl,_,rfl,_,_,rfl,rfl,a,3*i+2,ns,rfl,s1.seq hS,λz2 H2 s2=>⟨z2,16,rfl,by decide,λd0 ds H3 s3 abU hd0 hdl hds=>?_⟩⟩;have dm:=s1.trans (s2.trans s3);dsimp only[bj];show bG _ _ _ [some (.ref a),some (.int ((3*i:Nat):Int)),some (.ref d0),v3,v4,v5,v6,v7,v8,v9,va,vb,vc,vd] _;obtain⟨r5,Ar,Ud⟩:=f6 (ds.getD 0 0) 5 (by decide);obtain⟨most,hm0,hm1,hm2⟩:∃most:Nat,(([24,12,8,6,4]:List Int).map V.int)[r5]?=some (.int (most:Int))/\1<=most/\most<=24:=by
    match r5,Ar with
    |0,_=>exact⟨24,rfl,by decide,by decide⟩
    |1,_=>exact⟨12,rfl,by decide,by decide⟩
    |2,_=>exact⟨8,rfl,by decide,by decide⟩
    |3,_=>exact⟨6,rfl,by decide,by decide⟩
    |4,_=>exact⟨4,rfl,by decide,by decide⟩
   refine⟨_,rfl,_,rfl,a,3*i,ns,rfl,dm.seq hS,λz4 H4 s4=>⟨by show 5<=sizeLine;decide,λq5 Wd=>?_⟩⟩;have t5:=s4.trans (Same.put Wd (o:=.lst (([24,12,8,6,4]:List Int).map V.int)));refine⟨_,rfl,d0,_,0,_,rfl,rfl,ai.of (t5 _ _ hd0),aM (eK (i:=0) (by omega)),_,_,rfl,rfl,(by show(0:Int)<5;decide),q5,_,_,_,rfl,rfl,ai.of aA,by rw[show ds.getD 0 0 % 5=(r5:Int)from Ud];exact aM hm0,?_⟩;refine⟨z4,most,rfl,hm1,hm2,λu us M1 H5 s5 hu0 hu tY abS hU=>?_⟩;have NQ:=t5.trans s5;have eA:=dm.trans NQ;have G1:=Jl tY;have hp1:=tY.pos;have lO:M1.length<=24:=by omega
   have VB:=NQ _ _ hd0;dsimp only[bj];show bG _ _ _ [some (.ref a),some (.int ((3*i:Nat):Int)),some (.ref d0),some (.ref u),v4,v5,v6,v7,v8,v9,va,vb,vc,vd] _;have yM:(24:Int) / ((((us.map nV).length:Nat)):Int)=((24 / M1.length:Nat):Int):=by
    rw[aG,hU.len];exact(FG 24 M1.length).symm
   have hq1:1<=24 / M1.length:=Nat.div_pos lO hp1;have hq2:24 / M1.length<=24:=Nat.div_le_self _ _;refine⟨_,rfl,_,rfl,_,_,rfl,rfl,a,3*i+1,ns,rfl,eA.seq hS,λz6 H6 s6=>⟨_,rfl,u,_,rfl,.inl (ai.of (s6 _ _ hu)),_,_,rfl,rfl,⟨by rw[aG,hU.len];omega,by rw[aG,hU.len];omega⟩,z6,24 / M1.length,by dsimp only;rw[yM];rfl,hq1,hq2,λv ws M2 H7 s7 hv0 hv tZ Vj hV=>?_⟩⟩;have Cy:=s6.trans s7;have eB:=eA.trans Cy;have G2:=Jl tZ;have hp2:=tZ.pos;have nX:M2.length<=24:=by omega
   have hnm:M1.length*M2.length<=24:=by
    have h1:M1.length*M2.length<=M1.length*(24 / M1.length):=Nat.mul_le_mul_left _ Vj;have h2:=Nat.mul_div_le 24 M1.length;omega
   have Av:=Cy _ _ hu;have Jx:=Cy _ _ VB;dsimp only[bj];show bG _ _ _ [some (.ref a),some (.int ((3*i:Nat):Int)),some (.ref d0),some (.ref u),some (.ref v),v5,v6,v7,v8,v9,va,vb,vc,vd] _;have Iz:fX (ds.map V.int) (some 4) none=(ds.drop 4).map V.int:=by rw[xk];exact Tr _ 4
   have iW:(ds.drop 4).length=12:=by rw[o6];omega
   refine⟨_,rfl,u,_,rfl,.inl (ai.of Av),_,rfl,_,rfl,_,rfl,d0,_,rfl,ai.of Jx,λq8 Wf=>?_⟩;rw[Iz];have t8:=Same.put Wf (o:=.lst ((ds.drop 4).map V.int));refine⟨u,q8,M1.length,Ev.a8 M1,us,ds.drop 4,rfl,ai.of (t8 _ _ Av),ai.of aA,hU,hp1,lO,by omega,by omega,Ev.lT _ _,λL1 w1 ps1 wX Ci abQ hL1 ab1 Wa z9=>λx dx hx hdx hne=>?_⟩;have Cj:Same wX (upd (upd wX dx (.own x)) x (.ins C dx [])):=λb o e=>by
    rw[aJ (bO e hx),aJ (bO e hdx)];exact e
   refine⟨x,dx,M1.length,L1,ps1,by rw[aG,hU.len];rfl,aA,⟨w1,ai.of (Cj _ _ hL1),c9.same Cj Wa⟩,hp1,lO,z9.lt,λR2 hC=>G1.congr (sQ tY z9 hC),λFw R2 fr hC hO=>⟨rfl,?_⟩⟩;have aav:Same wX Fw:=λb o e=>fr b o (Cj _ _ e) (bO e hx);have ve:=t8.trans (Ci.trans aav);have zY:cJ C Fw x M1.length (Ev.a8 M1):=⟨R2,hO,sQ tY z9 hC⟩;have Wx:=ve _ _ Av;have Aw:=ve _ _ hv;have Jv:=ve _ _ Jx;have aaq:=eB.trans ve;dsimp only[bj];show bG _ _ _ [some (.ref a),some (.int ((3*i:Nat):Int)),some (.ref d0),some (.ref u),some (.ref v),some (.ref x),v6,v7,v8,v9,va,vb,vc,vd] _;refine⟨_,rfl,v,_,rfl,.inl (ai.of Aw),_,rfl,_,rfl,_,rfl,d0,_,rfl,ai.of Jv,λq9 Wg=>?_⟩;rw[Iz];have t9:=Same.put Wg (o:=.lst ((ds.drop 4).map V.int));refine⟨v,q9,M2.length,Ev.a8 M2,ws,ds.drop 4,rfl,ai.of (t9 _ _ Aw),ai.of aA,hV,hp2,nX,by omega,by omega,Ev.lT _ _,λL2 w2 ps2 wY s12 abR hL2 Wz jE z_=>λy dy hy VD abX=>?_⟩;have Ck:Same wY (upd (upd wY dy (.own y)) y (.ins C dy [])):=λb o e=>by
    rw[aJ (bO e hy),aJ (bO e VD)];exact e
   refine⟨y,dy,M2.length,L2,ps2,by rw[aG,hV.len];rfl,aA,⟨w2,ai.of (Ck _ _ hL2),c9.same Ck jE⟩,hp2,nX,z_.lt,λR2 hC=>G2.congr (sQ tZ z_ hC),λwZ RN Ut U4 dA=>⟨rfl,?_⟩⟩;have aaw:Same wY wZ:=λb o e=>Ut b o (Ck _ _ e) (bO e hy);have rj:=t9.trans (s12.trans aaw);have jD:cJ C wZ y M2.length (Ev.a8 M2):=⟨RN,dA,sQ tZ z_ U4⟩;have Vp:=zY.same rj;have J9:=rj _ _ Wx;have Wy:=rj _ _ Aw;have Vz:=rj _ _ Jv;have aar:=aaq.trans rj;dsimp only[bj];show bG _ _ _ [some (.ref a),some (.int ((3*i:Nat):Int)),some (.ref d0),some (.ref u),some (.ref v),some (.ref x),some (.ref y),v7,v8,v9,va,vb,vc,vd] _;have en:=hU.len';have b1:-(2 ^ 62)<=((us.map nV).length:Int)/\((us.map nV).length:Int)<2 ^ 62:=by rw[aG,hU.len];exact a_ (by omega)
   refine⟨_,rfl,u,M1.length,Ev.a8 M1,us,rfl,ai.of J9,hU,lO,λqB w14 H14 NC abV VN abZ V7=>?_⟩;refine⟨_,rfl,u,_,rfl,.inl (ai.of (NC _ _ J9)),_,rfl,b1.1,b1.2,λD hD=>?_⟩;refine kh (λi v H=>∃t,v = .ref t/\t≠D/\H t=some (.tup [.int (i:Int),.int (i:Int)])) src_range hD (by rw[en];exact cH lO) (λi v H H' s ⟨b,e,hb,q⟩=>⟨b,e,hb,s _ _ hb q⟩) (λi H8 Kt hi hs hy hk=>?_) (λQS ys Cp VP Al=>?_)
   ·obtain⟨zs,hz⟩:=hy
    refine⟨_,rfl,_,rfl,by show 2<=sizeLine;decide,λt ht=>?_⟩;refine hk _ _ (Same.put ht) ⟨t,rfl,(λe=>by rw[e,hz]at ht;cases ht),?_⟩;rw[aA,dg]
   rw[en]at Al;have hyl:=cK Al;rw[dh]at hyl;refine⟨qB,D,w14,ys,rfl,rfl,Cp _ _ VN,VP,by have:=@d4 100000 (by omega);omega,λjb V8=>?_⟩;have u5:=Same.put V8 (o:=.lst (w14++ys));generalize Vd:upd QS jb (.lst (w14++ys))=rP at u5 ⊢;have JT:rP jb=some (.lst (w14++ys)):=by rw[<- Vd];exact aA
   have NB:Same wZ rP:=NC.trans (Cp.trans u5);have Jt:Paired (ck rP) (x9 M1.length (Ev.a8 M1)) (w14++ys):=
    iA (c9.same (Cp.trans u5) V7) (jN (Paired.dB Al λi v ⟨t,e,_,q⟩=>⟨t,e,u5 _ _ q⟩))
   have JN:0<(w14++ys).length:=by rw[cU];omega
   generalize w14++ys=ZZ at JT Jt JN;have Ka:=NB _ _ Wy;dsimp only[bj];show bG _ _ _ [some (.ref a),some (.int ((3*i:Nat):Int)),some (.ref d0),some (.ref u),some (.ref v),some (.ref x),some (.ref y),some (.ref jb),v8,v9,va,vb,vc,vd] _;have tm:=hV.len';have b2:-(2 ^ 62)<=((ws.map nV).length:Int)/\((ws.map nV).length:Int)<2 ^ 62:=by rw[aG,hV.len];exact a_ (by omega)
   refine⟨_,rfl,v,M2.length,Ev.a8 M2,ws,rfl,ai.of Ka,hV,nX,λXp w17 H17 NK abW VR ab0 V9=>?_⟩;refine⟨_,rfl,v,_,rfl,.inl (ai.of (NK _ _ Ka)),_,rfl,b2.1,b2.2,λD2 hD2=>?_⟩;refine kh (λi v H=>∃t,v = .ref t/\t≠D2/\H t=some (.tup [.int (i:Int),.int (i:Int)])) src_range hD2 (by rw[tm];exact cH nX) (λi v H H' s ⟨b,e,hb,q⟩=>⟨b,e,hb,s _ _ hb q⟩) (λi H8 Kt hi hs hy hk=>?_) (λQT zs Cr V0 Am=>?_)
   ·obtain⟨zs,hz⟩:=hy
    refine⟨_,rfl,_,rfl,by show 2<=sizeLine;decide,λt ht=>?_⟩;refine hk _ _ (Same.put ht) ⟨t,rfl,(λe=>by rw[e,hz]at ht;cases ht),?_⟩;rw[aA,dg]
   rw[tm]at Am;have Ke:=cK Am;rw[dh]at Ke;refine⟨Xp,D2,w17,zs,rfl,rfl,Cr _ _ VR,V0,by have:=@d4 100000 (by omega);omega,λjM V_=>?_⟩;have u6:=Same.put V_ (o:=.lst (w17++zs));generalize Ve:upd QT jM (.lst (w17++zs))=w4 at u6 ⊢;have Ao:w4 jM=some (.lst (w17++zs)):=by rw[<- Ve];exact aA
   have Cq:Same rP w4:=NK.trans (Cr.trans u6);have hall2:Paired (ck w4) (x9 M2.length (Ev.a8 M2)) (w17++zs):=
    iA (c9.same (Cr.trans u6) V9) (jN (Paired.dB Am λi v ⟨t,e,_,q⟩=>⟨t,e,u6 _ _ q⟩))
   have hlen2:0<(w17++zs).length:=by rw[cU];omega
   generalize w17++zs=M8 at Ao hall2 hlen2;have u3:=NB.trans Cq;have Nx:=aar.trans u3;have Jw:=u3 _ _ Vz;have JV:=Cq _ _ JT;have Vv:=c9.same Cq Jt;have Jo:=Vp.same u3;have Jp:=jD.same u3;dsimp only[bj];show bG _ _ _ [some (.ref a),some (.int ((3*i:Nat):Int)),some (.ref d0),some (.ref u),some (.ref v),some (.ref x),some (.ref y),some (.ref jb),some (.ref jM),v9,va,vb,vc,vd] _;obtain⟨r1,hr1,Ub⟩:=f6 (ds.getD 1 0) ZZ.length JN;obtain⟨q1,Wb,t1,Ue,Wt⟩:=eR Vv (aI hr1);obtain⟨ha,hb,hab⟩:=Hq q1 (cV Wb);refine⟨_,rfl,_,rfl,d0,_,1,_,rfl,rfl,ai.of Jw,aM (eK (i:=1) (by omega)),_,rfl,jb,_,rfl,.inl (ai.of JV),_,_,rfl,rfl,by omega,jb,_,_,_,rfl,rfl,ai.of JV,by rw[Ub];exact aM (aI hr1),?_⟩;refine⟨t1,_,Ue,av.of Wt,rfl,_,_,rfl,_,_,rfl,rfl,?_⟩;dsimp only[bj];show bG _ _ _ [some (.ref a),some (.int ((3*i:Nat):Int)),some (.ref d0),some (.ref u),some (.ref v),some (.ref x),some (.ref y),some (.ref jb),some (.ref jM),v9,some (.int (q1.1:Int)),some (.int (q1.2:Int)),vc,vd] _;obtain⟨r2,hr2,Uc⟩:=f6 (ds.getD 2 0) M8.length hlen2;obtain⟨q2,Wc,t2,Ug,Wu⟩:=eR hall2 (aI hr2);obtain⟨hc,hd,hcd⟩:=Hq q2 (cV Wc);refine⟨_,rfl,_,rfl,d0,_,2,_,rfl,rfl,ai.of Jw,aM (eK (i:=2) (by omega)),_,rfl,jM,_,rfl,.inl (ai.of Ao),_,_,rfl,rfl,by omega,jM,_,_,_,rfl,rfl,ai.of Ao,by rw[Uc];exact aM (aI hr2),?_⟩;refine⟨t2,_,Ug,av.of Wu,rfl,_,_,rfl,_,_,rfl,rfl,?_⟩;dsimp only[bj];show bG _ _ _ [some (.ref a),some (.int ((3*i:Nat):Int)),some (.ref d0),some (.ref u),some (.ref v),some (.ref x),some (.ref y),some (.ref jb),some (.ref jM),v9,some (.int (q1.1:Int)),some (.int (q1.2:Int)),some (.int (q2.1:Int)),some (.int (q2.2:Int))] _;refine⟨_,rfl,_,rfl,x,y,M1.length,M2.length,Ev.a8 M1,Ev.a8 M2,rfl,Jo,Jp,G1,G2,hp1,hp2,hnm,Nx _ _ qp,λzz QV Ct lL=>?_⟩;have kL:=Nx.trans Ct;have t7:=Jo.same Ct;have t_:=Jp.same Ct;dsimp only[bj];show bG _ _ _ [some (.ref a),some (.int ((3*i:Nat):Int)),some (.ref d0),some (.ref u),some (.ref v),some (.ref x),some (.ref y),some (.ref jb),some (.ref jM),some (.ref zz),some (.int (q1.1:Int)),some (.int (q1.2:Int)),some (.int (q2.1:Int)),some (.int (q2.2:Int))] _;obtain⟨Rx,U0,ub⟩:=id t7;obtain⟨Ry,U1,lM⟩:=id t_;obtain⟨Rz,U3,uc⟩:=id lL;have Gx:=G1.congr ub;have Gy:=G2.congr lM;have GP:=G1.prod G2;have Gz:=GP.congr uc;refine oB (λσ H'=>σ = [some (.ref a),some (.int ((3*i:Nat):Int)),some (.ref d0),some (.ref u),some (.ref v),some (.ref x),some (.ref y),some (.ref jb),some (.ref jM),some (.ref zz),some (.int (q1.1:Int)),some (.int (q1.2:Int)),some (.int (q2.1:Int)),some (.int (q2.2:Int))]/\Same QV H') (λD' hD' next=>?_) ?_
   ·refine⟨_,rfl,zz,_,Rz,rfl,U3,Gz,hnm,kL _ _ hP,jx λg3 tz vz H21 Cv U6 Ww _=>⟨tz,_,0,_,rfl,rfl,av.of Ww,aM (j:=0) rfl,?_⟩⟩
    have aas:=kL.trans Cv;refine⟨_,rfl,x,_,Rx,rfl,U0.bx Cv,Gx,lO,aas _ _ hP,jx λg1 tx vx H22 s22 tV htx _=>⟨tx,_,0,_,rfl,rfl,av.of htx,aM (j:=0) rfl,_,rfl,?_⟩⟩;have u9:=Cv.trans s22;have aat:=kL.trans u9;have key:∀g2,cL M2.length Ry g2->g3=(g1&&g2):=λg2 jC=>by
     refine U6.uniq (cL.cg uc ?_);exact cL.prod G1 G2 hp1 hp2 (tV.cg λa b ha hb=>(ub a b ha hb).symm) (jC.cg λa b ha hb=>(lM a b ha hb).symm)
    cases g1 with
    |false =>
     obtain⟨g2,jC⟩:=cL.ex M2.length Ry;have e3:=key g2 jC;rw[gX]at e3;subst e3;exact cz ⟨rfl,_,rfl,cz (next _ _ ⟨rfl,u9⟩)⟩
    |true =>
     refine gQ ⟨_,rfl,y,_,Ry,rfl,U1.bx u9,Gy,nX,aat _ _ hP,jx λg2 ty vy QW oA jC hty _=>⟨ty,_,0,_,rfl,rfl,av.of hty,aM (j:=0) rfl,?_⟩⟩;have e3:=key g2 jC;rw[dU]at e3;subst e3;refine⟨by cases g3<;>rfl,_,rfl,?_⟩;rw[eh rfl];exact cz (next _ _ ⟨rfl,u9.trans oA⟩)
   rintro σ QW ⟨rfl,oA⟩;have Ny:=kL.trans oA;refine⟨_,rfl,_,rfl,_,rfl,x,M1.length,q1.1,q1.2,Ev.a8 M1,rfl,t7.same oA,G1,lO,ha,hb,hab,Ny _ _ hP,Ny _ _ hPs,λH24 Cw=>⟨_,rfl,cz ?_⟩⟩;have Cu:=oA.trans Cw;have Nz:=kL.trans Cu;refine⟨_,rfl,_,rfl,_,rfl,y,M2.length,q2.1,q2.2,Ev.a8 M2,rfl,t_.same Cu,G2,nX,hc,hd,hcd,Nz _ _ hP,Nz _ _ hPs,λH25 s25=>⟨_,rfl,cz ?_⟩⟩;have rn:=Cu.trans s25;have aau:=kL.trans rn;refine⟨_,rfl,_,rfl,_,rfl,x,y,zz,M1.length,M2.length,Ev.a8 M1,Ev.a8 M2,rfl,t7.same rn,t_.same rn,lL.same rn,G1,G2,hp1,hp2,hnm,aau _ _ hP,λH26 s26=>⟨_,rfl,cz ?_⟩⟩;have NP:=rn.trans s26;have ab2:=kL.trans NP;refine⟨_,rfl,_,rfl,_,rfl,_,rfl,_,rfl,_,rfl,_,rfl,by show 4<=sizeLine;decide,λte Wo=>?_⟩;have t27:=Same.put Wo (o:=.tup [V.int (q1.1:Int),.int (q1.2:Int),.int (q2.1:Int),.int (q2.2:Int)]);have u_:=NP.trans t27;have Cb:=kL.trans u_;refine⟨x,y,zz,te,M1.length,M2.length,q1.1,q1.2,q2.1,q2.2,Ev.a8 M1,Ev.a8 M2,rfl,av.of aA,t7.same u_,t_.same u_,lL.same u_,G1,G2,hp1,hp2,hnm,ha,hb,hc,hd,hab,hcd,Cb _ _ hPs,Cb _ _ qp,λH28 s28=>⟨_,rfl,cz ?_⟩⟩;exact⟨_,_,_,_,_,_,_,_,_,_,_,_,_,rfl,Cb.trans s28⟩
  ·rintro σ H6 ⟨v1,v2,v3,v4,v5,v6,v7,v8,v9,va,vb,vc,vd,rfl,s6⟩
   exact kk _ (s6 _ _ hP) (s6 _ _ hPs) (s6 _ _ qp)
end
end My
noncomputable def PySem.W.Fast.tw13722512887590855228 : PySem.Program := PySem.Challenge.pw_evenclimb_k57_whole_orders_put_together
theorem PySem.W.Fast.te13722512887590855228 : PySem.Challenge.pw_evenclimb_k57_whole_orders_put_together = PySem.W.Fast.tw13722512887590855228 := rfl
structure PySem.W.Fast:Prop where (te15504513860843207080 tw18416243003467547024 tw7361547281746959602 tw16655927576226851170 tw9427603123919005173 tw17180916335563168579 tw9690887328429966634 tw5513242713931358364 tw17179751328679573939 tw10067142982838473651 tw13745944113456075570 tw12405581774127333662 tw17845735422262714135 tw3571050693896250919 tw14435076525020918993 tw15050318174715148333 tw14597015413205133945 tw1752598173701482220 tw628993895788279111 tw13823530260932178712 tw12953219073514952565 tw18183227362408636656 tw13719442030383723686 tw11447609023598044463 tw11814012368416565411 tw7283946759679767265 tw4604662801777803298 tw13768080189785936699 tw1660420740407761666 tw10333104743583678353 tw2970659071386529387 tw12511825446321788887 tw13406873933711869796 tw2104104987537652463 tw3421218736218402637 tw11120775666652790611 tw2431474116585983560 tw4927142670001640930 tw13807882845304540200 tw977755349451715643 tw118500063969986982 tw2163648845523078210 tw1255104258348212157 tw9017617470832673592 tw6371301768578517702 tw242411786553344077 tw17182925035397767493 tw3957110403731797016 tw4190909123250888435 tw6403788399494891431 tw13387646802869051376 tw549727859378026019 tw1622934224959263514 tw1598804101571621500 tw18142045987584228104 tw910359765239871788 tw16391634485839299397 tw13392280574658174868 tw10084830911734904100 tw12453234579459792409 tw2097001887890835052 tw6934679212339980680 tw646265711392196885 tw4968809163533230045 tw10665440920801520142 tw11882863043499468222 tw13816681539137809917 tw11292892417913267509 tw7885853244562285053 tw10492802844217442111 tw16219551235205666966 tw13004427951702417860 tw8458624390598401607 tw435908082339516369 tw5111036371800333224 tw5557037997933436497 tw6809596774341964006 tw10878452242940766673 tw5721217732953891951 tw14303741438207781724 tw5239662750670706061 tw16762719192932408780 tw17932026091116624573 tw5846762985928681917 tw14517642025271279496 tw7624847489794831370 tw3198164837488659005 tw1151712452514485542 tw11933098252603334462 tw1269693921069557147 tw9941325388237386363 tw8886283806716233293 tw15652531838950536284 tw9543081225988108360 tw9967111728862416827 tw16162287798384414853 tw4339317439132341614 tw8005208472784629662 tw280610631779523915 tw15468526627669690689 tw13647926518267555121 tw17218723457168377940 tw15949208601723142303 tw10386833496906314738 tw15975207874037649784 tw15209200226153513935 tw6316893547681700619 tw286155135296400022 tw6801995100262553803 tw3487716035153890940 tw9002795906617807456 tw7536285105577659168 tw4322917727591591891 tw3239707566378028625 tw5790400885496450014 tw15593632754282720597 tw12695912183355738725 tw4701596755319984666 tw4118846163231640394 tw2915770623717336060 tw6757787733611552218 tw12721874923989164240 tw934654941070439116 tw14896974490879594943 tw5517915577709302418 tw7405432813394961496 tw7467496165032266725 tw6567317849941601547 tw1767034707875064104 tw1408437939010209399 tw5066949821763461787 tw18088754018498335846 tw4506305793579422695 tw12860111024540376174 tw937473557929038438 tw2061889093932509013 tw6591462737301317088 tw11514373233667716771 tw9617674342125327878 tw7263164446317910993 tw7356211088033917211 tw7833984848393922059 tw15842051546512539972 tw11760048469218695178 tw9500622766931220808 tw15463256182854688959 tw2124437994782278106 tw9946017374989863671 tw4329799654964034012 tw55957480752978309 tw13295563720039745261 tw9267450993331293166 tw1888187634896660710 tw10533741359161279512 tw2849034245328065438 tw7575511709485249718 tw11832388753580794537 tw15404484685247402721 tw17175196890885692547 tw16206715117491726859 tw6907069643920368904 tw13816014830057903459 tw6041739034759807488 tw5127950983067989770 tw170161230579700539 tw6623653534083369208 tw15033284771675896952 tw1231768736463058870 tw2311537335204686053 tw11357541269495594944 tw5034960447319470057 tw4630143715631413012 tw15225633688787393505 tw12644567372226466012 tw13885148775602896240 tw78438564078096165 tw11700266470176995367 tw2892403520644795429 tw7505067043039807773 tw17276368117548099767 tw14552017748610007093 tw6347504696060461675 tw11057679717429984076 tw769351660701449084 tw12257094799466034190 tw468730678884725123 tw10370089972240505506 tw16195443073857104635 tw10290358254633732683 tw2080697900365746297 tw16025901815470065932 tw7700179363285366918 tw11160975657025912630 tw4853281895387415395 tw12994710150299528816 tw10760038833926155405 tw924966348033419654 tw1958128255812721285 tw10703600883577471044 tw8451528609028308148 tw11899549947309586521 tw12602709893685813581 tw4019569087199063924 tw7094483348510469212 tw5471973943262202469 tw6610745432337473681 tw17612971684227987464 tw10974105122467933752 tw2464355194277984085 tw9032380940210066824 tw4486309703386534018 tw16632666894542616808 tw12819812467032013013 tw7806981622698674516 tw7363127420563323844 tw3182992714020554002 tw11329777727609802943 tw4886437189441658471 tw9949632975687747183 tw8488543244738935377 tw8436193387514646225 tw16380558106262868890 tw14522849458968950805 tw7545046673898277406 tw6085746843326429701 tw10570589858196045871 tw8538607203218385967 tw11057576714240052681 tw6889656659425002028 tw13299557586486963320 tw7759011170970666882 tw6682820116703137515 tw3036231751664570828 tw10941949796340341296 tw17721509484971133587 tw17610294697820631604 tw15967781744210737048 tw15858808392285183882 tw14386111862509002900 tw14326880943607770129 tw9739321867241122444 tw8133002355231591666 tw6280684536531954024 tw3145195421094344178 tw3115652494794985722 tw2089622430192182065 tw14252938626455455812 tw14187645525095766432 tw11216928234985935052 tw7619759464282586783 tw5341926288768130430 tw18362545446689289935 tw17476086480825945103 tw17237238632217587967 tw16827120028138723871 tw15260497660606859154 tw15234149612910188389 tw15103769246525140302 tw14690498937290965538 tw12701495278871275101 tw6818046276216584312 tw3236042002381741237 tw17790830824605699326 tw17284393519271898503 tw17144406157239726305 tw14147687411097245602:True)
namespace My
open PySem PySem.Spec PyProof.Rows L2
theorem us0{C:List Value->Prop}(h:C []):∀us:List Value,us.length=0->C us:=λ_ e=>List.length_eq_zero_iff.mp e▸h
theorem wK{C:List Value->Prop}{n:Nat}(h:∀(a:Value) (us:List Value),us.length=n->C (a::us)):∀us:List Value,us.length=n+1->C us:=λus e=>by
 cases us with
 |nil=>cases e
 |cons a r=>exact h a r (Nat.succ.inj e)
theorem dI{C:List Value->Prop}(h:∀a0,C [a0]):∀us:List Value,us.length=1->C us:=wK λa=>us0 (C:=λr=>C (a::r)) (h a)
theorem bZ{C:List Value->Prop}(h:∀a0 a1,C [a0,a1]):∀us:List Value,us.length=2->C us:=wK λa=>dI (C:=λr=>C (a::r)) (h a)
theorem dN{C:List Value->Prop}(h:∀a0 a1 a2,C [a0,a1,a2]):∀us:List Value,us.length=3->C us:=wK λa=>bZ (C:=λr=>C (a::r)) (h a)
theorem Fe{C:List Value->Prop}(h:∀a0 a1 a2 a3,C [a0,a1,a2,a3]):∀us:List Value,us.length=4->C us:=wK λa=>dN (C:=λr=>C (a::r)) (h a)
set_option maxHeartbeats 0 in
theorem all_mk {l:W.OpenLaw} {w:World} {K:W.Frag} {h:Heap} {mg:Str->Option Value} {fa C c0 P0 c1 P1 c2 P2:Addr} (X:K.In h) (G:h.Ns mainGlobals mg) (hfa:mg "law" = some (.ref fa)) (tx:mV K)
  (cO:ClsAt K "Order" "Order.__init__" vg C) (nC:W.findIn K (.ref C) "count" = some none) (nP:W.findIn K (.ref C) "pairs" = some none) (nR:W.findIn K (.ref C) "reach" = some none) (nJ:W.findIn K (.ref C) "joins" = some none) (nM:W.findIn K (.ref C) "meets" = some none)
  (ht:W.tabIn K "highest_first" = some (c0,P0))
  (ht1:W.tabIn K "cut" = some (c1,P1))
  (jF:W.tabIn K "side_by_side" = some (c2,P2))
  (Br:W.nsIn K mainGlobals "reversed" = some none)
  (Bs:W.nsIn K mainGlobals "set" = some none)
  (tI:aD K "is_whole" C_)
  (tH:aD K "is_thing" CZ)
  (tN:aD K "need_thing" Dt)
  (tJ:aD K "need_count" Dp)
  (tM:aD K "need_pairs" Ds)
  (tO:aD K "own_row" vG)
  (tE:aD K "either" vn)
  (tR:aD K "shared" vI)
  (tD:aD K "column" vi)
  (tQ:aD K "reach_of" rA)
  (tS:aD K "twos" vO)
  (tL:aD K "need_one_way" Dr)
  (tG:aD K "ends_with" vq)
  (tF:aD K "ends_of" vo)
  (tK:aD K "need_ends" Dq)
  (tP:aD K "pairs_of" vH)
  (yW:aD K "is_below" CW)
  (yX:aD K "is_step" vw)
  (zG:aD K "steps" vK)
  (y8:aD K "_law_cell_at" Dd)
  (zo:aD K "_law_mixed" Dj)
  (zf:aD K "_law_draws" Dg)
  (zH:aD K "steps_above" vL)
  (yU:aD K "highest_first" vv)
  (yP:aD K "climbs_to" rq)
  (yZ:aD K "join_of_meet" Dc)
  (zD:aD K "meet_of_join" Dn)
  (zK:aD K "uneven" Du)
  (yT:aD K "heights_of" vt)
  (yS:aD K "five_of" CT)
  (yR:aD K "evenness" CQ)
  (yV:aD K "how_many" CV)
  (zl:aD K "_law_masks" vD)
  (zv:aD K "_law_ups" Dm)
  (zq:aD K "_law_pairs" vE)
  (zi:aD K "_law_is_step" vC)
  (zt:aD K "_law_parity" Dk)
  (zu:aD K "_law_planes" Dl)
  (zh:aD K "_law_handed" Dh)
  (zx:MethAt K C "at_most" "Order.at_most" CG)
  (zA:MethAt K C "join" "Order.join" CK)
  (zC:MethAt K C "meet" "Order.meet" CP)
  (zB:MethAt K C "lowest" "Order.lowest" CN)
  (zy:MethAt K C "highest" "Order.highest" CJ)
  (yO:aD K "between" vh)
  (zE:aD K "order_by" vF)
  (yQ:aD K "cut" vk)
  (zJ:aD K "two_things" vN)
  (zF:aD K "side_by_side" vJ)
  (zI:aD K "turned" vM)
  (zk:aD K "_law_laid_in" Di)
  (y7:aD K "_law_alone_well" vA)
  (y9:aD K "_law_climbs_well" De)
  (y_:aD K "_law_cuts_well" vB)
  (zg:aD K "_law_family" mz)
  (zc:aD K "_law_drawn" Df)
  (y6:aD K "law" kN) :
  ∃fd:FuncData,(∀(s:Shared) (v:Value),BindsTo s fd ⟨[v],[]⟩ [("_law_script", v)])/\∀base:Heap,K.In base->base.Ns mainGlobals mg->TabAt base mg c0 P0->TabAt base mg c1 P1->TabAt base mg c2 P2->aN l.prog w K mg base aS 40 fa fd ["_law_script"] (vZ K P0 P1 P2):=by
 have T:=tx.txt X G;have TC:cD K C:=⟨cO.cl,nC,nP,nR,nJ,nM⟩;obtain⟨f,fd,a,F⟩:=y6.ex;have e:=hfa.symm.trans (W.mg_of X G a);cases e;obtain⟨oc,od,kV,doc,pm,an,cdv,ct,osl,rfl,lk,hcd⟩:=id F.ex;refine⟨W.fnOf "law" "law" (ik kN) (fZ kN) (aE kN) .none kV doc pm an cdv ct,λs v=>.of_eq rfl,λbase _ _ tb tb1 tb2=>?_⟩;have zR:=W.mg_none_of X G Br;have nQ:=W.mg_none_of X G Bs;have jv:ao l.prog w K mg base "is_whole" ["value"] 1 rF:=tI.cal X G (λ_ _ _ _ _ _=>dI λ_=>rfl) (λF=>L5 F T);have pS:ao l.prog w K mg base "is_thing" ["count","number"] 2 vX:=tH.cal X G (λ_ _ _ _ _ _=>bZ λ_ _=>rfl) (λF=>LW F T jv);have dv:ao l.prog w K mg base "need_thing" ["count","number"] 3 kQ:=tN.cal X G (λ_ _ _ _ _ _=>bZ λ_ _=>rfl) (λF=>Ma F T pS);have kg:ao l.prog w K mg base "need_count" ["count"] 2 rG:=tJ.cal X G (λ_ _ _ _ _ _=>dI λ_=>rfl) (λF=>L7 F T jv);have p7:ao l.prog w K mg base "need_pairs" ["count","pairs"] 4 (wt K):=tM.cal X G (λ_ _ _ _ _ _=>bZ λ_ _=>rfl) (λF=>L_ F T dv);have p8:ao l.prog w K mg base "own_row" ["count","thing"] 1 wx:=tO.cal X G (λ_ _ _ _ _ _=>bZ λ_ _=>rfl) (λF=>Mb F T);have pP:ao l.prog w K mg base "either" ["one","other"] 1 vS:=tE.cal X G (λ_ _ _ _ _ _=>bZ λ_ _=>rfl) (λF=>LC F T);have qa:ao l.prog w K mg base "shared" ["one","other"] 1 wB:=tR.cal X G (λ_ _ _ _ _ _=>bZ λ_ _=>rfl) (λF=>Mh F T);have pO:ao l.prog w K mg base "column" ["rows","place"] 1 vP:=tD.cal X G (λ_ _ _ _ _ _=>bZ λ_ _=>rfl) (λF=>Lz F T);have p_:ao l.prog w K mg base "reach_of" ["count","pairs"] 2 (wA K):=tQ.cal X G (λ_ _ _ _ _ _=>bZ λ_ _=>rfl) (λF=>Mg F T p8 pP);have jw:ao l.prog w K mg base "twos" ["count"] 1 rH:=tS.cal X G (λ_ _ _ _ _ _=>dI λ_=>rfl) (λF=>Mi F T);have pZ:ao l.prog w K mg base "need_one_way" ["count","reach"] 2 wq:=tL.cal X G (λ_ _ _ _ _ _=>bZ λ_ _=>rfl) (λF=>L9 F T jw);have pQ:ao l.prog w K mg base "ends_with" ["rows","things","thing"] 2 (vU K):=tG.cal X G (λ_ _ _ _ _ _=>dN λ_ _ _=>rfl) (λF=>LQ F T qa);have m5:ao l.prog w K mg base "ends_of" ["rows"] 3 (vT K):=tF.cal X G (λ_ _ _ _ _ _=>dI λ_=>rfl) (λF=>LK F T pQ);have pX:ao l.prog w K mg base "need_ends" ["count","joins","meets"] 2 wo:=tK.cal X G (λ_ _ _ _ _ _=>dN λ_ _ _=>rfl) (λF=>L8 F T jw);have p9:ao l.prog w K mg base "pairs_of" ["count","reach"] 1 wz:=tP.cal X G (λ_ _ _ _ _ _=>bZ λ_ _=>rfl) (λF=>Mf F T);have ie:k6 l.prog w K mg base C "Order" ["self","count","pairs"] 5 (oC K C):=cO.cal X G (λ_ _ _ _ _ _=>dN λ_ _ _=>rfl) (λF=>LR F T TC kg p7 p_ pZ m5 pO pX p9);have pR:ao l.prog w K mg base "is_below" ["order","a","b"] 1 (DW C):=yW.cal X G (λ_ _ _ _ _ _=>dN λ_ _ _=>rfl) (λF=>YD F T TC);have yq:ao l.prog w K mg base "is_step" ["order","a","b"] 2 (DX C):=yX.cal X G (λ_ _ _ _ _ _=>dN λ_ _ _=>rfl) (λF=>YF F T TC pR);have yC:ao l.prog w K mg base "steps" ["order"] 3 (Eh C):=zG.cal X G (λ_ _ _ _ _ _=>dI λ_=>rfl) (λF=>Y5 F T TC yq);have pU:ao l.prog w K mg base "_law_cell_at" ["_law_script","_law_k"] 1 (Dz K):=y8.cal X G (λ_ _ _ _ _ _=>bZ λ_ _=>rfl) (λF=>Yo F T);have yy:ao l.prog w K mg base "_law_mixed" ["_law_cell","_law_place"] 1 Ee:=zo.cal X G (λ_ _ _ _ _ _=>bZ λ_ _=>rfl) (λF=>YX F T);have m_:ao l.prog w K mg base "_law_draws" ["_law_cell","_law_many"] 2 vR:=zf.cal X G (λ_ _ _ _ _ _=>bZ λ_ _=>rfl) (λF=>Yu F T yy);have nq:ao l.prog w K mg base "steps_above" ["order"] 4 (wD C):=zH.cal X G (λ_ _ _ _ _ _=>dI λ_=>rfl) (λF=>Y4 F T TC yC);have m6:ao l.prog w K mg base "highest_first" ["order"] 1 (vV C P0):=yU.yF X G (λ_ _ _ _ _ _=>dI λ_=>rfl) ht (λF hc=>YB F hc tb T TC);have yl:ao l.prog w K mg base "climbs_to" ["order","above","end"] 2 (DG C P0):=yP.cal X G (λ_ _ _ _ _ _=>dN λ_ _ _=>rfl) (λF=>Yp F T TC m6);have m8:ao l.prog w K mg base "join_of_meet" ["order","a","b","c"] 1 (vY C):=yZ.cal X G (λ_ _ _ _ _ _=>Fe λ_ _ _ _=>rfl) (λF=>YH F T TC);have nh:ao l.prog w K mg base "meet_of_join" ["order","a","b","c"] 1 (wk C):=zD.cal X G (λ_ _ _ _ _ _=>Fe λ_ _ _ _=>rfl) (λF=>YZ F T TC);have yE:ao l.prog w K mg base "uneven" ["order"] 2 (Ek C):=zK.cal X G (λ_ _ _ _ _ _=>dI λ_=>rfl) (λF=>Y8 F T TC m8 nh);have yo:ao l.prog w K mg base "heights_of" ["order"] 5 (DT C P0):=yT.cal X G (λ_ _ _ _ _ _=>dI λ_=>rfl) (λF=>Yz F T TC zR nq m6);have yn:ao l.prog w K mg base "five_of" ["order","triple"] 2 (DR K C):=yS.cal X G (λ_ _ _ _ _ _=>bZ λ_ _=>rfl) (λF=>Yx F T TC m8 nh);have eZ:ao l.prog w K mg base "evenness" ["order"] 6 (rE C P0):=yR.cal X G (λ_ _ _ _ _ _=>dI λ_=>rfl) (λF=>Yv F T yE yo yn);have ju:ao l.prog w K mg base "how_many" ["order","a","b"] 5 (vW C P0):=yV.cal X G (λ_ _ _ _ _ _=>dN λ_ _ _=>rfl) (λF=>YC F T TC dv nq yl);have ng:ao l.prog w K mg base "_law_masks" ["_law_numbers","_law_wide","_law_most"] 1 (wg K):=zl.cal X G (λ_ _ _ _ _ _=>dN λ_ _ _=>rfl) (λF=>YW F T nQ);have yB:ao l.prog w K mg base "_law_ups" ["_law_family_here","_law_numbers"] 1 (El K):=zv.cal X G (λ_ _ _ _ _ _=>bZ λ_ _=>rfl) (λF=>Y9 F T);have lE:ao l.prog w K mg base "_law_pairs" ["_law_ups_here"] 1 (wy K):=zq.cal X G (λ_ _ _ _ _ _=>dI λ_=>rfl) (λF=>Y0 F T);have yw:ao l.prog w K mg base "_law_is_step" ["_law_ups_here","_law_a","_law_b"] 1 (DY K):=zi.cal X G (λ_ _ _ _ _ _=>dN λ_ _ _=>rfl) (λF=>YG F T);have yz:ao l.prog w K mg base "_law_parity" ["_law_number"] 1 Ef:=zt.cal X G (λ_ _ _ _ _ _=>dI λ_=>rfl) (λF=>Y1 F T);have yA:ao l.prog w K mg base "_law_planes" ["_law_wide"] 2 (Eg K):=zu.cal X G (λ_ _ _ _ _ _=>dI λ_=>rfl) (λF=>Y2 F T yz ng);have sJ:ao l.prog w K mg base "_law_handed" ["_law_ups_here","_law_numbers"] 2 (DS K):=zh.cal X G (λ_ _ _ _ _ _=>bZ λ_ _=>rfl) (λF=>Yy F T lE yw);have mZ:fx l.prog w K mg base C "at_most" ["self","a","b"] 4 (wc C):=zx.cal (λ_ _ _ _ _ _=>dN λ_ _ _=>rfl) (λF=>YL F T TC dv);have pT:fx l.prog w K mg base C "join" ["self","a","b"] 4 (Eb C):=zA.cal (λ_ _ _ _ _ _=>dN λ_ _ _=>rfl) (λF=>YQ F T TC dv);have pW:fx l.prog w K mg base C "meet" ["self","a","b"] 4 (Ed C):=zC.cal (λ_ _ _ _ _ _=>dN λ_ _ _=>rfl) (λF=>YT F T TC dv);have pV:fx l.prog w K mg base C "lowest" ["self"] 1 (Ec C):=zB.cal (λ_ _ _ _ _ _=>dI λ_=>rfl) (λF=>YS F T TC);have lD:fx l.prog w K mg base C "highest" ["self"] 1 (Ea C):=zy.cal (λ_ _ _ _ _ _=>dI λ_=>rfl) (λF=>YM F T TC);have yk:ao l.prog w K mg base "between" ["order","a","b"] 5 (Dy C):=yO.cal X G (λ_ _ _ _ _ _=>dN λ_ _ _=>rfl) (λF=>Yn F T TC mZ);have ni:oM l.prog w K mg "order_by" ["things","is_at_most"] 7 1 2 (wu K C):=by
  obtain⟨f,fd,a,F⟩:=zE.ex;refine⟨f,fd,λbase p kO LO=>?_,W.mg_of X G a,F.kp,F.binds (λ_ _ _ _ _ _=>bZ λ_ _=>rfl)⟩;have jv:ao l.prog w K mg base "is_whole" ["value"] 1 rF:=tI.cal X G (λ_ _ _ _ _ _=>dI λ_=>rfl) (λF=>L5 F T);have pS:ao l.prog w K mg base "is_thing" ["count","number"] 2 vX:=tH.cal X G (λ_ _ _ _ _ _=>bZ λ_ _=>rfl) (λF=>LW F T jv);have dv:ao l.prog w K mg base "need_thing" ["count","number"] 3 kQ:=tN.cal X G (λ_ _ _ _ _ _=>bZ λ_ _=>rfl) (λF=>Ma F T pS);have kg:ao l.prog w K mg base "need_count" ["count"] 2 rG:=tJ.cal X G (λ_ _ _ _ _ _=>dI λ_=>rfl) (λF=>L7 F T jv);have p7:ao l.prog w K mg base "need_pairs" ["count","pairs"] 4 (wt K):=tM.cal X G (λ_ _ _ _ _ _=>bZ λ_ _=>rfl) (λF=>L_ F T dv);have p8:ao l.prog w K mg base "own_row" ["count","thing"] 1 wx:=tO.cal X G (λ_ _ _ _ _ _=>bZ λ_ _=>rfl) (λF=>Mb F T);have pP:ao l.prog w K mg base "either" ["one","other"] 1 vS:=tE.cal X G (λ_ _ _ _ _ _=>bZ λ_ _=>rfl) (λF=>LC F T);have qa:ao l.prog w K mg base "shared" ["one","other"] 1 wB:=tR.cal X G (λ_ _ _ _ _ _=>bZ λ_ _=>rfl) (λF=>Mh F T);have pO:ao l.prog w K mg base "column" ["rows","place"] 1 vP:=tD.cal X G (λ_ _ _ _ _ _=>bZ λ_ _=>rfl) (λF=>Lz F T);have p_:ao l.prog w K mg base "reach_of" ["count","pairs"] 2 (wA K):=tQ.cal X G (λ_ _ _ _ _ _=>bZ λ_ _=>rfl) (λF=>Mg F T p8 pP);have jw:ao l.prog w K mg base "twos" ["count"] 1 rH:=tS.cal X G (λ_ _ _ _ _ _=>dI λ_=>rfl) (λF=>Mi F T);have pZ:ao l.prog w K mg base "need_one_way" ["count","reach"] 2 wq:=tL.cal X G (λ_ _ _ _ _ _=>bZ λ_ _=>rfl) (λF=>L9 F T jw);have pQ:ao l.prog w K mg base "ends_with" ["rows","things","thing"] 2 (vU K):=tG.cal X G (λ_ _ _ _ _ _=>dN λ_ _ _=>rfl) (λF=>LQ F T qa);have m5:ao l.prog w K mg base "ends_of" ["rows"] 3 (vT K):=tF.cal X G (λ_ _ _ _ _ _=>dI λ_=>rfl) (λF=>LK F T pQ);have pX:ao l.prog w K mg base "need_ends" ["count","joins","meets"] 2 wo:=tK.cal X G (λ_ _ _ _ _ _=>dN λ_ _ _=>rfl) (λF=>L8 F T jw);have p9:ao l.prog w K mg base "pairs_of" ["count","reach"] 1 wz:=tP.cal X G (λ_ _ _ _ _ _=>bZ λ_ _=>rfl) (λF=>Mf F T);have ie:k6 l.prog w K mg base C "Order" ["self","count","pairs"] 5 (oC K C):=cO.cal X G (λ_ _ _ _ _ _=>dN λ_ _ _=>rfl) (λF=>LR F T TC kg p7 p_ pZ m5 pO pX p9);exact Y_ F T ie LO
 have kf:ao l.prog w K mg base "cut" ["order","a","b"] 8 (vQ C P1):=yQ.yF X G (λ_ _ _ _ _ _=>dN λ_ _ _=>rfl) ht1 (λF hc=>Yq F hc tb1 T TC yk ni);have yD:ao l.prog w K mg base "two_things" ["one","other"] 1 (Ej C):=zJ.cal X G (λ_ _ _ _ _ _=>bZ λ_ _=>rfl) (λF=>Y7 F T TC);have nj:ao l.prog w K mg base "side_by_side" ["one","other"] 8 (wC C P2):=zF.yF X G (λ_ _ _ _ _ _=>bZ λ_ _=>rfl) jF (λF hc=>Y3 F hc tb2 T TC kg yD ni);have sM:ao l.prog w K mg base "turned" ["order"] 7 (Ei C):=zI.cal X G (λ_ _ _ _ _ _=>dI λ_=>rfl) (λF=>Y6 F T TC ie);have yx:ao l.prog w K mg base "_law_laid_in" ["_law_one","_law_other"] 1 D_:=zk.cal X G (λ_ _ _ _ _ _=>bZ λ_ _=>rfl) (λF=>YJ F T);have sH:ao l.prog w K mg base "_law_alone_well" ["_law_order","_law_a","_law_b"] 9 (Dx C P0 P1):=y7.cal X G (λ_ _ _ _ _ _=>dN λ_ _ _=>rfl) (λF=>Ym F T TC eZ sM ju kf);have yt:ao l.prog w K mg base "_law_climbs_well" ["_law_one","_law_other","_law_both"] 7 (DN C P0):=y9.cal X G (λ_ _ _ _ _ _=>dN λ_ _ _=>rfl) (λF=>Ys F T TC eZ ju yx pV lD);have yu:ao l.prog w K mg base "_law_cuts_well" ["_law_one","_law_other","_law_both","_law_ends"] 9 (DK K C P1 P2):=y_.cal X G (λ_ _ _ _ _ _=>Fe λ_ _ _ _=>rfl) (λF=>Yr F T TC pT pW mZ kf nj);have yv:ao l.prog w K mg base "_law_family" ["_law_draws_here","_law_most"] 3 (DQ K):=zg.cal X G (λ_ _ _ _ _ _=>bZ λ_ _=>rfl) (λF=>Yw F T nQ ng yA);have sI:ao l.prog w K mg base "_law_drawn" ["_law_cell","_law_most"] 4 DP:=zc.cal X G (λ_ _ _ _ _ _=>bZ λ_ _=>rfl) (λF=>Yt F T m_ yv yB);exact(YK F T TC pU m_ sI sJ lE nj eZ sH yt yu ie).mono (by decide)
end My
open PySem PySem.W PyProof.Rows
set_option maxRecDepth 100000 in
set_option maxHeartbeats 0 in
theorem PySem.Challenge.cw_evenclimb_k57_whole_orders_put_together_holds : PySem.Challenge.rw_evenclimb_k57_whole_orders_put_together.Holds := by
 w_on;o_law;k_head;(case hw=>w_witness2)
 k_fill
 refine' My.abu (l:=PySem.Challenge.rw_evenclimb_k57_whole_orders_put_together) rfl rfl (λw h Y=>⟨PySem.W.km_in_of Y,G9 Y _ (List.Mem.tail _ (List.Mem.head _)),G9 Y _ (List.Mem.head _),G9 Y _ (List.Mem.tail _ (List.Mem.tail _ (List.Mem.head _)))⟩) ?hT ?hT1 ?hT2 ?noT ?hne ?F
 case F =>
  intro w mg fa h KX G hmg
  refine' My.all_mk KX G hmg ?tx ?cO ?nC ?nP ?nR ?nJ ?nM ?ht ?ht1 ?jF ?Br ?Bs ?tI ?tH ?tN ?tJ ?tM ?tO ?tE ?tR ?tD ?tQ ?tS ?tL ?tG ?tF ?tK ?tP ?yW ?yX ?zG ?y8 ?zo ?zf ?zH ?yU ?yP ?yZ ?zD ?zK ?yT ?yS ?yR ?yV ?zl ?zv ?zq ?zi ?zt ?zu ?zh ?zx ?zA ?zC ?zB ?zy ?yO ?zE ?yQ ?zJ ?zF ?zI ?zk ?y7 ?y9 ?y_ ?zg ?zc ?y6
  (case tx=>(refine' My.mV.mk' ?l1 ?l2 ?l3 ?l4 ?l5 ?l6 ?l7 ?l8 ?l9 ?l10 ?Bh ?qA ?Bi ?qB ?Bj ?Bk ?m);(case l1=>k_is);(case l2=>k_is);(case l3=>k_is);(case l4=>k_is);(case l5=>k_is);(case l6=>k_is);(case l7=>k_is);(case l8=>k_is);(case l9=>k_is);(case l10=>k_is);(case Bh=>k_is);(case qA=>k_is);(case Bi=>k_is);(case qB=>k_is);(case Bj=>k_is);(case Bk=>k_is);(case m=>k_is);skip)
  (case cO=>(refine' My.ClsAt.mk' ?ns ?pg ?hd ?po ?sa ?mk ?kc ?a ?i ?l ?c ?k);(case ns=>k_is);(case pg=>k_is);(case hd=>k_is);(case po=>k_is);(case sa=>k_is);(case mk=>k_is);(case kc=>k_is);(case a=>k_is);(case i=>k_is);(case l=>k_is);(case c=>k_is);(case k=>k_is))
  (case nC|nP|nR|nJ|nM=>k_is)
  (case ht|ht1|jF=>((refine' My.Ez ?a ?l ?c ?l2 ?v);(case a=>k_is);(case l=>k_is);(case c=>exact rfl);(case l2=>k_is);(case v=>exact rfl)))
  (case Br|Bs=>k_is)
  (case tI|tH|tN|tJ|tM|tO|tE|tR|tD|tQ|tS|tL|tG|tF|tK|tP|yW|yX|zG|y8|zo|zf|zH|yU|yP|yZ|zD|zK|yT|yS|yR|yV|zl|zv|zq|zi|zt|zu|zh=>(refine' My.aD.mk' ?a ?l ?c ?k);(case a=>k_is);(case l=>k_is);(case c=>k_is);(case k=>k_is))
  (case zx|zA|zC|zB|zy=>(refine' My.MethAt.mk' ?a ?i ?l ?c ?k);(case a=>k_is);(case i=>k_is);(case l=>k_is);(case c=>k_is);(case k=>k_is))
  (case yO|zE|yQ|zJ|zF|zI|zk|y7|y9|y_|zg|zc|y6=>(refine' My.aD.mk' ?a ?l ?c ?k);(case a=>k_is);(case l=>k_is);(case c=>k_is);(case k=>k_is))
 case hT=>(intro w;kernel_rfl)
 case hT1=>(intro w;kernel_rfl)
 case hT2=>(intro w;kernel_rfl)
 case hne=>decide
 case noT=>(intro w;kernel_rfl)
